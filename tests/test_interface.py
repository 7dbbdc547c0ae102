"""The interface as the document lists it: each name in its file, with these arguments in this order."""

import importlib
import inspect
import unittest

INTERFACE = {
    "numbers": ("inverse(prime, number)", "powers(prime, number, many)", "rank_of(prime, rows)",
                "one_answer(prime, rows, right)"),
    "schemes": ("is_scheme(value)", "points_of(scheme)", "room_of(scheme)", "size_of(scheme)",
                "line_of(scheme, shelf)", "short_line(scheme, shelf)"),
    "codes": ("table_of(scheme, message)", "pieces_of(scheme, message)", "read_from(scheme, shelves, pieces)",
              "letter(scheme, piece, lost)", "mended(scheme, lost, givers, letters)"),
    "sure": ("read_sure(scheme, wrong, shelves, pieces)", "mend_sure(scheme, wrong, lost, givers, letters)"),
    "bound": ("most_numbers(parts, helpers, room, letters)", "least_room(size, parts, helpers, letters)",
              "least_letters(size, parts, helpers, room)"),
    "told": ("is_told(value)", "does_read(told, lot)", "blind(told, lot)", "does_mend(told, lost, givers)",
             "unmended(told, lost, givers)", "is_right(told, parts, helpers)", "told_of(scheme)"),
    "disks": ("is_block(value)", "is_disk(value)", "fresh_disk(homes)", "written(disk, place, block)",
              "torn_at(disk, place)", "run_writes(disk, writes, count, torn)"),
    "journals": ("is_sound(value)", "is_quiet(value)", "contents(disk)", "batch_steps(disk, batch)",
                 "disk_mending(disk)", "mended_disk(disk)"),
    "histories": ("after_history(disk, history)", "told_contents(told, history)"),
    "shelves": ("is_root(value)", "is_shelf(value)", "shelf_meaning(disk)", "shelf_root(disk)", "held(disk)",
                "piece_of(disk, chunk)", "home_of(disk, chunk)", "free_homes(disk)", "put_batch(disk, chunk, piece)",
                "drop_batch(disk, chunk)", "root_batch(disk, root)"),
    "shelfruns": ("shelf_batch(disk, deed)", "shelf_after(disk, history)", "shelf_told(meaning, homes, history)"),
    "placement": ("score(chunk, shelf)", "order_of(chunk, used)", "placed(chunk, used, width)",
                  "gone_and_come(chunk, used, other, width)", "load(used, width, shelf)"),
    "trees": ("is_name(value)", "is_path(value)", "is_view(value)", "node_at(view, path)", "paths_of(view)",
              "deepest(view)", "tree_deed(view, deed)"),
    "packing": ("packed_whole(number)", "unpacked_whole(numbers)", "packed_name(name)", "unpacked_name(numbers)",
                "is_meta(value)", "packed(meta)", "unpacked(numbers)"),
    "files": ("many_chunks(scheme, length)", "cut_up(scheme, numbers)", "put_together(scheme, length, messages)"),
    "meanings": ("is_meaning(value)", "is_request(value)", "mark_of(meaning, client)",
                 "answer(meaning, width, request)", "answers(meaning, width, requests)"),
    "clusters": ("is_cluster(value)", "new_cluster(scheme, width, used, homes)", "standing(cluster)",
                 "contents_of(cluster)", "done_steps(cluster, steps)", "cut_steps(cluster, steps, count, torn)"),
    "reading": ("root_of(cluster)", "holders(cluster, chunk)", "right_holders(cluster, chunk)",
                "chunk_message(cluster, chunk)", "piece_for(cluster, chunk, shelf)", "meta_of(cluster)",
                "named(cluster)", "meaning(cluster)"),
    "harm": ("burnt(cluster, shelf)", "renewed(cluster, shelf)", "rotten(cluster, shelf, chunk, piece)"),
    "surveys": ("survey(cluster)", "spare(cluster)", "losing_lot(cluster)"),
    "mending": ("phases_of(cluster)", "steps_to_mend(cluster)", "is_mended(cluster)", "mended_cluster(cluster)",
                "givers_of(cluster)", "numbers_sent(cluster)"),
    "requests": ("request_steps(cluster, request)", "decided_from(cluster, request)", "read(cluster, path)"),
    "runs": ("begin(cluster)", "after_event(run, event)", "after_events(run, events)", "is_held(run)"),
    "wishes": ("is_wish(value)", "is_client(value)", "is_letter(value)", "waits_at(client)", "seq_at(client, at)",
               "takes(client, letter, name)"),
    "post": ("new_post(cluster, scripts)", "is_post(value)", "after_event(post, event)", "after_events(post, events)",
             "settled(post)", "answers_of(post)"),
    "records": ("record(post, events)",),
    "console": ("answer_line(state, line)", "talk(lines)"),
    "checker": ("accepts(claim, paper)",),
    "certificates": ("certify_reading(told, lot)", "certify_mending(told, lost, givers)", "certify_meaning(cluster)",
                     "certify_mended(cluster)", "certify_reply(cluster, request)",
                     "certify_order(cluster, scripts, events)"),
}


class Interface(unittest.TestCase):

    def test_names_and_arguments(self):
        for module, listed in INTERFACE.items():
            found = importlib.import_module("lettermend." + module)
            for text in listed:
                function = getattr(found, text.partition("(")[0])
                with self.subTest(module=module, function=text):
                    self.assertTrue(inspect.isfunction(function))
                    self.assertEqual(function.__module__, found.__name__)
                    self.assertEqual(function.__name__ + str(inspect.signature(function)), text)


if __name__ == "__main__":
    unittest.main()
