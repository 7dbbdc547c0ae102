"""Certificates: claims that are so, each with a paper that the checker accepts for it."""

from lettermend.clusters import check_cluster
from lettermend.mending import steps_to_mend
from lettermend.post import new_post
from lettermend.records import record
from lettermend.requests import request_steps
from lettermend.sights import seen
from lettermend.told import blind, does_mend, does_read, unmended


def certify_reading(told, lot):
    """That the lot reads, or that it does not, with its paper."""
    if does_read(told, lot):
        return ("reads", told, lot), ()
    return ("blind", told, lot), blind(told, lot)


def certify_mending(told, lost, givers):
    """That the givers mend the lost shelf, or that they do not, with its paper."""
    if does_mend(told, lost, givers):
        return ("mends", told, lost, givers), ()
    return ("mends not", told, lost, givers), unmended(told, lost, givers)


def certify_meaning(cluster):
    """What the cluster means, with the messages of all named chunks."""
    check_cluster(cluster)
    sight = seen(cluster)
    paper = tuple([(chunk, sight.message(chunk)) for chunk in sight.chunks()])
    return ("means", cluster, sight.meaning()), paper


def certify_mended(cluster):
    """That the cluster is mended, or that it is not, with the first step of its mending."""
    steps = steps_to_mend(cluster)
    if steps:
        return ("unmended", cluster), steps[0]
    return ("mended", cluster), ()


def certify_reply(cluster, request):
    """What the mended cluster replies to the request, with its paper."""
    reply = request_steps(cluster, request)[0]
    return ("replies", cluster, request, reply), ()


def certify_order(cluster, scripts, events):
    """That the run on a new post is that of a plain store, with its record."""
    return ("order", cluster, scripts, events), record(new_post(cluster, scripts), events)
