"""The office in which a post's events are done: letters come and go, and the store answers on mended clusters."""

from lettermend.clustererrors import Lost
from lettermend.errors import Full
from lettermend.harm import after_burning, after_renewing
from lettermend.mending import after_mending_cut, after_mending_whole
from lettermend.requests import after_request
from lettermend.rooms import is_room, node_in
from lettermend.sights import seen, seen_or_none
from lettermend.surveys import spare_in
from lettermend.wishes import is_read, seq_of, shown, waiting_at

MOST_LETTERS = 60


def mended_or_none(cluster):
    """The cluster behind its whole mending; None if it is not readable or mending tells Full."""
    try:
        mended = after_mending_whole(cluster)
    except (Lost, Full):
        return None
    return mended


def found_at(view, path):
    """The numbers of the file that stands at the path; None if none does."""
    node = node_in(view, path)
    return None if node is None or is_room(node) else node[1]


def answer_and_after(cluster, letter):
    """The pair of the answer to an ask letter and of the cluster behind it, told the mended cluster."""
    _, name, _, seq, wish = letter
    if is_read(wish):
        return found_at(seen(cluster).meaning()[3], wish[1]), cluster
    return after_request(cluster, (name, seq, wish), None, False)


def may_burn(cluster, shelf):
    """Whether the shelf stands and the cluster is readable and can spare one."""
    if shelf >= len(cluster[2]) or cluster[2][shelf] is None:
        return False
    sight = seen_or_none(cluster)
    return sight is not None and spare_in(sight) > 0


class Office:
    """A post on which events are done, one after the other, and what clients sent and took in which of them."""

    def __init__(self, post):
        self.cluster = post[0]
        self.clients = list(post[1])
        # Beside each letter stands the index of the event in which its answer was made, None if before the run.
        self.letters = [(letter, None) for letter in post[2]]
        self.at = 0
        # By a client's index and that of its wish: when it was first sent, and when its answer was made and taken.
        self.sent = {}
        self.took = {}

    def post(self):
        """The post as it is now."""
        return self.cluster, tuple(self.clients), tuple([pair[0] for pair in self.letters])

    def is_there(self, index):
        """Whether there is a letter at this index."""
        return index < len(self.letters)

    def send(self, name):
        """The client sends the wish for which it waits."""
        at = waiting_at(self.clients[name]) if name < len(self.clients) else None
        if at is None or len(self.letters) == MOST_LETTERS:
            return
        client = self.clients[name]
        self.letters.append((("ask", name, at, seq_of(client, at), client[1][at]), None))
        self.sent.setdefault((name, at), self.at)

    def double(self, index):
        """The letter is put at the end a second time."""
        if self.is_there(index) and len(self.letters) < MOST_LETTERS:
            self.letters.append(self.letters[index])

    def lose(self, index):
        """The letter is taken out."""
        if self.is_there(index):
            del self.letters[index]

    def bring(self, index):
        """The letter is taken out, and answered or shown to its client."""
        if not self.is_there(index):
            return
        letter, made = self.letters[index]
        if letter[0] == "told":
            del self.letters[index]
            self.show(letter, made)
            return
        mended = mended_or_none(self.cluster)
        if mended is not None:
            del self.letters[index]
            answer, self.cluster = answer_and_after(mended, letter)
            self.letters.append((("told", letter[1], letter[2], answer), self.at))

    def show(self, letter, made):
        """The told letter is shown to its client."""
        name = letter[1]
        client = shown(self.clients[name], letter, name)
        if client != self.clients[name]:
            self.took[(name, letter[2])] = (made, self.at)
            self.clients[name] = client

    def cut(self, index, count, torn):
        """The letter is taken out, and the steps of the deed for which it asks are run to the cut."""
        if not self.is_there(index):
            return
        letter = self.letters[index][0]
        mended = mended_or_none(self.cluster)
        if letter[0] == "ask" and mended is None:
            return
        del self.letters[index]
        if letter[0] == "ask" and not is_read(letter[4]):
            self.cluster = after_request(mended, (letter[1], letter[3], letter[4]), count, torn)[1]

    def mend(self, count, torn):
        """The steps of the mending are run to the cut."""
        try:
            self.cluster = after_mending_cut(self.cluster, count, torn)
        except (Lost, Full):
            return

    def burn(self, shelf):
        """The shelf burns, if it stands and can be spared."""
        if may_burn(self.cluster, shelf):
            self.cluster = after_burning(self.cluster, shelf)

    def renew(self, shelf):
        """The shelf is renewed, if it is burnt."""
        if shelf < len(self.cluster[2]) and self.cluster[2][shelf] is None:
            self.cluster = after_renewing(self.cluster, shelf)

    def do_on_letters(self, word, parts):
        """Does what the word of an event tells of letters."""
        if word == "send":
            self.send(parts[0])
        elif word == "double":
            self.double(parts[0])
        elif word == "lose":
            self.lose(parts[0])
        elif word == "bring":
            self.bring(parts[0])
        elif word == "cut":
            self.cut(parts[0], parts[1], parts[2])

    def do(self, event):
        """Does the event, the next one of the run."""
        word, parts = event[0], event[1:]
        if word == "mend":
            self.mend(parts[0], parts[1])
        elif word == "burn":
            self.burn(parts[0])
        elif word == "new":
            self.renew(parts[0])
        else:
            self.do_on_letters(word, parts)
        self.at += 1

    def serve(self, name):
        """The client asks, and is answered at once, as long as it waits and takes the answer."""
        at = waiting_at(self.clients[name])
        while at is not None:
            self.send(name)
            self.bring(0)
            self.bring(0)
            ahead, at = at, waiting_at(self.clients[name])
            if at == ahead:
                return

    def settle(self):
        """All letters are lost, the store is renewed and mended, and each client asks as long as it is answered."""
        self.letters = []
        for shelf in range(len(self.cluster[2])):
            self.renew(shelf)
        self.cluster = after_mending_whole(self.cluster)
        for name in range(len(self.clients)):
            self.serve(name)
