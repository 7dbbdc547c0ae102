"""Work on the shelves of a cluster: batches done one after the other, and the steps that they are."""

from lettermend.journals import steps_for


class Work:
    """What all shelves hold behind the batches that were done, None for a burnt one, and the steps of these."""

    def __init__(self, told):
        self.held = [None if blocks is None else list(blocks) for blocks in told]
        self.steps = []

    def do(self, shelf, batch):
        """Does a batch on a shelf that stands."""
        for place, block in batch:
            self.held[shelf][place - 9] = block
        self.steps.extend([(shelf, place, block) for place, block in steps_for(batch)])

    def empty(self, shelf, places):
        """Makes these places of a shelf free, eight of them in a batch."""
        for at in range(0, len(places), 8):
            self.do(shelf, tuple([(place, ()) for place in places[at:at + 8]]))

    def taken(self):
        """The tuple of the steps since they were taken last."""
        steps = tuple(self.steps)
        self.steps = []
        return steps
