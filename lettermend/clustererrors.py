"""Errors of trees, packing, requests, clusters, runs, the post and the console."""

from lettermend.errors import StoreError


class InvalidName(StoreError):
    """What was passed as a name is none."""

    def __init__(self, given):
        self.given = given


class InvalidPath(StoreError):
    """What was passed as a path is none."""

    def __init__(self, given):
        self.given = given


class InvalidView(StoreError):
    """What was passed as a view is none."""

    def __init__(self, given):
        self.given = given


class InvalidMeta(StoreError):
    """What was passed as a META is none."""

    def __init__(self, given):
        self.given = given


class InvalidLength(StoreError):
    """What was passed as a length is none that is let."""

    def __init__(self, given):
        self.given = given


class InvalidClient(StoreError):
    """What was passed as a client is none."""

    def __init__(self, given):
        self.given = given


class InvalidRequest(StoreError):
    """What was passed as a request is none."""

    def __init__(self, given):
        self.given = given


class InvalidCluster(StoreError):
    """What was passed as a cluster is none."""

    def __init__(self, given):
        self.given = given


class InvalidRun(StoreError):
    """What was passed as a run is none."""

    def __init__(self, given):
        self.given = given


class InvalidEvent(StoreError):
    """What was passed as an event is none."""

    def __init__(self, given):
        self.given = given


class InvalidIndex(StoreError):
    """What was passed as an index is none that is let."""

    def __init__(self, given):
        self.given = given


class InvalidLetter(StoreError):
    """What was passed as a letter is none that is wanted."""

    def __init__(self, given):
        self.given = given


class InvalidScripts(StoreError):
    """What was passed as scripts are none of the cluster."""

    def __init__(self, given):
        self.given = given


class InvalidPost(StoreError):
    """What was passed as a post is none."""

    def __init__(self, given):
        self.given = given


class InvalidState(StoreError):
    """What was passed as a state of the console is none."""

    def __init__(self, given):
        self.given = given


class InvalidLine(StoreError):
    """What was passed as a line is none."""

    def __init__(self, given):
        self.given = given


class Lost(StoreError):
    """The cluster is not readable; `given` tells the least named chunk that is lost, None for its META."""

    def __init__(self, given):
        self.given = given


class NotStanding(StoreError):
    """The shelf is burnt."""

    def __init__(self, given):
        self.given = given


class Standing(StoreError):
    """The shelf is not burnt."""

    def __init__(self, given):
        self.given = given


class InvalidNumbers(StoreError):
    """What was passed as numbers are none of those that are let."""

    def __init__(self, index):
        self.index = index


class InvalidMessages(StoreError):
    """What was passed as messages are none of the scheme, or too few or too many."""

    def __init__(self, index):
        self.index = index


class InvalidRequests(StoreError):
    """What was passed as requests are none, or too many."""

    def __init__(self, index):
        self.index = index


class InvalidSteps(StoreError):
    """What was passed as steps are none of the cluster."""

    def __init__(self, index):
        self.index = index


class InvalidEvents(StoreError):
    """What was passed as events are none, or too many."""

    def __init__(self, index):
        self.index = index


class InvalidLines(StoreError):
    """What was passed as lines are none, or too many."""

    def __init__(self, index):
        self.index = index


class TooFewHomes(StoreError):
    """More chunks are placed on a shelf than it has homes."""
