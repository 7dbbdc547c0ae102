"""Errors of numbers, schemes, told stores, disks, shelves and placement."""


class StoreError(ValueError):
    """What all errors of this package stand under."""


class InvalidPrime(StoreError):
    """What was passed as a prime is none from 11 to 97."""

    def __init__(self, given):
        self.given = given


class InvalidNumber(StoreError):
    """What was passed as a number is none of those that are let."""

    def __init__(self, given):
        self.given = given


class InvalidScheme(StoreError):
    """What was passed as a scheme is none."""

    def __init__(self, given):
        self.given = given


class InvalidShelf(StoreError):
    """What was passed as a shelf is no index of one."""

    def __init__(self, given):
        self.given = given


class InvalidPiece(StoreError):
    """What was passed as a piece is none."""

    def __init__(self, given):
        self.given = given


class InvalidTold(StoreError):
    """What was passed as a told store is none."""

    def __init__(self, given):
        self.given = given


class InvalidDisk(StoreError):
    """What was passed as a disk is none, or not one of the kind that is wanted."""

    def __init__(self, given):
        self.given = given


class InvalidBlock(StoreError):
    """What was passed as a block is none, or is torn."""

    def __init__(self, given):
        self.given = given


class InvalidPlace(StoreError):
    """What was passed as a place is none of the disk."""

    def __init__(self, given):
        self.given = given


class InvalidWrites(StoreError):
    """What was passed as writes are none of the disk, or too many."""

    def __init__(self, given):
        self.given = given


class InvalidBatch(StoreError):
    """What was passed as a batch is none of the disk."""

    def __init__(self, given):
        self.given = given


class InvalidCount(StoreError):
    """What was passed as a count is no whole number from 0 on."""

    def __init__(self, given):
        self.given = given


class InvalidTorn(StoreError):
    """What was passed for torn or not is neither True nor False."""

    def __init__(self, given):
        self.given = given


class InvalidHomes(StoreError):
    """What was passed as a number of homes is none that is let."""

    def __init__(self, given):
        self.given = given


class InvalidContents(StoreError):
    """What was passed as contents are none of a disk."""

    def __init__(self, given):
        self.given = given


class InvalidHistory(StoreError):
    """What was passed as a history is none."""

    def __init__(self, given):
        self.given = given


class InvalidMeaning(StoreError):
    """What was passed as a meaning is none."""

    def __init__(self, given):
        self.given = given


class InvalidChunk(StoreError):
    """What was passed as a chunk is no whole number from 1 on."""

    def __init__(self, given):
        self.given = given


class InvalidRoot(StoreError):
    """What was passed as a root is none, or is ()."""

    def __init__(self, given):
        self.given = given


class InvalidDeed(StoreError):
    """What was passed as a deed is none."""

    def __init__(self, given):
        self.given = given


class InvalidUsed(StoreError):
    """What was passed as a lot of shelves in use is none."""

    def __init__(self, given):
        self.given = given


class InvalidWidth(StoreError):
    """What was passed as a width is none for the shelves in use."""

    def __init__(self, given):
        self.given = given


class NotMended(StoreError):
    """What should be mended is not; `given` tells the head of the disk or the first step that is wanting."""

    def __init__(self, given):
        self.given = given


class NotHeld(StoreError):
    """The chunk is not held."""

    def __init__(self, given):
        self.given = given


class Full(StoreError):
    """There is no free home for the chunk."""

    def __init__(self, given):
        self.given = given


class InvalidRows(StoreError):
    """What was passed as rows are none of one length."""

    def __init__(self, index):
        self.index = index


class InvalidRow(StoreError):
    """What was passed as a row is none that is wanted."""

    def __init__(self, index):
        self.index = index


class InvalidMessage(StoreError):
    """What was passed as a message is none of the scheme."""

    def __init__(self, index):
        self.index = index


class InvalidPieces(StoreError):
    """What was passed as pieces are none of the shelves that were passed."""

    def __init__(self, index):
        self.index = index


class InvalidShelves(StoreError):
    """What was passed as shelves are no ascending ones, or too few or too many."""

    def __init__(self, index):
        self.index = index


class InvalidLetters(StoreError):
    """What was passed as letters are none of the givers that were passed."""

    def __init__(self, index):
        self.index = index


class TooWide(StoreError):
    """The scheme is too wide for a told store."""
