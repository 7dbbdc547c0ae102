"""How clusters come to harm: shelves burn, are renewed, and pieces rot."""

from lettermend.checks import check_chunk, check_shelf, is_row
from lettermend.clustererrors import NotStanding, Standing
from lettermend.clusters import check_cluster, homes_in, with_shelf
from lettermend.coding import room_for
from lettermend.disks import fresh_disk, with_block
from lettermend.errors import InvalidPiece, NotHeld, NotMended
from lettermend.journals import meant
from lettermend.shelves import home_holding


def is_piece_of(scheme, value):
    """Whether the value is a row of as many numbers of the prime as the room."""
    return is_row(scheme[0], value, room_for(scheme))


def after_burning(cluster, shelf):
    """The cluster with the shelf burnt; NotStanding if it was."""
    if cluster[2][shelf] is None:
        raise NotStanding(shelf)
    return with_shelf(cluster, shelf, None)


def after_renewing(cluster, shelf):
    """The cluster with a fresh disk in the place of the burnt shelf; Standing if it is not burnt."""
    if cluster[2][shelf] is not None:
        raise Standing(shelf)
    return with_shelf(cluster, shelf, fresh_disk(homes_in(cluster)))


def after_rot(cluster, shelf, chunk, piece):
    """The cluster with this piece in the home that holds the chunk; NotStanding, NotMended and NotHeld."""
    disk = cluster[2][shelf]
    if disk is None:
        raise NotStanding(shelf)
    if disk[0] != ():
        raise NotMended(disk[0])
    place = home_holding(meant(disk), chunk)
    if place is None:
        raise NotHeld(chunk)
    return with_shelf(cluster, shelf, with_block(disk, place, (disk[place][0], *piece)))


def burnt(cluster, shelf):
    """The cluster with the standing shelf burnt."""
    check_cluster(cluster)
    check_shelf(shelf, len(cluster[2]))
    return after_burning(cluster, shelf)


def renewed(cluster, shelf):
    """The cluster with a fresh disk, of as many homes as the others have, in the place of the burnt shelf."""
    check_cluster(cluster)
    check_shelf(shelf, len(cluster[2]))
    return after_renewing(cluster, shelf)


def rotten(cluster, shelf, chunk, piece):
    """The cluster with this piece in the home of the shelf that holds the chunk."""
    check_cluster(cluster)
    check_shelf(shelf, len(cluster[2]))
    check_chunk(chunk)
    if not is_piece_of(cluster[0], piece):
        raise InvalidPiece(piece)
    return after_rot(cluster, shelf, chunk, piece)
