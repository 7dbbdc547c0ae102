"""How far each named chunk of a readable cluster is from being lost, and how many shelves may burn."""

from lettermend.clusters import check_cluster
from lettermend.sights import seen


def spares_in(sight):
    """The ascending pairs of each named chunk and of how many of its right holders may go."""
    spares = []
    for chunk in sight.chunks():
        right, wrong, _, _ = sight.holding(chunk)
        spares.append((chunk, len(right) - len(wrong) - sight.scheme[3]))
    return spares


def spare_in(sight):
    """The spare of the cluster that was seen."""
    return min([len(sight.rooted()) - 1, *[pair[1] for pair in spares_in(sight)]])


def lot_that_loses(sight):
    """The shelves, one more than the spare, that change the meaning when they burn."""
    many = spare_in(sight)
    roots = sight.rooted()
    if len(roots) <= many + 1:
        return roots
    least = [chunk for chunk, left in spares_in(sight) if left == many][0]
    right = sight.holding(least)[0]
    return right[:many + 1]


def survey(cluster):
    """Of each named chunk, ascending: the chunk and the shelves that are right, wrong, lacking and stray for it."""
    check_cluster(cluster)
    sight = seen(cluster)
    return tuple([(chunk, *sight.holding(chunk)) for chunk in sight.chunks()])


def spare(cluster):
    """How many standing shelves, whichever they are, may burn and leave the meaning as it is."""
    check_cluster(cluster)
    return spare_in(seen(cluster))


def losing_lot(cluster):
    """Shelves, one more than the spare, that change the meaning when they burn."""
    check_cluster(cluster)
    return lot_that_loses(seen(cluster))
