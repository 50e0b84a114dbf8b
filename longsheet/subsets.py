"""Lists of some of the indexes of checks, from the fewest on."""


def subsets_of(indexes):
    """All ascending lists of some of an ascending list of integers, those with fewer first, then ascending."""
    found = [[]]
    for index in indexes:
        found = found + [some + [index] for some in found]
    return sorted(found, key=_subset_order)


def _subset_order(some):
    return (len(some), some)
