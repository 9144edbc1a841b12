"""How many whole pages a reclaim takes from each leaf."""

from branchdues.amounts import minus
from branchdues.protections import KINDS, kept_by
from branchdues.units import Unit


def taken_in_all(tree, uses, pages):
    """The pages that both goes take from each leaf of a tree; uses are the pages of all leaves."""
    left = dict(uses)
    for kinds in (KINDS, ("min",)):
        if pages > 0:
            taken = taken_in_go(tree, left, pages, kinds)
            left = {leaf: left[leaf] - taken[leaf] for leaf in left}
            pages -= sum([taken[leaf] for leaf in taken])
    return {leaf: uses[leaf] - left[leaf] for leaf in uses}


def taken_in_go(tree, uses, pages, kinds):
    amounts = {leaf: (uses[leaf], 1) for leaf in uses}
    kept = kept_by(tree, amounts, "", kinds)
    beyond = {leaf: minus(amounts[leaf], kept[leaf]) for leaf in uses}
    unit = Unit([beyond[leaf] for leaf in beyond])
    parts = {leaf: unit.number(beyond[leaf]) for leaf in beyond}
    return parted_in_whole(parts, min(pages, sum([parts[leaf] for leaf in parts]) // unit.whole))


def parted_in_whole(parts, pages):
    """So many pages in proportion to the parts; each one is cut down or made up to a whole number."""
    if pages == 0:
        return {leaf: 0 for leaf in parts}
    whole = sum([parts[leaf] for leaf in parts])
    taken = {leaf: parts[leaf] * pages // whole for leaf in parts}
    # The greatest parts that were cut off come first, of equal ones those of the leaves that were made first.
    cut = sorted([(-(parts[leaf] * pages % whole), at, leaf) for at, leaf in enumerate(parts)])
    lacking = pages - sum([taken[leaf] for leaf in taken])
    for rest, at, leaf in cut[:lacking]:
        taken[leaf] += 1
    return taken
