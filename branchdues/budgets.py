"""What budgets let pass, whether they meet all wants, and whether they ever bind."""

from branchdues.amounts import ZERO, is_integer, over
from branchdues.courses import behind, bounded, check_wants, course
from branchdues.errors import NoNumber
from branchdues.spans import Spans
from branchdues.trees import check_group, check_tree, is_endless, leaves_at
from branchdues.units import Unit, is_above, numbers_of


def passed(tree, wants):
    check_tree(tree)
    check_wants(tree, wants)
    return [passes for passes, left, waits in course(tree, wants)]


def remains(tree, wants):
    check_tree(tree)
    check_wants(tree, wants)
    return [behind(left, passes) for passes, left, waits in course(tree, wants)]


def waiting(tree, wants):
    check_tree(tree)
    check_wants(tree, wants)
    return [behind(waits, passes) for passes, left, waits in course(tree, wants)]


def all_met(tree, wants):
    check_tree(tree)
    check_wants(tree, wants)
    return first_unmet(tree, wants) is None


def unmet(tree, wants):
    check_tree(tree)
    check_wants(tree, wants)
    return first_unmet(tree, wants)


def least_burst(tree, wants, name):
    check_tree(tree)
    check_wants(tree, wants)
    check_group(tree, name)
    quota = tree.due(name, "quota")
    if is_endless(quota):
        return ZERO
    sums, unit = wanted_at(tree, wants, name, quota)
    lacks = lacking(sums, unit.number(quota))
    if any([lack > 0 for lack in lacks]):
        return None
    burst = 0
    # Only runs that begin behind period 0 have a burst.
    least = lacks[0] if lacks else 0
    for lack in lacks[1:]:
        burst = max(burst, lack - least)
        least = min(least, lack)
    return unit.amount(burst)


def least_quota(tree, wants, name):
    check_tree(tree)
    check_wants(tree, wants)
    check_group(tree, name)
    burst = tree.due(name, "burst")
    sums, unit = wanted_at(tree, wants, name, burst)
    # Of the run that lacks most, the quota is raised to what it needs, until none lacks anything.
    quota, parts = 0, 1
    run = worst_run(sums, unit.number(burst), quota, parts)
    while run is not None:
        quota, parts = run
        run = worst_run(sums, unit.number(burst), quota, parts)
    return over(unit.amount(quota), (parts, 1))


def most(tree, name, many):
    check_tree(tree)
    check_group(tree, name)
    if not is_integer(many) or many < 1:
        raise NoNumber("not a number of periods")
    return Spans(tree).most(name, many)


def never_binds(tree):
    check_tree(tree)
    spans = Spans(tree)
    return [name for name in bounded(tree) if not spans.binds(name)]


def in_all(numbers, leaves):
    """What all these leaves want together, for each period."""
    return [sum([wanted[leaf] for leaf in leaves if leaf in wanted]) for wanted in numbers]


def wanted_at(tree, wants, name, due):
    """What a group wants in each period, and the unit, which fits this due, too."""
    leaves = leaves_at(tree, name)
    unit = Unit([wanted[leaf] for wanted in wants for leaf in leaves if leaf in wanted] + [due])
    numbers = [{leaf: unit.number(wanted[leaf]) for leaf in leaves if leaf in wanted} for wanted in wants]
    return in_all(numbers, leaves), unit


def lacking(sums, quota):
    """By how much all that was wanted is more than all quotas, at the end of each period."""
    lacks = []
    lack = 0
    for wanted in sums:
        lack += wanted - quota
        lacks.append(lack)
    return lacks


def first_unmet(tree, wants):
    amounts = [wanted[leaf] for wanted in wants for leaf in wanted]
    amounts += [tree.due(name, word) for name in tree.names() for word in ("quota", "burst", "tops")]
    unit = Unit(amounts)
    numbers = [{leaf: unit.number(wanted[leaf]) for leaf in wanted} for wanted in wants]
    quotas = numbers_of(tree, "quota", unit)
    bursts = numbers_of(tree, "burst", unit)
    tops = numbers_of(tree, "tops", unit)
    for name in tree.names():
        run = first_run(in_all(numbers, leaves_at(tree, name)), quotas[name], bursts[name], tops[name])
        if run is not None:
            return name, run[0], run[1]
    return None


def first_run(sums, quota, burst, tops):
    """The first run of periods (i, j) in which the tops or the budget are too little, or None."""
    # What lacks of an endless quota is never above 0, nor anything without a want.
    lacks = [0 for wanted in sums] if quota is None else lacking(sums, quota)
    peaks = from_behind(lacks)
    for i, wanted in enumerate(sums):
        bound = lacks[i - 1] + burst if i > 0 else 0
        if is_above(wanted, tops):
            return i, i
        if peaks[i] > bound:
            return i, [j for j in range(i, len(sums)) if lacks[j] > bound][0]
    return None


def from_behind(numbers):
    """The greatest number at or behind each place."""
    peaks = []
    for number in reversed(numbers):
        peaks.append(max(number, peaks[-1]) if peaks else number)
    peaks.reverse()
    return peaks


def worst_run(sums, burst, quota, parts):
    """The run of periods that quota / parts lacks most for, or None.

    It is told by what it wants beyond the burst (in period 0 there is none) and by its number of periods.
    """
    worst = None
    most_lacking = lack = whole = 0
    # How much lacks and was wanted ahead of the run that begins best, and how many periods these were.
    begin = (0, 0, 0)
    for at, wanted in enumerate(sums):
        whole += wanted
        lack += wanted * parts - quota
        if lack - begin[0] > most_lacking:
            most_lacking = lack - begin[0]
            worst = (whole - begin[1], at + 1 - begin[2])
        if lack + burst * parts < begin[0]:
            begin = (lack + burst * parts, whole + burst, at + 1)
    return worst
