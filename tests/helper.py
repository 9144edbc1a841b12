"""What the tests share: short ways to write trees, odd things to hand in, and a second, plain reckoning."""

import time
from fractions import Fraction

from branchdues.errors import DueError, NoName, NoTree, Refused
from branchdues.houses import House
from branchdues.trees import Tree

SECONDS = 10
INFINITY = float("inf")


def told(number):
    """A number as an amount, as the package tells it."""
    number = Fraction(number)
    return (number.numerator, number.denominator)


def row(name, above="", **dues):
    """A row of a tree; whole numbers and fractions are told as amounts, but for "alone"."""
    pairs = []
    for word, value in dues.items():
        if isinstance(value, (int, Fraction)) and word != "alone":
            value = told(value)
        pairs.append((word, value))
    return (name, above, tuple(pairs))


def uses_of(**uses):
    return {name: told(use) for name, use in uses.items()}


def odd_things():
    """Objects of all kinds, hashable and not, new ones with each call."""
    return [
        None, True, False, Ellipsis, NotImplemented, 0, 1, -1, 10 ** 400, 1.0, float("nan"), float("inf"), 2j,
        "", "p", "Min", "mins", "endless ", "\ud800", b"", b"min", bytearray(b"min"), memoryview(b"min"),
        [], ["p"], [0, 1], (), ("p",), (0,), (0, 1, 1), {}, {"p": 1}, set(), {"p"}, frozenset(), frozenset({"p"}),
        range(2), slice(2), object(), int, len, str.upper, lambda: 1, iter([1]), zip(), (x for x in ()),
        Tree([]), Tree([row("p")]), House(), House, ValueError("p"), DueError(), NoName("p"), NoTree(-1), Refused("name"), Tree,
        property(), staticmethod(len), classmethod(len), super(int, 1), enumerate([]), map(len, []), reversed([]),
    ]


# What looks like an amount and is none.
NO_AMOUNTS = [
    (-1, 1), (1, 0), (0, 0), (1, -1), (-1, -1), (0, 2), (2, 2), (2, 4), (6, 3), (0, -1), (10 ** 300, 10 ** 299),
    (True, 1), (1, True), (False, 1), (False, True), (1.0, 1), (1, 1.0), ("1", 1), (1, "1"), (1, None), (None, 1),
    (1,), (1, 1, 1), (), [1, 1], "endless", "1", 1, 0, 1.5, None, True, {1: 1}, {1, 2}, ([], 1), (1, {}), (1, []),
    Fraction(1, 2), b"\x01\x01", range(1, 3),
]


def use_in(tree, uses, name):
    if tree.children(name):
        return sum((use_in(tree, uses, child) for child in tree.children(name)), Fraction(0))
    return Fraction(*uses.get(name, (0, 1)))


def claim_in(tree, uses, name, kind):
    return min(use_in(tree, uses, name), Fraction(*tree.due(name, kind)))


def plainly_protected(tree, uses, top, kind):
    """What the document says of protected, word by word, with fractions of Python's own."""
    found = {child: claim_in(tree, uses, child, kind) for child in tree.children(top)}
    groups = list(found)
    while groups:
        name = groups.pop()
        children = tree.children(name)
        claims = {child: claim_in(tree, uses, child, kind) for child in children}
        claimed = sum(claims.values(), Fraction(0))
        used = use_in(tree, uses, name)
        for child in children:
            found[child] = claims[child]
            if claimed > found[name]:
                found[child] = claims[child] * found[name] / claimed
            elif tree.handing() and used > claimed:
                own = use_in(tree, uses, child) - claims[child]
                found[child] += (found[name] - claimed) * own / (used - claimed)
        groups += children
    return found


def plainly_reclaimed(tree, uses, top, amount):
    """What the document says of reclaimed, word by word."""
    uses = {leaf: Fraction(*uses.get(leaf, (0, 1))) for leaf in tree.leaves()}
    rest = Fraction(*amount)
    for kinds in (("min", "low"), ("min",)):
        now = {leaf: told(use) for leaf, use in uses.items()}
        parts = [plainly_protected(tree, now, top, kind) for kind in kinds]
        beyond = {leaf: uses[leaf] - max(part[leaf] for part in parts) for leaf in uses if leaf in parts[0]}
        total = sum(beyond.values(), Fraction(0))
        taken = min(rest, total)
        for leaf in beyond:
            if total:
                uses[leaf] -= beyond[leaf] * taken / total
        rest -= taken
    return {leaf: told(use) for leaf, use in uses.items()}, told(rest)


def random_number(random):
    if random.random() < 0.15:
        return Fraction(0)
    if random.random() < 0.6:
        return Fraction(random.randrange(12))
    return Fraction(random.randrange(40), random.randrange(1, 7))


def random_shape(random, most=8):
    """Names with the groups above them."""
    names = list("abcdefghijklmnopqrst"[:random.randrange(1, most + 1)])
    random.shuffle(names)
    return [(name, random.choice([""] + names[:at] + names[max(0, at - 2):at])) for at, name in enumerate(names)]


def random_tree(random, most=8):
    rows = []
    for name, above in random_shape(random, most):
        rows.append(row(name, above, min=random_number(random), low=random_number(random)))
    return Tree(rows, random.random() < 0.5)


def random_bound(random):
    return "endless" if random.random() < 0.25 else random_number(random)


def random_budgets(random, most=8):
    """A tree with limits and budgets."""
    shape = random_shape(random, most)
    tops = {name: random_bound(random) for name, above in shape}
    tops.update({above: "endless" for name, above in shape})
    rows = []
    for name, above in shape:
        dues = {word: random_bound(random) for word in ("max", "quota")}
        rows.append(row(name, above, burst=random_number(random), tops=tops[name], **dues))
    return Tree(rows)


def number_of(bound):
    """An amount or endless as something that Python compares and adds."""
    return INFINITY if bound == "endless" else Fraction(*bound)


def due_of(tree, name, word):
    return number_of(tree.due(name, word))


def random_uses(random, tree):
    return {leaf: told(random_number(random)) for leaf in tree.leaves() if random.random() < 0.8}


def random_top(random, tree):
    return random.choice([""] + [name for name in tree.names() if tree.children(name)])


def behinds(good):
    """What may stand behind a wrong argument: the good ones, and each of them, or all, wrong."""
    found = [good]
    for wrong in (None, []):
        found.append([wrong] * len(good))
        found += [good[:at] + [wrong] + good[at + 1:] for at in range(len(good))]
    return found


def leaves_of(tree, name):
    return [leaf for leaf in tree.leaves() if name in tree.path(leaf)]


def in_time(test, function, *told):
    """What a call returns, which must not take longer than it may."""
    begin = time.monotonic()
    found = function(*told)
    test.assertLess(time.monotonic() - begin, SECONDS, function.__name__)
    return found


def random_wants(random, tree, most=5):
    return [random_uses(random, tree) for period in range(random.randrange(most + 1))]


def plain_course(tree, wants):
    """What the document says of passed, remains and waiting, period by period, word by word."""
    left, waits = {}, {leaf: Fraction(0) for leaf in tree.leaves()}
    course = ([], [], [])
    for at, wanted in enumerate(wants):
        for name in tree.names():
            quota, burst = due_of(tree, name, "quota"), due_of(tree, name, "burst")
            left[name] = min(left[name] + quota, quota + burst) if at else quota
        for leaf in waits:
            waits[leaf] += Fraction(*wanted.get(leaf, (0, 1)))

        def offer(name):
            below = [offer(child) for child in tree.children(name)]
            own = sum(below) if below else min(waits[name], due_of(tree, name, "tops"))
            return min(own, left[name])

        passes = {}
        for name in tree.names():
            above = tree.above(name)
            passes[name] = offer(name)
            if above:
                together = sum(offer(child) for child in tree.children(above))
                passes[name] = passes[name] * passes[above] / together if together else Fraction(0)
        for name in tree.names():
            left[name] -= passes[name]
        for leaf in waits:
            waits[leaf] -= passes[leaf]
        course[0].append(passes)
        course[1].append({name: left[name] for name in tree.names() if left[name] != INFINITY})
        course[2].append(dict(waits))
    return course
