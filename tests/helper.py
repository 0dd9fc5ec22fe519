"""What several tests share: worlds, sayings, and what DOC.md says of pairings, reckoned word by word."""

import itertools

from pickalike.errors import NoTongue, TooMany
from pickalike.sayings import free_of, holds, is_saying, speaks
from pickalike.worlds import tongue_of

LETTERS = "abcdefghijklmnopqrstuvwxyz"
# The tongue of most worlds here.
MARKED = (("red",), ("to",))
# Things that are no whole number.
NO_NUMBERS = (True, False, None, "0", "1", "", b"1", 1.0, 0.5, (), (0,), [], [0], {}, set(), object(), int)
# Worlds of other tongues than that of the mark red and the arrow to.
OTHER_TONGUES = (
    (2, (), ()),
    (2, (("red", ()),), ()),
    (2, (), (("to", ()),)),
    (2, (("blue", ()),), (("to", ()),)),
    (2, (("red", ()),), (("at", ()),)),
    (2, (("to", ()),), (("red", ()),)),
    (2, (("red", ()), ("see", ())), (("to", ()),)),
    (2, (("red", ()),), (("to", ()), ("up", ()))),
)
TRUE = ("and", ())
FALSE = ("or", ())
# Couples that are parted by counting at the depth 3 and not ahead of it.
DEEP_COUNTED = tuple(
    tuple((4, (), (("to", pairs),)) for pairs in couple) for couple in (
        (((0, 3), (1, 2), (1, 3), (2, 0)), ((0, 3), (1, 3), (2, 0), (2, 1))),
        (((0, 1), (1, 2), (1, 3), (2, 0), (3, 0)), ((0, 1), (0, 2), (1, 3), (2, 1), (3, 0))),
        (((0, 1), (0, 2), (1, 2), (1, 3), (2, 0), (2, 3), (3, 0)),
         ((0, 1), (0, 2), (1, 2), (1, 3), (2, 1), (2, 3), (3, 0))),
    )
)


def numbers(seed):
    """Numbers without end, in a set order, without chance."""
    at = seed
    while True:
        at = (at * 1103515245 + 12345) % 2147483648
        yield at >> 8


def subsets(things, most=None):
    """All choices of the things, those of fewer first."""
    things = list(things)
    most = len(things) if most is None else most
    return [some for k in range(most + 1) for some in itertools.combinations(things, k)]


def all_worlds(many):
    """All worlds of so many points with one mark and one arrow."""
    pairs = list(itertools.product(range(many), repeat=2))
    return [
        (many, (("red", points),), (("to", led),)) for points in subsets(range(many)) for led in subsets(pairs)
    ]


def made_worlds(count, sizes, tongue=MARKED, seed=1):
    """Worlds of these sizes by turns, with few, some and many arrows."""
    marks, arrows = tongue
    told = []
    source = numbers(seed)
    for at in range(count):
        many = sizes[at % len(sizes)]
        bar = (2, 4, 6)[next(source) % 3]
        pairs = list(itertools.product(range(many), repeat=2))
        told.append((
            many,
            tuple((name, tuple(point for point in range(many) if next(source) % 8 < bar)) for name in marks),
            tuple((name, tuple(pair for pair in pairs if next(source) % 8 < bar)) for name in arrows),
        ))
    return told


def line(many):
    """Points in a row, an arrow from each to all behind it."""
    return (many, (), (("to", tuple(itertools.combinations(range(many), 2))),))


def bare(many):
    """Points without marks and arrows."""
    return (many, (), ())


def ring(many):
    """Points in a ring, an arrow from each to the one behind it."""
    return (many, (), (("to", tuple(sorted((k, (k + 1) % many) for k in range(many)))),))


def full(many):
    """Points with arrows from each to each other one."""
    return (many, (), (("to", tuple(itertools.permutations(range(many), 2))),))


def looped(many):
    """Points that all bear a mark, with an arrow from each to itself."""
    return (many, (("red", tuple(range(many))),), (("to", tuple((k, k) for k in range(many))),))


def deep_couples():
    """Couples that are parted at the depth 4 and not ahead of it."""
    made = [(shape(3), shape(4)) for shape in (bare, full, looped)]
    return made + [(other, one) for one, other in made]


def near(world):
    """The world with one arrow less, or with one more where it has none."""
    pairs = world[2][0][1]
    return (world[0], world[1], ((world[2][0][0], pairs[1:] if pairs else ((0, 0),)),) + world[2][1:])


def couples():
    """Couples of small worlds of one tongue: near to one another and far, of like and unlike numbers of points."""
    told = list(itertools.product(all_worlds(1), all_worlds(1)))
    told += [(one, other) for one, other in itertools.product(all_worlds(1), all_worlds(2)[::3])]
    told += list(itertools.product(all_worlds(2)[::5], all_worlds(2)[::3]))
    made = made_worlds(40, (3, 4, 2, 4, 3))
    told += list(zip(made, made[1:])) + list(zip(made, made[5:])) + [(one, one) for one in made[:6]]
    for shape in (line, bare, ring):
        told += [(shape(one), shape(other)) for one, other in itertools.product(range(1, 5), repeat=2)]
    told += [(line(one), ring(other)) for one, other in itertools.product(range(1, 5), repeat=2)]
    told += [(one, near(one)) for one in made + [line(3), line(4), ring(3), ring(4)]]
    wide = made_worlds(16, (4, 3), (("aa", "bb", "cc"), ("aa", "dd", "ee")), 5)
    told += list(zip(wide, wide[1:])) + [(one, one) for one in wide[:4]]
    for one, order in zip(made, itertools.cycle(itertools.permutations(range(4)))):
        if one[0] == 4:
            told.append((one, plain_moved(one, order)))
    return told


def plain_moved(world, order):
    """The world moved by the order, by [6]."""
    return (
        world[0],
        tuple((name, tuple(sorted(order[point] for point in points))) for name, points in world[1]),
        tuple((name, tuple(sorted((order[a], order[b]) for a, b in pairs))) for name, pairs in world[2]),
    )


def plain_turns(one, other):
    """All orders that turn the one world into the other, by [14]."""
    if one[0] != other[0]:
        return []
    return [order for order in itertools.permutations(range(one[0])) if plain_moved(one, order) == other]


def plain_fits(one, other, pairs):
    """Whether the pairs fit, by [12]."""
    for (a, b), (c, d) in itertools.product(pairs, repeat=2):
        if (a == c) != (b == d):
            return False
        for (name, bearing), (again, there) in zip(one[1], other[1]):
            if (a in bearing) != (b in there):
                return False
        for (name, led), (again, there) in zip(one[2], other[2]):
            if ((a, c) in led) != ((b, d) in there):
                return False
    return True


def plain_pairings(one, other, most):
    """All pairings, by [13]: all sets of pairs gone through."""
    pairs = sorted(itertools.product(range(one[0]), range(other[0])))
    return [some for some in subsets(pairs, min(most, len(pairs))) if plain_fits(one, other, some)]


def plain_added(pairing, pair):
    """The pairing with this pair too, by [16]."""
    return tuple(sorted({*pairing, pair}))


def plain_layers(one, other, depth):
    """The layers, by [17], each as a list in the order of [13]."""
    told = [plain_pairings(one, other, 4)]
    for step in range(depth):
        last = set(told[-1])
        told.append([
            pairing for pairing in told[0]
            if all(any(plain_added(pairing, (a, b)) in last for b in range(other[0])) for a in range(one[0]))
            and all(any(plain_added(pairing, (a, b)) in last for a in range(one[0])) for b in range(other[0]))
        ])
    return told


def plain_parted(layers, pairs):
    """Where pairs are parted, by [18], of all layers up to one that is the same as the one ahead of it."""
    pairing = tuple(sorted(set(pairs or ())))
    for depth, layer in enumerate(layers):
        if pairing not in layer:
            return depth
    return None


def plain_depth(saying):
    """The depth of a saying, by [10]."""
    if saying[0] in ("mark", "arrow", "same"):
        return 0
    if saying[0] in ("and", "or"):
        return max((plain_depth(part) for part in saying[1]), default=0)
    return plain_depth(saying[-1]) + (saying[0] != "not")


def plain_holds(world, saying, places, sheet=()):
    """Whether a saying holds, by [8], and where it stands in a sheet by [25]; nothing is kept."""
    word = saying[0]
    if word == "mark":
        return places[saying[2]] in dict(world[1])[saying[1]]
    if word == "arrow":
        return (places[saying[2]], places[saying[3]]) in dict(world[2])[saying[1]]
    if word == "same":
        return places[saying[1]] == places[saying[2]]
    if word == "row":
        letters, inner = sheet[saying[1]]
        return plain_holds(world, inner, {letter: places[one] for letter, one in zip(letters, saying[2])}, sheet)
    if word == "not":
        return not plain_holds(world, saying[1], places, sheet)
    if word in ("and", "or"):
        truths = [plain_holds(world, part, places, sheet) for part in saying[1]]
        return all(truths) if word == "and" else any(truths)
    letter, inner = saying[-2:]
    many = sum(plain_holds(world, inner, {**places, letter: point}, sheet) for point in range(world[0]))
    return many >= {"some": 1, "every": world[0]}.get(word, saying[1])


def made_sayings(letters, tongue, steps=1500, deepest=4, plain=False):
    """Many sayings with these letters, made one from another."""
    marks, arrows = tongue
    leaves = [("mark", name, x) for name in marks for x in letters]
    leaves += [("arrow", name, x, y) for name in arrows for x, y in itertools.product(letters, repeat=2)]
    leaves += [("same", x, y) for x, y in itertools.product(letters, repeat=2)] + [TRUE, FALSE]
    pool = list(leaves)
    at = 7
    for step in range(steps):
        at = (at * 1103515245 + 12345) % 2147483648
        one = pool[(at >> 8) % len(pool)]
        other = pool[(at >> 16) % len(pool)]
        letter = letters[(at >> 5) % len(letters)]
        leaf = leaves[step % len(leaves)]
        counting = ("some", letter, other) if plain else ("least", 1 + (at >> 7) % 4, letter, one)
        pool.append((
            ("not", one), ("and", (one, other)), ("or", (other, one)), ("some", letter, one), ("every", letter, other),
            counting, ("and", (one, other, ("not", leaf))), ("or", (("not", other), one, leaf)),
        )[(at >> 20) % 8])
        if plain_depth(pool[-1]) > deepest or len(repr(pool[-1])) > 900:
            pool.pop()
    return pool


def marked_couples(layers_of_couple):
    """Couples of worlds with one mark and one arrow, those with the most pairings in the layers that are told."""
    made = [(one, other) for one, other in couples() if tongue_of(one) == MARKED]
    unmarked = [(shape[0], (("red", ()),), shape[2]) for shape in
                (line(2), line(3), line(4), ring(3), ring(4), near(ring(4)))]
    made += list(itertools.product(unmarked, repeat=2))
    made.sort(key=lambda couple: -sum(len(layer) for layer in layers_of_couple(*couple)))
    return made[:60]


def letters_at_pairs(pairing):
    """The pairs by letters in two ways: a letter for each pair, then each of four letters at one of them."""
    told = [dict(zip(LETTERS, pairing))]
    if pairing:
        told.append({letter: pairing[k % len(pairing)] for k, letter in enumerate(LETTERS[:4])})
    return told


def agreeing(test, chosen, layers, pool):
    """Holds that pairings in a layer, told by layers(one, other, 4), agree on the sayings of the pool of its depth.

    Tells how often that was compared, by the depth of the saying, and how often others did not agree.
    """
    asked = [(at, saying, plain_depth(saying), free_of(saying)) for at, saying in enumerate(pool)]
    kept = {}

    def truth(world, at, saying, free, points):
        if (world, at, points) not in kept:
            kept[world, at, points] = holds(world, saying, dict(zip(free, points)))
        return kept[world, at, points]

    compared = [0] * 5
    parts = 0
    for turn, (one, other) in enumerate(chosen):
        told = layers(one, other, 4)
        deep = [set(layer) for layer in told]
        for pairing, (at, saying, depth, free) in itertools.product(told[0], asked[turn % 3::3]):
            for places in letters_at_pairs(pairing):
                if not all(letter in places for letter in free):
                    continue
                here = truth(one, at, saying, free, tuple(places[letter][0] for letter in free))
                there = truth(other, at, saying, free, tuple(places[letter][1] for letter in free))
                if pairing in deep[depth]:
                    test.assertIs(here, there, (one, other, pairing, saying))
                    compared[depth] += 1
                else:
                    parts += here != there
    return compared, parts


def refused(test, error, field, call, *things):
    """Holds that the call with these things is refused with just this class, and with this field (None: no field)."""
    with test.assertRaises(error, msg=repr(things)) as caught:
        call(*things)
    test.assertIs(type(caught.exception), error, repr(things))
    if field is None:
        test.assertEqual(vars(caught.exception), {}, repr(things))
        return
    name, thing = field
    test.assertEqual(list(vars(caught.exception)), [name])
    told = getattr(caught.exception, name)
    test.assertIs(type(told), type(thing), repr(things))
    test.assertEqual(told, thing)


def plain_parts(saying):
    """A saying and all within it, each with how deep it stands in there, counted from 1."""
    told = [(saying, 1)]
    for one, deep in told:
        inner = one[1] if one[0] in ("and", "or") else one[-1:] if one[0] in ("not", "some", "every", "least") else ()
        told.extend((part, deep + 1) for part in inner)
    return told


def small_in_size(test, saying):
    """Holds that a saying, or that of a sheet's row, has at most 2000 parts, no more than 40 within one another."""
    told = plain_parts(saying)
    test.assertLessEqual(len(told), 2000)
    test.assertLessEqual(max(deep for part, deep in told), 40)


def saying_parts(test, one, other, pairs, saying, depth):
    """Holds that a saying of the depth parts the pairs, by [20] but for its being plain; for None it is None."""
    words = (one, other, pairs, saying)
    if depth is None:
        test.assertIsNone(saying, words)
        return
    test.assertTrue(is_saying(saying), words)
    test.assertEqual(plain_depth(saying), depth, words)
    test.assertTrue(speaks(saying, tongue_of(one)), words)
    told = pairs or ()
    test.assertLessEqual(set(free_of(saying)), set(LETTERS[:len(told)]), words)
    test.assertIs(holds(one, saying, {letter: a for letter, (a, b) in zip(LETTERS, told)}), True, words)
    test.assertIs(holds(other, saying, {letter: b for letter, (a, b) in zip(LETTERS, told)}), False, words)
    small_in_size(test, saying)


def up_to_eight_pairs(one, other, source):
    """Pairs of two worlds, none to eight of them, fitting or not, some twice, in any order."""
    told = []
    for length in range(9):
        told.append(tuple((next(source) % one[0], next(source) % other[0]) for k in range(length)))
        for some in [some for some in plain_pairings(one, other, 4) if some][:7 * length:7]:
            told.append(tuple(some[next(source) % len(some)] for k in range(length)))
    return told


def lists_of_their_own(test, call, right):
    """Holds that of the lists which a call tells a change of one changes none of the others and none told again."""
    kept = [list(row) for row in right]
    for at in range(len(kept)):
        told = call()
        test.assertEqual(told, kept)
        told[at].append("more")
        told[at].reverse()
        for place in range(len(kept)):
            if place != at:
                test.assertEqual(told[place], kept[place])
        told[at].clear()
        del told[0]
        test.assertEqual(call(), kept)


def worlds_refused(test, call):
    """Holds that a call of two worlds, that may hand in wrong things behind them, refuses them in their order."""
    world = (2, (("red", ()),), (("to", ()),))
    for other in OTHER_TONGUES + tuple((6,) + other[1:] for other in OTHER_TONGUES):
        for one in (world, (5,) + world[1:]):
            refused(test, NoTongue, None, call, one, other)
            refused(test, NoTongue, None, call, other, one)
    for many in (5, 6, 7, 8):
        refused(test, TooMany, ("many", many), call, bare(many), bare(4))
        refused(test, TooMany, ("many", many), call, bare(1), bare(many))
        refused(test, TooMany, ("many", many), call, bare(many), bare(13 - many))
        refused(test, TooMany, ("many", many), call, bare(many), bare(many))
