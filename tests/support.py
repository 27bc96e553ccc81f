"""What several test files need: yards, odd values, and a look at errors."""

from itertools import combinations
from random import Random

SQUARE = (2, 2, ((0, 0), (0, 1), (1, 0), (1, 1)))
FULL = (12, 12, tuple((a, b) for a in range(12) for b in range(12))[:60])
BARE = (1, 1, ())


def nest(depth):
    """A tuple within a tuple, and so on."""
    thing = ()
    for _ in range(depth):
        thing = (thing, 0)
    return thing


# What a judge may be handed: values built from tuples, numbers, texts, True, False and None.
ODD_VALUES = (
    None, True, False, 0, 1, 2, -1, 3, 400, 401, 10 ** 30, -10 ** 30, "", "a", "ring", "012",
    (), (0,), (1,), (0, 1), (1, 0), (0, 1, 2), (2, 1, 0), (0, 0), (-1,), (True,), (False,), (False, True), (None,),
    ("",), ("a", "b"), ((),), ((), ()), ((), (), ()), (1, 1, ()), (1, 1, None), (1, "1", ()), (1, 1, ((0, 0),)),
    (1, 1, ((0, 0), 0)), (1, 1, ((False, 0),)), (True, 1, ()), (1, False, ()), (0, 1, 3, 2), (3, 2, 0, 1),
    ("fall", (1, 0)), ("fall", ()), ("fall", 1), ("fall", (1, 0, 0)), ("ring", (0, 1)), ("ring", ()), ("ring", None),
    ("fall", (True, False)), ("fall",), ("other", (1, 0)), (("fall", (1, 0)),), tuple(range(400)), tuple(range(401)),
    nest(5), nest(19),
)

# What no function promises anything for, but a check that looks first refuses.
LISTS = ([], [0], [0, 1], [1, 1, []], [1, 1, ()], ["fall", (1, 0)])


def yard_of_ring(many):
    """A yard whose tracks are one ring of so many tracks."""
    half = many // 2
    pairs = [(a, a) for a in range(half)] + [(a, (a + 1) % half) for a in range(half)]
    return (half, half, tuple(sorted(pairs)))


def complete(firsts, seconds):
    """A yard in which all lanes are joined."""
    return (firsts, seconds, tuple((a, b) for a in range(firsts) for b in range(seconds)))


def some_yard(dice, most_lanes=4, most_tracks=60):
    """Any yard with few lanes."""
    firsts = dice.randint(1, most_lanes)
    seconds = dice.randint(1, most_lanes)
    pairs = [(a, b) for a in range(firsts) for b in range(seconds)]
    many = dice.randint(0, min(len(pairs), most_tracks))
    return (firsts, seconds, tuple(sorted(dice.sample(pairs, many))))


def some_pick(dice, yard):
    """Any pick of the yard's tracks."""
    many = len(yard[2])
    return tuple(sorted(dice.sample(range(many), dice.randint(0, many))))


def some_row(dice, most):
    """Any row of few wagons."""
    row = list(range(dice.randint(0, most)))
    dice.shuffle(row)
    return tuple(row)


def some_dealing(dice, yard, row):
    """Any dealing of a yard that has tracks."""
    return tuple(dice.randrange(len(yard[2])) for _ in row)


def dice_of(seed):
    """The same throws in each run."""
    return Random(seed)


def all_picks(yard):
    """All picks of the yard's tracks."""
    tracks = range(len(yard[2]))
    return [pick for many in range(len(yard[2]) + 1) for pick in combinations(tracks, many)]


def same(one, other):
    """Equal, and of the same kinds throughout: 1 is not True here, and a list is no tuple."""
    if type(one) is not type(other):
        return False
    if isinstance(one, (tuple, list)):
        return len(one) == len(other) and all(same(a, b) for a, b in zip(one, other))
    return one == other


def assert_same(case, found, wanted):
    """The values are equal and of the same kinds."""
    case.assertTrue(same(found, wanted), "%r is not %r" % (found, wanted))


def assert_refused(case, error, what, function, *arguments):
    """The call raises just this class with just this reason."""
    with case.assertRaises(ValueError) as caught:
        function(*arguments)
    case.assertIs(type(caught.exception), error, "for %r" % (arguments,))
    assert_same(case, caught.exception.what, what)


def assert_judges(case, judge, examples):
    """The judge answers True or False, whatever it is handed in the place of any argument."""
    values = ODD_VALUES + LISTS
    for example in examples:
        for at in range(len(example)):
            for value in values:
                handed = example[:at] + (value,) + example[at + 1:]
                case.assertIn(repr(judge(*handed)), ("True", "False"), repr(handed))
    for value in values:
        handed = (value,) * len(examples[0])
        case.assertIn(repr(judge(*handed)), ("True", "False"), repr(handed))
