"""Things that several tests hand in."""

import random

from gateslack.netlist import is_netlist

D = ((1, 2),)

GOOD = (
    ("a", "b"),
    (
        ("g", "and", ("a", "r"), ((3, 5), (2, 4))),
        ("h", "not", ("g",), ((1, 1), (0, 2))),
        ("k", "xor", ("a", "b", "h"), ((0, 9), (7, 7))),
    ),
    (("r", "h", 3, 1, -20, 30), ("s", "s", 0, 0, 0, 0)),
    (("o", "k"), ("p", "a")),
)

# Of GOOD.
CLOCK = (100, (5, -7))

# As text, GOOD.
LINES = [
    "input a",
    "input b",
    "gate g and a r / 3 5 / 2 4",
    "gate h not g / 1 1 / 0 2",
    "gate k xor a b h / 0 9 / 7 7",
    "register r h 3 1 -20 30",
    "register s s 0 0 0 0",
    "output o k",
    "output p a",
]

# One of each word, and their lines.
EDITS = (
    ("delays", "g", ((3, 5), (2, 4))),
    ("gate", "g", "and", ("a", "b")),
    ("data", "r", "g"),
    ("checks", "r", 3, 1, -20, 30),
    ("skew", "r", -4),
    ("period", 100),
)
EDIT_LINES = ["delays g / 3 5 / 2 4", "gate g and a b", "data r g", "checks r 3 1 -20 30", "skew r -4", "period 100"]

# Next behind y is x, which stands ahead of z.
BACKWARD = (
    ("a",),
    (("x", "not", ("y",), D), ("y", "not", ("a",), D), ("z", "not", ("a",), D)),
    (),
    (("o", "x"),),
)

# Ways to the gates: 3, 5, 9, 17, 31.
MANY_WAYS = (
    ("e", "and", ("a", "b", "c"), D),
    ("f", "and", ("a", "b", "e"), D),
    ("g", "and", ("a", "e", "f"), D),
    ("h", "and", ("e", "f", "g"), D),
    ("i", "and", ("f", "g", "h"), D),
)
SIXTY = (("a", "b", "c"), MANY_WAYS, (), (("m", "i"), ("n", "h"), ("o", "g"), ("p", "e")))
SIXTY_ONE = (SIXTY[0], MANY_WAYS, (("r", "a", 0, 0, 0, 0),), SIXTY[3])


# One CORNER, one START, and two GATES of which each is 0 by all FILLINGS: no PATH that leads on is TRUE.
STILL = (
    ("n", "not", ("a",), ((1, 3),)),
    ("y", "and", ("a", "n"), ((1, 2),)),
    ("z", "nor", ("a", "n"), ((2, 2),)),
    ("g", "and", ("y", "z"), ((0, 5),)),
)
NO_TRUE = (("a",), STILL, (("r", "g", 1, 1, -5, 5),), (("o", "g"),))

# What comes from a gets through g by b's 1 alone, through h by its 0 alone.
HALF_TRUE = (
    ("a", "b", "c"),
    (("g", "and", ("a", "b"), ((2, 7),)), ("h", "nor", ("g", "b"), ((1, 4),)), ("k", "xor", ("h", "c"), ((3, 3),))),
    (),
    (("o", "k"), ("p", "h")),
)

NO_GATES = (("a", "b"), (), (("r", "a", 0, 0, 0, 0),), ())
NO_REGISTERS = (("a",), (("g", "not", ("a",), ((2, 3), (0, 9))),), (), (("o", "g"), ("p", "a")))
NO_ENDS = (("a",), (("g", "not", ("a",), D),), (), ())

# Two registers in a ring, one on itself, at three CORNERS.
THREE = (
    ("a",),
    (("g", "nand", ("r", "a"), ((3, 5), (1, 2), (4, 9))), ("h", "xor", ("s", "r"), ((1, 8), (0, 1), (7, 7)))),
    (("r", "h", 3, 1, -20, 30), ("s", "g", 2, 4, -10, 0)),
    (("o", "h"),),
)

SIX_STARTS = (
    ("a", "b", "c", "d"),
    (("g", "or", ("a", "b", "c"), ((1, 5),)), ("h", "nand", ("g", "d", "r"), ((2, 6),)), ("k", "xor", ("h", "s"), D)),
    (("r", "k", 5, 2, -9, 9), ("s", "s", 0, 0, -3, 4)),
    (("o", "h"), ("p", "d")),
)


class Equal:
    """Calls itself equal to anything."""

    def __eq__(self, other):
        return True

    def __hash__(self):
        return hash("a")


def deep(many=3000, *, kind=tuple):
    """A thing so many deep."""
    thing = kind()
    for _ in range(many):
        thing = {0: thing} if kind is dict else kind((thing,))
    return thing


def no_names():
    """Things of many kinds that are no NAMES."""
    texts = ["", "A", "aB", "a1", "1", "a b", " a", "a\n", "\n", "a_", "-", "{", "`", "abcdefghi", "a" * 12000]
    texts += ["\u00e9", "\u00df", "\u0430", "\u00aa", "a\u0301", "\uff41", "\x00", "\ud800", "%", "not ", "True"]
    return texts + no_texts()


def no_texts():
    """Things of many kinds that are no texts."""
    plain = [None, True, False, 0, 1, -1, 10**5000, -(10**5000), b"a", (), ("a",), [], ["a"], {}, {"a": 1}, {"a"}]
    return plain + [Equal(), object(), str, len, range(3), deep(), deep(kind=list), deep(kind=dict)]


def no_tuples():
    """Things of many kinds that are no tuples."""
    others = [thing for thing in no_texts() if type(thing) is not tuple]
    return others + ["", "abcd", [(), (), (), ()], [("a",), (), (), ()], list(GOOD), {0: 1, 1: 2, 2: 3, 3: 4}]


def no_wholes():
    """Things of many kinds that are whole numbers nowhere."""
    return [thing for thing in no_texts() if type(thing) is not int] + ["0", "1", "", "a"]


def no_clocks():
    """Things that are no CLOCKS of GOOD."""
    others = no_tuples() + [(), (5,), (5, (0, 0), 0), [5, (0, 0)], (5, [0, 0]), (5, ()), (5, (0,)), (5, (0, 0, 0))]
    others += [(period, (0, 0)) for period in no_wholes() + [0, -1, 100000, 10**5000]]
    for skew in no_wholes() + [10000, -10000, 10**5000, -(10**5000), None]:
        others += [(5, (skew, 0)), (5, (0, skew))]
    return others + [((5, (0, 0)),), (5, 0, 0), (Equal(), (0, 0)), (5, (Equal(), 0)), (5, Equal()), deep()]


def no_corners():
    """Things that are no CORNERS of GOOD."""
    return no_wholes() + [-1, 2, 99, 10**5000, -(10**5000), "0", (0,)]


def no_checks():
    """Things that are no CHECKS of GOOD."""
    others = no_tuples() + [(), ("late", "r"), ("late", "r", 0, 0), ["late", "r", 0], deep(), ("r", "late", 0)]
    others += [("early", "o", 0), ("early", "p", 1), ("late", "a", 0), ("late", "g", 0), ("late", "zzzz", 0)]
    others += [(side, "r", 0) for side in no_names() + ["lately", "rarely", "r"]]
    others += [("late", end, 0) for end in no_names()]
    others += [("late", "r", corner) for corner in no_corners()]
    return others + [(Equal(), "r", 0), ("late", Equal(), 0), ("late", "r", Equal()), (Equal(),) * 3]


def random_netlist(seed):
    """Parts put together by a seed, each GATE fed by STARTS and those made ahead of it, then shuffled."""
    dice = random.Random(seed)
    letters = list("abcdefghijklmnopqrstuvwxyz")
    dice.shuffle(letters)
    inputs = tuple(letters.pop() for _ in range(dice.randint(1, 4)))
    register_names = [letters.pop() for _ in range(dice.randint(0, 2))]
    signals = list(inputs) + register_names
    corners = dice.randint(1, 3)
    gates = []
    for _ in range(dice.randint(0, 7)):
        kind = dice.choice(("not", "and", "nand", "or", "nor", "xor"))
        many = 1 if kind == "not" else min(len(signals), dice.randint(2, 3))
        if kind != "not" and many < 2:
            kind, many = "not", 1
        delays = tuple(tuple(sorted((dice.randint(0, 999), dice.randint(0, 999)))) for _ in range(corners))
        gates.append((letters.pop(), kind, tuple(dice.sample(signals, many)), delays))
        signals.append(gates[-1][0])
    dice.shuffle(gates)
    registers = tuple((name, dice.choice(signals), 1, 2, -3, 4) for name in register_names)
    outputs = tuple((letters.pop(), dice.choice(signals)) for _ in range(dice.randint(0, 4)))
    return (inputs, tuple(gates), registers, outputs)


def random_clocked(seed):
    """A good NETLIST by a seed, with up to four REGISTERS, of which some PATHS are FALSE in most."""
    dice = random.Random(f"clocked {seed}")
    letters = list("abcdefghijklmnopqrstuvwxyz")
    dice.shuffle(letters)
    many = dice.randint(0, 4)
    inputs = tuple(letters.pop() for _ in range(dice.randint(0 if many else 1, min(5, 6 - many))))
    names = [letters.pop() for _ in range(many)]
    signals = list(inputs) + names
    corners = dice.randint(1, 3)
    gates = []
    for _ in range(dice.randint(0, 9)):
        kind = dice.choice(("not", "and", "nand", "or", "nor", "xor") if len(signals) > 1 else ("not",))
        pins = 1 if kind == "not" else min(len(signals), dice.randint(2, 3))
        delays = tuple(tuple(sorted((dice.randint(0, 40), dice.randint(0, 40)))) for _ in range(corners))
        gates.append((letters.pop(), kind, tuple(dice.sample(signals, pins)), delays))
        signals.append(gates[-1][0])
    dice.shuffle(gates)
    checks = [(dice.randint(0, 9), dice.randint(0, 9), -dice.randint(0, 30), dice.randint(0, 30)) for _ in names]
    registers = tuple((name, dice.choice(signals[-5:]), *row) for name, row in zip(names, checks))
    outputs = tuple((letters.pop(), dice.choice(signals[-5:])) for _ in range(dice.randint(0, 4)))
    netlist = (inputs, tuple(gates), registers, outputs)
    return netlist if is_netlist(netlist) else random_clocked(f"{seed}, once more")


def random_clock(netlist, seed):
    """A CLOCK by a seed."""
    dice = random.Random(f"clock {seed}")
    return (dice.randint(1, 150), tuple(dice.randint(-40, 40) for _ in netlist[2]))


def some_netlists(many=40):
    """NETLISTS of many kinds."""
    named = [GOOD, BACKWARD, SIXTY, NO_TRUE, HALF_TRUE, NO_GATES, NO_REGISTERS, NO_ENDS, THREE, SIX_STARTS]
    return named + [random_clocked(seed) for seed in range(many)]


def random_edit(netlist, dice):
    """One of the six EDITS by chance, which may be refused as no NETLIST."""
    words = ["delays", "gate"] * bool(netlist[1]) + ["data"] * bool(netlist[2] + netlist[3])
    word = dice.choice(words + ["checks", "skew"] * bool(netlist[2]) + ["period"])
    signals = [*netlist[0], *[row[0] for row in netlist[2]], *[gate[0] for gate in netlist[1]]]
    corners = len(netlist[1][0][3]) if netlist[1] else 1
    if word == "delays":
        delays = tuple(tuple(sorted((dice.randint(0, 40), dice.randint(0, 40)))) for _ in range(corners))
        return (word, dice.choice(netlist[1])[0], delays)
    if word == "gate":
        kind = dice.choice(("not", "and", "nand", "or", "nor", "xor") if len(signals) > 1 else ("not",))
        pins = 1 if kind == "not" else min(len(signals), dice.randint(2, 3))
        return (word, dice.choice(netlist[1])[0], kind, tuple(dice.sample(signals, pins)))
    if word == "data":
        return (word, dice.choice(netlist[2] + netlist[3])[0], dice.choice(signals))
    if word == "checks":
        return (word, dice.choice(netlist[2])[0], dice.randint(0, 9), dice.randint(0, 9), -dice.randint(0, 9), 5)
    if word == "skew":
        return (word, dice.choice(netlist[2])[0], dice.randint(-40, 40))
    return (word, dice.randint(1, 99))
