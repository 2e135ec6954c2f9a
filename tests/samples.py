"""Rules, texts and wrong values that several tests use."""

P = ("apart", "signs", "ahead", "first", 0)
Q = ("last", "numbers", "ahead", "first", 0)

LETTERS = "ABCDEFGHIJKLMNOPQRSTUVWXYZ" + "abcdefghijklmnopqrstuvwxyz"
SIGNS = "0123456789" + "_" + LETTERS

# Far from each other in kind, and as long as can be.
LONG_TEXTS = [
    "9" * 40,
    "0" * 40,
    "0" * 39 + "9",
    "1" + "0" * 39,
    "1" + "0" * 38,
    "_" * 40,
    "z" * 40,
    "Z" * 40,
    "aA0_" * 10,
    "Aa00_" * 8,
]

MANY_TEXTS = LONG_TEXTS + [
    "", "7", "07", "007", "70", "9", "10", "a7", "a07", "A7", "A07", "a7b", "a07b", "a07B", "A7B",
    "a7B07", "A07b7", "a", "A", "b", "B", "z", "Z", "m", "N", "_", "__", "_a", "a_", "a_1", "a1_",
    "1_", "_1", "1_01", "01_1", "file9", "file10", "File9", "FILE10", "file009", "x_y", "xY", "Xy",
]

WRONG_TEXTS = [
    None, True, False, 0, 7, -1, b"a", ["a"], [], ("a",), {}, {"a": 1}, set(), object(), len,
    "a" * 41, "-", " ", "a b", "a\n", "\n", "a.b", "/", ":", "@", "[", "^", "`", "{", "\x00",
    "\u00e9", "\u00c4", "\u00b2", "\u0663", "\u212a", "\u0131", "\uff10", "\uff3f", "a" * 39 + "\u00df",
]

WRONG_RULES = [
    None, True, 0, 1, "", "apart", "apart signs ahead first 0", b"apart", [], {}, object(), (),
    ["apart", "signs", "ahead", "first", 0],
    [P],
    (P,),
    P[:4],
    P + (0,),
    P[1:],
    ("Apart", "signs", "ahead", "first", 0),
    ("", "signs", "ahead", "first", 0),
    ("strict", "signs", "ahead", "first", 0),
    ("apart", "sign", "ahead", "first", 0),
    ("apart", "last", "ahead", "first", 0),
    ("apart", "signs", "first", "first", 0),
    ("apart", "signs", "aheadbehind", "first", 0),
    ("apart", "signs", "ahead", "ahead", 0),
    ("apart", "signs", "ahead", "last", 0),
    ("signs", "apart", "ahead", "first", 0),
    ("apart", "signs", "ahead", "first", 2),
    ("apart", "signs", "ahead", "first", -1),
    ("apart", "signs", "ahead", "first", True),
    ("apart", "signs", "ahead", "first", False),
    ("apart", "signs", "ahead", "first", "0"),
    ("apart", "signs", "ahead", "first", None),
    ("apart", "signs", "ahead", "first", [0]),
    (["apart"], "signs", "ahead", "first", 0),
    ("apart", {"signs": 1}, "ahead", "first", 0),
    ("apart", "signs", ["ahead"], "first", 0),
    ("apart", "signs", "ahead", [], 0),
    (b"apart", "signs", "ahead", "first", 0),
    (0, 0, 0, 0, 0),
    (None, None, None, None, None),
    (("apart", "signs"), "signs", "ahead", "first", 0),
]

WRONG_LISTS = [
    None, True, 3, "", "ab", b"ab", (), ("a", "b"), {}, {"a": 1}, {"a"}, object(), [],
    ["a"] * 13, [""] * 13,
    [None], [0], [True], [b"a"], [["a"]], [("a",)], ["a", None], ["a", "b", "-"], ["-", "a"],
    ["a"] * 11 + ["a" * 41], ["a"] * 11 + [7], ["a", "b", ["c"]],
]

WRONG_LENGTHS = [
    -1, 6, 7, -100, 10 ** 30, True, False, None, "2", "", b"2", [], [2], (2,), {}, object(),
]

# For any function that counts; each has a limit of its own besides.
WRONG_COUNTED = [
    -1, -7, -20, 22, 100, 10 ** 30, -10 ** 30, True, False, None, "1", "", b"1", [], [1], (1,), {}, {1}, object(), len,
]

WRONG_FAMILIES = [
    None, True, 0, 1, "", "apart", b"apart", (), {}, set(), object(), len, [], P, list(P), (P,), (P, Q),
    {P: 1}, {P}, {0: P}, [P] * 9, [P] * 20, [[P]], [[P], [Q]], [P, [Q]],
] + [[value] for value in WRONG_RULES] + [
    [P, None], [P, Q, 0], [None, P], [P, Q, list(P)], [P] * 7 + [P[:4]], [P] * 7 + [WRONG_RULES[-4]],
    [WRONG_RULES[-7]] + [P] * 7, [P] * 3 + [("apart", "signs", "ahead", "first", True)],
]

WRONG_LISTS_OF_LISTS = [
    None, True, 3, "", "ab", b"ab", (), (["a"],), {}, {"a": 1}, {"a"}, object(), len, [],
    ["a"], ["a", "b"], [["a"], "b"], [["a"]] * 21, [["a"]] * 40, [[["a"]]],
] + [[value] for value in WRONG_LISTS] + [[["a", "b"], value] for value in WRONG_LISTS] + [
    [["a"]] * 19 + [[]], [["a"]] * 19 + [["a"] * 13], [[]] + [["a"]] * 19, [["a"], ["b"], ["c", "-"]],
]

WRONG_PARTINGS = [
    None, True, 0, 1, "", "[[0], [1]]", b"", (), {}, {0: 1}, set(), {0, 1}, object(), len,
    [], [[]], [[], []], [0], [0, 1], [[0]], [[1]], [[0], []], [[0, 1], []], [[], [0, 1]],
    [[1], [0]], [[1, 0]], [[0], [0, 1]], [[0, 0], [1]], [[0], [1], [1]], [[0], [1], [2]], [[0, 1, 2]],
    [[0], [2]], [[1], [2]], [[-1], [0], [1]], [[0, -1]], [[0, 1], [2, 3, 4]],
    ([0], [1]), [(0,), (1,)], [(0, 1)], ([0, 1],), [[0], (1,)], ((0,), (1,)), [{0: 0}, {1: 1}], [{0}, {1}],
    [[False], [True]], [[0], [True]], [[False], [1]], [[False, True]], [[0, True]], [[False, 1]],
    [["0"], ["1"]], [["0", "1"]], [[None], [None]], [None, None], ["0", "1"], ["01"],
    [[[0]], [[1]]], [[[0], [1]]], [[0], [1], None], [[0], 1], [0, [1]], [[0], [None]], [[P], [Q]],
    [[0, [1]]], [[0], [(1,)]], [[object()], [1]], [[10 ** 30]], [[0], [10 ** 30]],
]


def rule(case="apart", figures="signs", bars="ahead", ends="first", turned=0):
    """Return a rule, with P's words where none are told."""
    return (case, figures, bars, ends, turned)
