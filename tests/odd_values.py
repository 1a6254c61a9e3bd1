"""Values that are of no form of the document, for the functions that take any value."""


class Yes:
    """Equal to everything, and of every length."""

    def __eq__(self, other):
        return True

    __hash__ = None

    def __len__(self):
        return 2


class Angry:
    """Fails when it is compared or measured."""

    def __eq__(self, other):
        raise RuntimeError("compared")

    def __lt__(self, other):
        raise RuntimeError("ordered")

    __hash__ = None

    def __len__(self):
        raise RuntimeError("measured")

    def __iter__(self):
        raise RuntimeError("iterated")


def nested(kind, depth, core):
    value = core
    for _ in range(depth):
        value = kind(value)
    return value


DEEP = (
    nested(lambda x: (x,), 200, ()),
    nested(lambda x: [x], 200, []),
    nested(lambda x: {"a": x}, 200, {}),
    nested(lambda x: (x, x), 200, 1),
    nested(lambda x: ("moves", (x,)), 100, ("blocked",)),
    nested(lambda x: (0, x), 200, 5),
    ("plan", ((0, 1),), nested(lambda x: ("moves", (x,)), 99, ("blocked",))),
    ("never", nested(lambda x: (x,), 199, 1)),
)

ODD = (
    None, True, False, 1.0, 1.5, float("nan"), 2j, "", "a", "never", "plan", b"", b"ab",
    [], {}, set(), frozenset(), object(), int, len, range(3), Yes(), Angry(), Ellipsis,
    [()], [(0, 1)], {"a": 1}, {0: 1}, (None,), (True,), (1.0,), ("a",), ([],), (Yes(),), (Angry(),),
    (None, None), (True, False), (False, True), (1.0, 2.0), ("a", "b"), ([], []), (Yes(), Yes()),
    (Angry(), Angry()), (Yes(), ()), (Yes(), (), ()), (Angry(), 1, 2), (Yes(), Yes(), Yes()),
    ((True, 2),), ((0, True),), ((0, 1.0),), ((0, "1"),), ((0, None),), ([0, 1],), [[0, 1]],
    ((Angry(), 1),), ((Yes(), Yes()),), ((0, 1, 2),), ((0,),), (((0, 1),),), ("plan",), ("never",),
    ("blocked",), ("moves", ()), -1, 10 ** 30, (-1, -1), ((-1, -1),),
) + DEEP


def with_changes(value, replacements=(None, True, "a", -1, 1.0, (), [], Yes())):
    """Yield copies of nested tuples with one part replaced, left out or put in, or a list for a tuple."""
    if isinstance(value, tuple):
        yield list(value)
        for k, part in enumerate(value):
            yield value[:k] + value[k + 1:]
            for other in replacements:
                yield value[:k] + (other,) + value[k + 1:]
            for other in with_changes(part, replacements):
                yield value[:k] + (other,) + value[k + 1:]
        for other in replacements:
            yield value + (other,)
    elif isinstance(value, int):
        yield float(value)
        yield str(value)
