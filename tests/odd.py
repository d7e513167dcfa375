"""Values of all kinds, to be passed where any value may be passed."""


class Yes:
    """Agrees with everything that it is asked."""

    def __eq__(self, other):
        return True

    def __ne__(self, other):
        return False

    def __lt__(self, other):
        return True

    __le__ = __gt__ = __ge__ = __lt__

    def __hash__(self):
        return 0

    def __len__(self):
        return 2

    def __iter__(self):
        return iter((0, 0))

    def __getitem__(self, at):
        return 0

    def __contains__(self, value):
        return True

    def __index__(self):
        return 0

    def __getattr__(self, name):
        return 0


class Loud:
    """Fails whatever it is asked."""

    def _fail(self, *told):
        raise AssertionError("asked")

    __eq__ = __ne__ = __lt__ = __le__ = __gt__ = __ge__ = __hash__ = _fail
    __len__ = __iter__ = __getitem__ = __contains__ = __index__ = __bool__ = _fail
    __repr__ = __str__ = _fail

    def __getattr__(self, name):
        raise AssertionError("asked")


# None of these is an integer, a string or a tuple.
STRANGE = [True, False, 0.0, 1.0, -1.5, b"", b"a", [], [0], ["a"], {}, {0: 0}, set(), frozenset(),
           range(2), Yes(), Loud(), object(), int, len, ValueError("a"), 1j]
ODD = STRANGE + [None, 0, 1, -1, 7, 10 ** 400, -10 ** 400, "", "a", "abc", "A", "0", "rise", "now", "\n", "\t",
                 (), ((),), (((),),), (0,), (0, 0), (None,), (None, None), ("a",), ("a", 0), ((0, 0), (0, 0)),
                 (1, 2, 3), ("now", 0, 0, 0), ("a", 0, 0, ()), tuple(range(300))]


def told(value):
    """A word for a value in a message."""
    if isinstance(value, (Yes, Loud)):
        return type(value).__name__
    if isinstance(value, tuple):
        return "(" + ", ".join([told(part) for part in value]) + ")"
    try:
        return repr(value)[:80]
    except ValueError:
        return "a great number"


def spoiled(value, others):
    """The value with one part, at any depth, replaced by each of others; tuples by lists, too."""
    for other in others:
        yield other
    if isinstance(value, tuple):
        yield list(value)
        for at, part in enumerate(value):
            for other in spoiled(part, others):
                yield value[:at] + (other,) + value[at + 1:]


def resized(value):
    """The value with one tuple, at any depth, one longer or one shorter."""
    if isinstance(value, tuple):
        yield value + (0,)
        if value:
            yield value[:-1]
        for at, part in enumerate(value):
            for other in resized(part):
                yield value[:at] + (other,) + value[at + 1:]
