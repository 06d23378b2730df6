"""Values of many kinds that are no number, for the tests of refusals."""

from phrasedesk.answers import Fresh


class Alike:
    """Says of itself that it is the same as whatever it is compared with."""

    __hash__ = None

    def __eq__(self, other):
        return True


ODD = [None, True, False, "", "0", "ab", b"", b"\x00", (), (0,), (0, None), [], [0], [None], {}, {0: 0}, set(), {0},
       frozenset(), range(2), object(), object, len, iter([0]), ValueError("0"), Fresh(), Alike()]
