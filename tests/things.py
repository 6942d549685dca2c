"""Odd things for the tests: values that are no name, no work and no whole number."""


def deep(many):
    """A list within a list, and so on, so many times."""
    thing = []
    for _ in range(many):
        thing = [thing]
    return thing


NO_NAMES = (
    "", "abcdefghi", "a" * 100, "A", "aB", "Ab", "ABC", "a1", "1", "0", "a b", " a", "a ", " ", "\n", "a\n", "\na",
    "a\nb", "a\t", "a-b", "a_b", "-", "~", "{", "`", "a.b", "/", "\u00e9", "a\u00e9", "\u00df", "\u0430", "\uff41",
    None, True, False, 0, 1, -1, (), [], ("a",), ["a"], ("a", "b"), [["a"]], (None,), deep(50), deep(100000),
)

NO_WHOLES = (True, False, None, "", "1", "a", (), [], (1,), [1], deep(50), deep(100000))
