"""Stands: the first one, each written as a text and read again, and the pieces of a text."""

from chainhouse.benches import is_bench
from chainhouse.errors import NoText
from chainhouse.works import is_rising_names

FIGURES = "0123456789"
MOST_FIGURES = 100


def first_stand(bench):
    return (0, 0, bench, (), ())


def shown_bench(bench):
    return " ".join(("bench",) + bench[0] + ("/",) + bench[1] + ("/",) + bench[2])


def shown_asked(asker, number, answer):
    shown = "-" if answer is None else str(answer)
    return f"asked {asker} {number} {shown}"


def shown_stand(stand):
    place = stand[0]
    term = stand[1]
    rows = [f"stand {place} {term}", shown_bench(stand[2])]
    rows.extend([f"held {key} {number}" for key, number in stand[3]])
    rows.extend([shown_asked(asker, number, answer) for asker, number, answer in stand[4]])
    return "\n".join(rows)


def is_figures(word):
    # Not isdigit: that lets by the figures of other tongues.
    if len(word) < 1 or len(word) > MOST_FIGURES or not all([sign in FIGURES for sign in word]):
        return False
    return word[0] != "0" or word == "0"


def read_number(word):
    figures = word[1:] if word.startswith("-") else word
    if not is_figures(figures) or word == "-0":
        raise NoText("a word writes no number")
    return int(word)


def words_behind(words, first, many):
    if words[0] != first or len(words) != many + 1:
        raise NoText(f"a row is no row of {first}, or has other than so many words behind: {many}")
    return words[1:]


def read_bench(words):
    if words[0] != "bench" or words.count("/") != 2:
        raise NoText("a row writes no bench")
    first = words.index("/")
    second = words.index("/", first + 1)
    return (tuple(words[1:first]), tuple(words[first + 1:second]), tuple(words[second + 1:]))


def read_held(words):
    parts = words_behind(words, "held", 2)
    return (parts[0], read_number(parts[1]))


def read_asked(words):
    parts = words_behind(words, "asked", 3)
    answer = None if parts[2] == "-" else read_number(parts[2])
    return (parts[0], read_number(parts[1]), answer)


def is_stand(place, term, bench, held, asked):
    # All numbers are read already: only which ones they are is left to look at.
    if place == 0:
        return term == 0 and len(held) == 0 and len(asked) == 0 and is_bench(bench)
    if place < 1 or term < 1 or not is_bench(bench):
        return False
    if not is_rising_names(tuple([pair[0] for pair in held])):
        return False
    return is_rising_names(tuple([part[0] for part in asked])) and all([part[1] >= 1 for part in asked])


def read_stand(text):
    # Not splitlines, nor split without a sign: those part at other signs, too, and join several.
    rows = [row.split(" ") for row in text.split("\n")]
    if len(rows) < 2:
        raise NoText("a stand has two rows at least")
    head = words_behind(rows[0], "stand", 2)
    place = read_number(head[0])
    term = read_number(head[1])
    bench = read_bench(rows[1])
    held = tuple([read_held(words) for words in rows[2:] if words[0] == "held"])
    # So a held row that stands behind an asked one is looked at as an asked one, and refused.
    asked = tuple([read_asked(words) for words in rows[2 + len(held):]])
    if not is_stand(place, term, bench, held, asked):
        raise NoText("what the text writes is no stand")
    return (place, term, bench, held, asked)


def pieces(text, size):
    return tuple([text[start:start + size] for start in range(0, len(text), size)])
