"""Whole numbers, names, works and asks: what is one, told of anything."""

SMALL_LETTERS = "abcdefghijklmnopqrstuvwxyz"


def is_whole(thing):
    # Python counts True and False as ints; here they are none.
    return isinstance(thing, int) and not isinstance(thing, bool)


def is_whole_from(thing, least):
    return is_whole(thing) and thing >= least


def is_name(thing):
    if not isinstance(thing, str) or len(thing) < 1 or len(thing) > 8:
        return False
    # Not islower: that lets by figures and the letters of other tongues.
    return all([sign in SMALL_LETTERS for sign in thing])


def is_rising_names(thing):
    # Names first: what is none may not be compared.
    if not isinstance(thing, tuple) or not all([is_name(part) for part in thing]):
        return False
    return all([name < following for name, following in zip(thing, thing[1:])])


def is_work_number(thing):
    return is_whole(thing) and abs(thing) < 10 ** 60


def is_work(thing):
    if not isinstance(thing, tuple) or len(thing) < 2 or not is_name(thing[1]):
        return False
    if thing[0] == "drop":
        return len(thing) == 2
    return thing[0] in ("put", "add") and len(thing) == 3 and is_work_number(thing[2])


def is_ask(asker, number, work):
    # Sixty figures bound the numbers of works alone: an ask's number has no end.
    return is_name(asker) and is_whole_from(number, 1) and is_work(work)


def is_read(asker, number, key):
    return is_name(asker) and is_whole_from(number, 1) and is_name(key)
