"""Letters: what is one, told of anything."""

from chainhouse.errors import NoLetter
from chainhouse.rows import is_entry
from chainhouse.works import is_name, is_whole_from

# Each kind's parts behind its word: from, to and term are ahead in all.
HEAD = ("name", "name", "whole")
PARTS = {
    "look": ("whole", "whole"),
    "saw": ("truth", "whole"),
    "vote": ("whole", "whole"),
    "gave": ("truth",),
    "rows": ("whole", "whole", "entries", "whole", "whole"),
    "took": ("truth", "whole", "whole"),
    "piece": ("whole", "whole", "whole", "whole", "text", "whole"),
    "got": ("whole", "whole", "whole"),
}


def is_part(sort, thing):
    if sort == "name":
        return is_name(thing)
    if sort == "truth":
        return isinstance(thing, bool)
    if sort == "text":
        return isinstance(thing, str)
    if sort == "entries":
        return isinstance(thing, tuple) and all([is_entry(entry) for entry in thing])
    return is_whole_from(thing, 0)


def is_letter(thing):
    # The word is looked at first: a dict can't be asked for a list.
    if not isinstance(thing, tuple) or len(thing) == 0 or not isinstance(thing[0], str) or thing[0] not in PARTS:
        return False
    sorts = HEAD + PARTS[thing[0]]
    if len(thing) != len(sorts) + 1 or not all([is_part(sort, part) for sort, part in zip(sorts, thing[1:])]):
        return False
    # A piece's number is below its many, which so is from 1 on.
    return thing[0] != "piece" or thing[6] < thing[7]


def check_letter(thing):
    # The words show nothing of the thing: what is very deep or very great can't be shown.
    if not is_letter(thing):
        raise NoLetter("this is no letter")
