"""Houses in the parts that tests need, and all that can be told of one."""

import copy

from chainhouse.houses import House
from chainhouse.stands import first_stand

BENCH = (("a", "b", "c"), (), ())
FIRST = first_stand(BENCH)
WAIT = 3


def ask(asker, number, key, amount):
    return ("ask", asker, number, ("add", key, amount))


def put(asker, number, key, amount):
    return ("ask", asker, number, ("put", key, amount))


# A stand at a far place with entries behind it: what is written in many tests.
STAND = (5, 2, BENCH, (("k", 7), ("m", -2)), (("ann", 3, 7), ("bob", 1, None)))
ENTRIES = ((2, ask("ann", 4, "k", 1)), (3, ("first",)), (3, ask("bob", 2, "m", 5)), (4, ("first",)))
AMID = (4, "b", 7, STAND, ENTRIES)
AT_FIRST = (0, None, 0, FIRST, ())
ONE_ENTRY = (1, None, 0, FIRST, ((1, ("first",)),))


def up(parts, name="a", wait=WAIT, size=10):
    house = House(name, wait, size, BENCH)
    house.comes_up(parts)
    return house


def plain(parts=AMID, name="a", wait=WAIT, size=10):
    return up(parts, name, wait, size)


def looker(parts=AMID, name="a", wait=WAIT, size=10):
    house = up(parts, name, wait, size)
    for _ in range(wait):
        house.turn()
    return house


def asker(parts=AMID, name="a", wait=WAIT, size=10, others=("b",)):
    """Asks for votes in the term one beyond the one that is written, those others having said yes to its look."""
    house = looker(parts, name, wait, size)
    for other in others:
        house.hear(("saw", other, name, parts[0], True, parts[0] + 1))
    return house


def chair(parts=AMID, name="a", wait=WAIT, size=10, others=("b",)):
    house = asker(parts, name, wait, size, others)
    for other in others:
        house.hear(("gave", other, name, parts[0] + 1, True))
    return house


def alone(parts=None, wait=WAIT, size=10):
    """A chair that is the one voter: all that it puts is settled at once."""
    bench = (("a",), (), ())
    return chair(parts or (0, None, 0, first_stand(bench), ()), wait=wait, size=size, others=())


def turns_left(house):
    """How many turns it takes till the house looks ahead: so its quiet is seen. None where it is chair or never looks."""
    other = copy.deepcopy(house)
    if other.part() == "chair":
        return None
    for turns in range(1, house.wait + 1):
        before = other.writes()
        if other.turn() or other.writes() != before:
            return turns
    return None


def fillings(house):
    """What a chair's turn would send: so what it notes is seen."""
    other = copy.deepcopy(house)
    return other.turn() if other.part() == "chair" else None


def all_told(house):
    other = copy.deepcopy(house)
    row = other.row()
    return (
        (other.name, other.wait, other.size), other.writes(), other.part(), other.chair_known(), other.settled(),
        (row.stand, row.entries), other.table().told(), other.journal(), turns_left(house), fillings(house),
        other.taken_answers(), other.taken_reads(), other.taken_papers(),
    )


def taken(house):
    return (house.taken_answers(), house.taken_reads(), house.taken_papers())


PARTS_OF_A_HOUSE = (("plain", plain), ("looker", looker), ("asker", asker), ("chair", chair))
