"""A chair's fillings as they are heard: rows, and the pieces of a stand."""

from chainhouse.rows import Row
from chainhouse.stands import read_stand


def rows_heard(mind, letter):
    if letter[3] < mind.kept.term:
        return late(mind, letter)
    if mind.is_chair():
        return ()
    follow_sender(mind, letter)
    before = letter[4]
    entries = letter[6]
    row = mind.row().filled(before, letter[5], entries)
    if row is None:
        return took(mind, letter, False, mind.settled())
    mind.kept.keep_row(row)
    mind.record(("rows", letter[3], letter[1], before, letter[5], entries))
    place = before + len(entries)
    # Entries beyond those of the letter are not known to be the chair's.
    settled = min(letter[7], place)
    if settled > mind.settled():
        mind.settle_to(settled)
    return took(mind, letter, True, place)


def late(mind, letter):
    # What answers an earlier time of a chair counts for no beat of a later one.
    return (("took", mind.name, letter[1], mind.kept.term, False, mind.settled(), 0),)


def took(mind, letter, yes, place):
    return (("took", mind.name, letter[1], mind.kept.term, yes, place, letter[-1]),)


def follow_sender(mind, letter):
    mind.follow(letter[1])
    mind.quiet = 0


def piece_heard(mind, letter):
    if letter[3] < mind.kept.term:
        return late(mind, letter)
    if mind.is_chair():
        return ()
    follow_sender(mind, letter)
    place = letter[4]
    settled = mind.settled()
    if place <= settled:
        mind.record(("rows", letter[3], letter[1], settled, mind.row().term_at(settled), ()))
        return took(mind, letter, True, settled)
    mind.sheets[(place, letter[6])] = letter[8]
    lacking = least_lacking(mind, place)
    if lacking < letter[7]:
        return (("got", mind.name, letter[1], mind.kept.term, place, lacking, letter[9]),)
    take_stand(mind, read_stand("".join([mind.sheets[(place, number)] for number in range(letter[7])])))
    mind.record(("stand", letter[3], letter[1], place, letter[5]))
    return took(mind, letter, True, place)


def least_lacking(mind, place):
    # Counted up by what is there: the many that a letter tells may be very great.
    number = 0
    while (place, number) in mind.sheets:
        number += 1
    return number


def take_stand(mind, stand):
    row = mind.row()
    place = stand[0]
    entries = row.behind(place) if row.term_at(place) == stand[1] else ()
    mind.stand_on(Row(stand, entries))
    for noted in list(mind.sheets):
        if noted[0] <= place:
            mind.sheets.pop(noted)
