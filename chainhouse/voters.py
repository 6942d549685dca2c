"""Votes: turns of a house that is no chair, looks ahead, standing, and what is said to them."""

from chainhouse.benches import is_half, speakers
from chainhouse.chairs import become_chair


def voter_turn(mind):
    mind.quiet += 1
    if mind.quiet < mind.wait or not may_stand(mind):
        return ()
    return look_ahead(mind)


def may_stand(mind):
    row = mind.row()
    return mind.name in speakers(row.bench()) or mind.name in speakers(row.bench_at(mind.settled()))


def look_ahead(mind):
    begin_asking(mind, "looker")
    if has_half(mind):
        return stand_up(mind)
    return sent_to_speakers(mind, "look", mind.kept.term + 1)


def stand_up(mind):
    row = mind.row()
    mind.rise_to(mind.kept.term + 1)
    mind.vote_for(mind.name, row.last_place(), row.last_term())
    begin_asking(mind, "asker")
    if has_half(mind):
        return become_chair(mind)
    return sent_to_speakers(mind, "vote", mind.kept.term)


def begin_asking(mind, role):
    mind.follow(None)
    mind.role = role
    mind.quiet = 0
    mind.yes = [mind.name]


def has_half(mind):
    return is_half(mind.row().bench(), mind.yes)


def sent_to_speakers(mind, word, term):
    row = mind.row()
    names = [name for name in speakers(row.bench()) if name != mind.name]
    return tuple([(word, mind.name, name, term, row.last_place(), row.last_term()) for name in names])


def said_yes(mind, name):
    if name not in mind.yes:
        mind.yes.append(name)
    return has_half(mind)


def is_new_enough(mind, place, last):
    row = mind.row()
    return (last, place) >= (row.last_term(), row.last_place())


def look_heard(mind, letter):
    # A house that hears of a chair in time says no: a house that came from afar does not unseat it.
    is_free = not mind.is_chair() and (mind.known is None or mind.quiet >= mind.wait)
    yes = letter[3] > mind.kept.term and is_new_enough(mind, letter[4], letter[5]) and is_free
    return (("saw", mind.name, letter[1], mind.kept.term, yes, letter[3]),)


def saw_heard(mind, letter):
    if mind.role == "looker" and letter[4] and letter[5] == mind.kept.term + 1 and said_yes(mind, letter[1]):
        return stand_up(mind)
    return ()


def vote_heard(mind, letter):
    name = letter[1]
    is_free = letter[3] == mind.kept.term and mind.kept.vote in (None, name)
    yes = is_free and is_new_enough(mind, letter[4], letter[5])
    if yes:
        mind.vote_for(name, letter[4], letter[5])
        mind.quiet = 0
    return (("gave", mind.name, name, mind.kept.term, yes),)


def gave_heard(mind, letter):
    if mind.role == "asker" and letter[3] == mind.kept.term and letter[4] and said_yes(mind, letter[1]):
        return become_chair(mind)
    return ()
