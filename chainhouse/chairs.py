"""The chair: what it notes, its fillings, what it settles, and what is asked, changed and read at it."""

from chainhouse.benches import behind, is_half, is_joined, joined
from chainhouse.errors import NoDeed, NotChair, NotYet, Old
from chainhouse.members import Members
from chainhouse.stands import pieces, shown_stand
from chainhouse.works import is_ask, is_read


class Chair:
    def __init__(self, noted):
        self.noted = noted
        self.beat = 0
        # Reads that wait, as tuples (asker, number, key, beat), in the order in which they were asked.
        self.wanted = []

    def twin(self):
        other = Chair(self.noted.twin())
        other.beat = self.beat
        other.wanted = list(self.wanted)
        return other


def become_chair(mind):
    row = mind.row()
    mind.shown.append(("chair", mind.kept.term, mind.name, row.bench(), tuple(sorted(mind.yes))))
    mind.known = mind.name
    mind.role = "chair"
    mind.seat = Chair(Members(mind.name))
    mind.seat.noted.note_bench(row.bench(), row.last_place() + 1)
    put_deed(mind, ("first",))
    return sent_and_settled(mind)


def put_deed(mind, deed):
    mind.kept.keep_row(mind.row().with_entry((mind.kept.term, deed)))
    mind.record(("put", mind.kept.term, deed))


def put_bench(mind, bench):
    put_deed(mind, ("bench", bench))
    mind.seat.noted.note_bench(bench, mind.row().last_place())


def filling(mind, name):
    row = mind.row()
    following = mind.seat.noted.next_of(name)
    if following <= row.stand[0]:
        return filling_piece(mind, name)
    before = following - 1
    head = ("rows", mind.name, name, mind.kept.term, before, row.term_at(before))
    return head + (row.behind(before), mind.settled(), mind.seat.beat)


def filling_piece(mind, name):
    stand = mind.row().stand
    parts = pieces(shown_stand(stand), mind.size)
    number = mind.seat.noted.lacking_of(name)
    head = ("piece", mind.name, name, mind.kept.term, stand[0], stand[1])
    return head + (number, len(parts), parts[number], mind.seat.beat)


def fillings(mind):
    return tuple([filling(mind, name) for name in mind.seat.noted.names()])


def sent_and_settled(mind):
    # Fillings are sent ahead of settling: they bear the settled place as it was.
    sent = fillings(mind)
    return sent + settle(mind)


def place_to_settle(mind):
    row = mind.row()
    bench = row.bench()
    # Who holds a place changes only behind one that is just somebody's held: no other may be the greatest.
    for place in reversed(sorted(set(mind.seat.noted.held_places() + [row.last_place()]))):
        # Held by more than half, an entry of an earlier term might still be cut by a later chair.
        is_own = place > mind.settled() and row.term_at(place) == mind.kept.term
        if is_own and is_half(bench, mind.seat.noted.holders(place)):
            return place
    return None


def settle(mind):
    place = place_to_settle(mind)
    if place is None:
        return ()
    row = mind.row()
    entries = row.between(mind.settled(), place)
    holders = mind.seat.noted.holders(place)
    mind.shown.append(("settled", mind.kept.term, mind.name, place, entries, row.bench(), holders))
    for asker, number, word, answer in mind.settle_to(place):
        if word != "old":
            mind.given.append((asker, number, answer))
    return bench_followed(mind)


def is_bench_settled(mind):
    return mind.row().bench_place() <= mind.settled()


def bench_followed(mind):
    bench = mind.row().bench()
    if not is_bench_settled(mind):
        return ()
    if is_joined(bench):
        put_bench(mind, behind(bench))
        return sent_and_settled(mind)
    if mind.name not in bench[0]:
        mind.follow(None)
    return ()


def chair_turn(mind):
    beat_once(mind)
    return fillings(mind)


def beat_once(mind):
    seat = mind.seat
    seat.beat += 1


def is_answer(mind, letter):
    return mind.is_chair() and letter[3] == mind.kept.term and mind.seat.noted.is_noted(letter[1])


def took_heard(mind, letter):
    if not is_answer(mind, letter):
        return ()
    mind.seat.noted.took(letter[1], letter[4], letter[5], letter[6])
    sent = settle(mind) if letter[4] else (filling(mind, letter[1]),)
    look_at_reads(mind)
    return sent


def got_heard(mind, letter):
    if not is_answer(mind, letter):
        return ()
    mind.seat.noted.got(letter[1], letter[4], letter[5], letter[6], mind.row().stand[0])
    sent = (filling(mind, letter[1]),)
    look_at_reads(mind)
    return sent


def check_chair(mind):
    if not mind.is_chair():
        raise NotChair(mind.known)


def is_own_settled(mind):
    return mind.row().term_at(mind.settled()) == mind.kept.term


def ask_heard(mind, asker, number, work):
    if not is_ask(asker, number, work):
        raise NoDeed("this is no ask")
    check_chair(mind)
    last = mind.board.last_of(asker)
    if number < last:
        raise Old("the asker's last ask that was done has a greater number")
    if number == last:
        mind.given.append((asker, number, mind.board.does(asker, number, work)[1]))
        return ()
    put_deed(mind, ("ask", asker, number, work))
    return sent_and_settled(mind)


def change_heard(mind, voters, learners):
    check_chair(mind)
    bench = mind.row().bench()
    if is_joined(bench) or not is_bench_settled(mind) or not is_own_settled(mind):
        raise NotYet("the change ahead, or the chair's own first entry, is not settled yet")
    put_bench(mind, joined(bench, voters, learners))
    return sent_and_settled(mind)


def read_heard(mind, asker, number, key):
    if not is_read(asker, number, key):
        raise NoDeed("this is no read")
    check_chair(mind)
    if not is_own_settled(mind):
        # Earlier chairs may have settled more than this one knows of, until an entry of its own is settled.
        raise NotYet("the chair's own first entry is not settled yet")
    beat_once(mind)
    mind.seat.wanted.append((asker, number, key, mind.seat.beat))
    sent = fillings(mind)
    look_at_reads(mind)
    return sent


def look_at_reads(mind):
    # Settling may have ended the chair, and then its reads are gone.
    if not mind.is_chair():
        return
    bench = mind.row().bench()
    seat = mind.seat
    waiting = []
    for asker, number, key, beat in seat.wanted:
        if is_half(bench, seat.noted.answerers(beat)):
            mind.found.append((asker, number, mind.board.holds(key), mind.settled()))
        else:
            waiting.append((asker, number, key, beat))
    seat.wanted = waiting
