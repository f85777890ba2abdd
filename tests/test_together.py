"""Over the whole program: what functions of one part of the document say fits what those of another return."""

import unittest
from fractions import Fraction
from itertools import combinations

from silencers.apart import blocks, building, is_building, is_built, needs, rests_by, taken_out, turned_by
from silencers.boards import Board
from silencers.calls import called, called_all, changers, is_rest, tells
from silencers.chances import end_chances, mean_calls
from silencers.coming import (
    can_come, ends, is_row_to, is_two_ends, longest_row, lumps, many_ends, missed, most_changes, row_to, sure_end,
    two_ends,
)
from silencers.desks import Desk
from silencers.errors import BadCall, NoPart, WebError
from silencers.groups import at_once_end, called_at_once, is_restless, restless
from silencers.healing import harm, healing_web, heals, is_harm, slip, strength, weakest
from silencers.helping import drift, fewest_puts, puts
from silencers.lists import List, can_be_shown, is_lack, is_showing, lack, shown
from silencers.listtexts import list_text, log_text, read_list, read_log
from silencers.logs import behind, fits, same_log, web_of, wrong_call
from silencers.making import bare_web, closed_up, missing, seen_at, side_by_side, web_for
from silencers.nets import (
    Net, any_round, is_any_round, is_odd_round, net_called, net_comes, net_of, net_rests, net_round, net_row, odd_round,
    only_rest,
)
from silencers.reading import read_lot, read_web
from silencers.rests import (
    held_by, many_rests, many_with, most_rests, rest_at, rest_number, rest_sizes, rests, smallest_rest,
)
from silencers.runs import Run
from silencers.shapes import pieces, renaming, twins
from silencers.sparse import fewest_ties, most_ties, sparse_web, sure_ties, verdict
from silencers.stores import best_letters, is_store, strokes_between
from silencers.strangers import lazy, led, led_end
from silencers.strokes import (
    course_end, course_to, is_two_courses, stroke_ends, sure_stroke, two_courses,
)
from silencers.texts import lot_text, web_text
from silencers.webs import Web, beside, copied, full, joined, kept, put_in, renamed, ring, row, tie, tied_to, untie
from silencers.writing import fewest_held, is_writing, sure_strokes, writing
from things import all_lots, all_strokes, all_webs, random_web, things

LATCH = Web(2, ((0, 1),))
FEW = [Web(1, ()), LATCH, Web(2, ()), row(3), full(3), row(4), ring(5), copied(LATCH, 2), joined(row(3), row(2)),
       beside(row(3), full(2)), random_web(5, 4, 1), random_web(6, 3, 2), put_in(row(3), 1, row(4)), ring(6)]
TINY = [web for web in FEW if web.size < 5]


def stands_of(web):
    return all_lots(web.size)[::1 if web.size < 5 else 3]


def word_of(lot):
    return lot_text(lot).replace(" ", ",")


def first_changer(web):
    return lambda stand: (changers(web, stand) or (0,))[0]


class Coming(unittest.TestCase):
    def test_ends(self):
        for web in FEW:
            for stand in stands_of(web):
                found = ends(web, stand)
                chances = end_chances(web, stand)
                self.assertEqual(sorted(chances), found)
                self.assertEqual(sum(Fraction(*chance) for chance in chances.values()), 1)
                self.assertEqual((many_ends(web, stand), net_comes(net_of(web), stand)), (len(found), found))
                self.assertEqual(found, [rest for rest in rests(web) if can_come(web, stand, rest)])
                self.assertEqual(sure_end(web, stand), found[0] if len(found) == 1 else None)
                pair = two_ends(web, stand)
                self.assertEqual(pair is None, len(found) == 1)
                if pair is not None:
                    self.assertIs(is_two_ends(web, stand, pair), True)
                    self.assertTrue({called_all(web, stand, calls) for calls in pair} <= set(found))
                fewest = min(len(row_to(web, stand, rest)) for rest in found)
                self.assertGreaterEqual(Fraction(*mean_calls(web, stand)), fewest)
                self.assertGreaterEqual(most_changes(web, stand), fewest)

    def test_rows(self):
        for web in FEW:
            for stand in stands_of(web):
                for rest in rests(web):
                    calls, other = row_to(web, stand, rest), net_row(net_of(web), stand, rest)
                    self.assertEqual(calls is None, missed(web, stand, rest) is not None)
                    self.assertEqual(calls is None, other is None)
                    if calls is not None:
                        self.assertEqual(len(calls), len(other))
                        self.assertTrue(is_row_to(web, stand, rest, other) and is_row_to(web, stand, rest, list(calls)))
                        self.assertEqual(fits(web, same_log(web, stand, calls)), True)
                        self.assertEqual(behind(same_log(web, stand, calls)), rest)
                    put = puts(web, stand, rest)
                    self.assertEqual(len(put), fewest_puts(web, stand, rest))
                    self.assertIs(can_come(web, tuple(sorted(stand + put)), rest), True)
                self.assertIn(called_all(web, stand, longest_row(web, stand)), rests(web))

    def test_runs_boards_and_desks(self):
        for web in FEW:
            calls = [(3 * k + k * k) % web.size for k in range(12)]
            run, board, desk, now = Run(web, ()), Board(web), Desk(), ()
            desk.tell("web a " + web_text(web).replace("\n", "|"))
            for part in calls:
                self.assertEqual(desk.tell(f"call a {word_of(now)} {part}"), word_of(called(web, now, part)))
                told = tells(web, now, part)
                self.assertEqual((run.call(part), board.call(part)), (told, told))
                now = called(web, now, part)
                self.assertEqual((run.stand(), board.stand(), net_called(net_of(web), now, part)),
                                 (now, now, called_at_once(web, now, (part,))))
                self.assertEqual((board.ends(), board.changers()), (ends(web, now), changers(web, now)))
                self.assertEqual(desk.tell(f"rest a {word_of(now)}"), "no" if changers(web, now) else "yes")
                lots = [read_lot(word.replace(",", " ")) for word in desk.tell(f"lumps a {word_of(now)}").split(" ")]
                self.assertEqual(lots, lumps(web, now))
                for rest in rests(web):
                    wanted = "no" if row_to(web, now, rest) is None else "yes"
                    self.assertEqual(desk.tell(f"come a {word_of(now)} {word_of(rest)}"), wanted)
            self.assertEqual(same_log(web, (), calls), (web.size, (), tuple(run.log())))
            self.assertEqual(run.trying(lambda inner: inner.stand()), board.copy().stand())
            run.back(12)
            self.assertEqual(run.stand(), ())

    def test_boards_change_webs(self):
        for web in FEW:
            board = Board(web)
            for a, b in combinations(range(web.size), 2):
                (board.untie if (a, b) in web.ties else board.tie)(a, b)
                self.assertEqual(board.web(), (untie if (a, b) in web.ties else tie)(web, a, b))
                self.assertEqual(board.ends(), rests(board.web()))
                board.back()
            self.assertEqual((board.web(), board.deeds()), (web, 0))

    def test_strangers(self):
        for web in FEW:
            self.assertIsNone(lazy(web, first_changer(web)))
            for stand in stands_of(web):
                lead, length = led_end(web, stand, first_changer(web))
                end = led(web, stand, first_changer(web), lead)
                self.assertEqual((length, end in ends(web, stand)), (1, True))
                self.assertLessEqual(lead, most_changes(web, stand))
                self.assertEqual(led_end(web, stand, lambda now: 0), at_once_end(web, stand, (0,)))


class Hands(unittest.TestCase):
    def test_strokes(self):
        for web in TINY:
            for stroke in all_strokes(web.size):
                found = sorted({end for rest in rests(web) for end in stroke_ends(web, rest, stroke)})
                self.assertEqual(sure_stroke(web, stroke), found[0] if len(found) == 1 else None)
                two = two_courses(web, stroke)
                self.assertEqual(two is None, len(found) == 1)
                if two is not None:
                    self.assertIs(is_two_courses(web, stroke, two), True)
                    self.assertEqual(len({course_end(web, two[0], stroke, two[1]),
                                          course_end(web, two[2], stroke, two[3])} & set(found)), 2)
                for rest in rests(web):
                    for end in stroke_ends(web, rest, stroke):
                        self.assertEqual(course_end(web, rest, stroke, course_to(web, rest, stroke, end)), end)

    def test_writings_and_stores(self):
        for web in FEW:
            for rest in rests(web):
                strokes = writing(web, rest)
                self.assertIs(is_writing(web, rest, strokes), True)
                self.assertLessEqual(len(strokes), len(rest))
                where = rests(web)
                for stroke in strokes:
                    where = sorted({end for now in where for end in stroke_ends(web, now, stroke)})
                self.assertEqual(where, [rest])
                for stroke in sure_strokes(web, rest):
                    self.assertEqual((sure_stroke(web, stroke), len(stroke[0] + stroke[1])), (rest, fewest_held(web, rest)))
            letters = best_letters(web, 2)
            self.assertIs(is_store(web, letters, strokes_between(web, letters, 2)), True)

    def test_desk_strokes_and_healing(self):
        desk = Desk()
        for web in TINY:
            desk.tell("web a " + web_text(web).replace("\n", "|"))
            for rest in rests(web):
                for many in range(4):
                    self.assertEqual(desk.tell(f"heals a {word_of(rest)} {many}"),
                                     "yes" if drift(web, rest, many) == [rest] else "no")
                for up, down in sure_strokes(web, rest):
                    self.assertEqual(desk.tell(f"stroke a {word_of(up)} {word_of(down)}"), word_of(rest))

    def test_healing(self):
        for web in FEW:
            for rest in rests(web):
                for many in range(3):
                    found = harm(web, rest, many)
                    self.assertEqual((found is None, drift(web, rest, many) == [rest]), (heals(web, rest, many),) * 2)
                    if found is not None:
                        self.assertIs(is_harm(web, rest, many, found), True)
                        stand = tuple(part for part in rest if part not in found[0])
                        self.assertIn(called_all(web, stand, found[1]), ends(web, stand))
                for part in [part for part in range(web.size) if part not in rest]:
                    with_part = tuple(sorted(rest + (part,)))
                    self.assertEqual(turned_by(web, rest, part), ends(web, with_part))
                    self.assertIn(called_all(web, with_part, slip(web, rest, part)), turned_by(web, rest, part))
                    self.assertEqual((needs(web, rest, part),), tuple(
                        tuple(other for other in lump if other != part) for lump in lumps(web, with_part) if part in lump))
                    self.assertIs(heals(web, rest, len(needs(web, rest, part))), False)
            self.assertEqual(weakest(web)[0], min([strength(web, rest) for rest in rests(web)
                                                   if strength(web, rest) is not None], default=None))


class Lists(unittest.TestCase):
    def test_lists_of_webs(self):
        for web in FEW:
            for showing in ((0,), tuple(range(web.size)), tuple(reversed(range(web.size)))[:3]):
                one = shown(web, showing)
                self.assertIs(is_showing(web, one, showing), True)
                self.assertIs(can_be_shown(one), True)
                self.assertEqual(read_list(list_text(one)), one)
                made, places = web_for(one)
                self.assertEqual(shown(made, places), one)
                for many in (0, 1, 2):
                    healing, places = healing_web(one, many)
                    self.assertEqual(shown(healing, places), one)
                    self.assertTrue(all([heals(healing, rest, many) for rest in rests(healing)]))
                self.assertEqual(sorted(set(one.stands) | set(missing(one))), list(closed_up(one).stands))
                lot = tuple(range(one.places))[:2]
                self.assertEqual(seen_at(one, lot), shown(web, tuple(showing[place] for place in lot)))
            self.assertEqual(bare_web(shown(web, tuple(range(web.size)))), web)

    def test_lists_side_by_side(self):
        for one, other in combinations(TINY, 2):
            lists = [shown(web, tuple(range(web.size))) for web in (one, other)]
            both = side_by_side(*lists)
            self.assertEqual(both, shown(beside(one, other), tuple(range(one.size + other.size))))
            self.assertEqual(bare_web(read_list(list_text(both))), beside(one, other))

    def test_a_lack_is_told_of_what_was_read(self):
        bad = read_list("places 3\n0 1\n0 2\n1 2\n")
        self.assertIs(is_lack(bad, lack(bad)), True)
        self.assertEqual((web_for(bad), healing_web(bad, 1), bare_web(bad)), (None, None, None))
        self.assertEqual(lack(closed_up(bad)), None)


class LogsAndNets(unittest.TestCase):
    def test_logs(self):
        for web in FEW:
            calls = [(5 * k + k * k // 3) % web.size for k in range(9)]
            for stand in stands_of(web):
                log = same_log(web, stand, calls)
                self.assertEqual(read_log(log_text(log)), log)
                self.assertEqual(behind(log), called_all(web, stand, calls))
                self.assertIsNone(wrong_call(web, log))
                self.assertTrue(set(sure_ties(log)) <= set(web.ties) <= set(most_ties(log).ties))
                for other in (web_of(log), most_ties(log), sparse_web(log)):
                    self.assertIs(fits(other, log), True)
                    self.assertEqual(same_log(other, stand, calls), log)
                self.assertEqual(len(sparse_web(log).ties), fewest_ties(log))
                for part in range(web.size):
                    told = "yes" if tells(web, behind(log), part) else "no"
                    self.assertIn(verdict(log, part), (told, "open"))

    def test_nets(self):
        for web in FEW + [row(13), ring(14), beside(full(12), row(3))]:
            net = net_of(web)
            self.assertEqual(net_rests(net), rests(web))
            self.assertEqual((any_round(net) is None, only_rest(net) is None), (not web.ties, bool(web.ties)))
            self.assertIsNone(net_round(net, (0,)))
            for found, judged in ((any_round(net), is_any_round), (odd_round(net), is_odd_round)):
                if found is not None:
                    self.assertIs(judged(net, found), True)
                    self.assertTrue(all(found[at - 1] in tied_to(web, found[at]) for at in range(len(found))))
            found = restless(web)
            if found is not None:
                self.assertTrue(is_restless(web, found) and is_any_round(net, found[1]))


class Apart(unittest.TestCase):
    def test_buildings(self):
        for web in FEW:
            self.assertEqual((rests_by(web), rests_by(web)), (many_rests(web), sum(rest_sizes(web).values())))
            self.assertIs(is_building(web, building(web)), True)
            self.assertEqual(building(web)[0] == "beside", len(pieces(web)) > 1)
            self.assertTrue(set(lot for lot in twins(web) if len(lot) < web.size) <= set(blocks(web)))
            self.assertLessEqual(rests_by(web), most_rests(web.size))
            names = tuple(reversed(range(web.size)))
            self.assertEqual(is_built(renamed(web, names)), is_built(web))
            for lot in blocks(web):
                one, block = taken_out(web, lot)
                self.assertEqual(block, kept(web, lot))
                self.assertTrue(is_built(one) and is_built(block) or not is_built(web))
                self.assertEqual(many_rests(put_in(one, lot[0], block)), many_rests(web))
                self.assertIsNotNone(renaming(put_in(one, lot[0], block), web))

    def test_rests(self):
        for web in FEW:
            found = rests(web)
            for at, rest in enumerate(found):
                self.assertEqual((rest_at(web, at), rest_number(web, rest), held_by(web, rest)), (rest, at, rest))
                self.assertEqual(many_with(web, rest, ()), 1)
            self.assertIn(smallest_rest(web), found)
            self.assertEqual(read_web(web_text(web)), web)


class Objects(unittest.TestCase):
    def test_equality(self):
        same = [Web(2, ((0, 1),)), Net(2, ((0, 1),)), List(2, ((0, 1),)), row(2), full(2), net_of(Web(2, ())), Web(2, ()),
                Net(2, ()), List(2, ((),)), Run(LATCH, ()), Board(LATCH), Desk(), NoPart(), BadCall(()), (2, ((0, 1),)),
                2, None, "parts 2\n", [Web(2, ())], (Web(2, ()),)]
        for at, one in enumerate(same):
            for number, other in enumerate(same):
                like = at == number or {at, number} <= {0, 3, 4} or {at, number} == {5, 7}
                self.assertIs(one == other, like, (at, number))
                self.assertIs(one != other, not like, (at, number))
        for thing in things():
            for one in (Run(LATCH, ()), Board(LATCH), Desk(), WebError(), NoPart()):
                self.assertIs(one == thing, False)
        self.assertTrue(all(one == one for one in same))

    def test_all_webs_are_equal_just_if_both_are(self):
        webs = all_webs(3) + [Web(4, web.ties) for web in all_webs(3)]
        for one in webs:
            self.assertEqual([other for other in webs if other == one], [Web(one.size, one.ties)])

    def test_equal_calls_give_equal_answers(self):
        for web in FEW:
            again = read_web(web_text(web))
            stand, rest = tuple(range(0, web.size, 2)), rests(web)[-1]
            for function, passed in ((rests, ()), (ends, (stand,)), (row_to, (stand, rest)), (two_ends, (stand,)),
                                     (harm, (rest, 1)), (writing, (rest,)), (building, ()), (restless, ()),
                                     (best_letters, (1,)), (longest_row, (stand,)), (puts, (stand, rest))):
                self.assertEqual(function(web, *passed), function(again, *passed))
            self.assertIs(is_rest(again, rest), True)


if __name__ == "__main__":
    unittest.main()
