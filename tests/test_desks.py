"""13.1, 13.2: the desk and its lines."""

import unittest
from random import Random

from silencers.calls import called, is_rest
from silencers.coming import can_come, lumps, sure_end
from silencers.desks import Desk
from silencers.errors import (
    BadText, BadWeb, NoLine, NoName, NoPart, NoRest, NoStand, NoStroke, NothingDone, WebError,
)
from silencers.healing import heals
from silencers.rests import many_rests
from silencers.strokes import sure_stroke
from silencers.texts import web_text
from silencers.webs import Web, full, ring, row
from things import Raising, all_lots, all_strokes, all_webs, plain_rests, random_web, small_webs, things, webs_of_24

FOUR = "parts 4|0 1|1 2|2 3|"
RIGHT = ["web a parts 1|", "drop a", "names", "undo", "show a", "many a", "rest a -", "call a - 0", "lumps a -",
         "come a - 0,2", "sure a -", "stroke a 0 -", "heals a 0,2 0"]


def text_of(web):
    return web_text(web).replace("\n", "|")


def word_of(lot):
    return ",".join(str(part) for part in lot) or "-"


def desk_with(**webs):
    desk = Desk()
    for name, web in webs.items():
        desk.tell(f"web {name} {text_of(web)}")
    return desk


def seen(desk):
    """All that stands on the desk."""
    names = [] if desk.tell("names") == "none" else desk.tell("names").split(" ")
    return {name: desk.tell(f"show {name}") for name in names}, desk.undoable()


class Asking(Raising, unittest.TestCase):
    def ask(self, desk, line):
        before = seen(desk)
        told = desk.tell(line)
        self.assertIsInstance(told, str)
        self.assertEqual(seen(desk), before)
        return told

    def test_what_functions_tell(self):
        for web in all_webs(1) + all_webs(2) + all_webs(3)[::2] + [row(4), ring(5), random_web(5, 4, 3)]:
            desk = desk_with(net=web)
            lots = all_lots(web.size)
            self.assertEqual(self.ask(desk, "show net"), text_of(web))
            self.assertEqual(self.ask(desk, "many net"), str(many_rests(web)))
            for lot in lots:
                word = word_of(lot)
                self.assertEqual(self.ask(desk, f"rest net {word}"), "yes" if is_rest(web, lot) else "no")
                wanted = " ".join(word_of(lump) for lump in lumps(web, lot)) or "none"
                self.assertEqual(desk.tell(f"lumps net {word}"), wanted)
                end = sure_end(web, lot)
                self.assertEqual(desk.tell(f"sure net {word}"), "open" if end is None else word_of(end))
                for part in range(web.size):
                    self.assertEqual(desk.tell(f"call net {word} {part}"), word_of(called(web, lot, part)))
                for rest in plain_rests(web):
                    wanted = "yes" if can_come(web, lot, rest) else "no"
                    self.assertEqual(desk.tell(f"come net {word} {word_of(rest)}"), wanted)
            for rest in plain_rests(web):
                for many in (0, 1, 2, 9999):
                    wanted = "yes" if heals(web, rest, many) else "no"
                    self.assertEqual(desk.tell(f"heals net {word_of(rest)} {many}"), wanted)
            self.assertEqual(desk.undoable(), 1)

    def test_strokes(self):
        for web in all_webs(2) + all_webs(3)[::2] + [row(4), random_web(4, 5, 1)]:
            desk = desk_with(net=web)
            for up, down in all_strokes(web.size):
                end = sure_stroke(web, (up, down))
                wanted = "open" if end is None else word_of(end)
                self.assertEqual(desk.tell(f"stroke net {word_of(up)} {word_of(down)}"), wanted)
            self.raises(NoStroke, desk.tell, "stroke net - -")
            self.raises(NoStroke, desk.tell, "stroke net 0 0")
            self.raises(NoStroke, desk.tell, "stroke net 0,1 1")

    def test_known(self):
        desk = Desk()
        lines = [
            ("names", "none"), ("web four " + FOUR, "ok"), ("web b parts 2|0 1|", "ok"), ("names", "b four"),
            ("show four", FOUR), ("many four", "3"), ("rest four 0,2", "yes"), ("rest four 0,1", "no"),
            ("rest four 2,0", "no"), ("rest four -", "no"), ("rest four 9999", "no"), ("call four 0,1,3 1", "0,3"),
            ("call b 0 0", "0"), ("call b 0,1 0", "1"), ("call b 1 0", "1"), ("call four - 3", "3"),
            ("call four 1 0", "1"), ("call four 0,1 2", "0,1"), ("lumps four 0,1,3", "0,1 3"), ("lumps four -", "none"),
            ("come four 0,1,3 0,2", "no"), ("come four 0,1,3 1,3", "yes"), ("sure four -", "open"), ("sure b 1", "1"),
            ("stroke four 1 -", "1,3"), ("stroke four - 1", "open"), ("stroke b - 1", "0"), ("heals b 0 0", "yes"),
            ("heals b 0 1", "no"), ("undo", "ok"), ("names", "four"), ("drop four", "ok"), ("names", "none"),
            ("undo", "ok"), ("names", "four"), ("undo", "ok"), ("names", "none"),
        ]
        for line, told in lines:
            self.assertEqual(desk.tell(line), told, line)

    def test_empty_stands_are_told_as_lots(self):
        desk = desk_with(two=full(2), one=Web(1, ()))
        self.assertEqual(desk.tell("call two 0 0"), "0")
        self.assertEqual(desk.tell("sure one -"), "0")
        self.assertEqual(desk.tell("call two 0,1 1"), "0")
        desk = desk_with(three=full(3))
        self.assertEqual(desk.tell("call three 0,1 0"), "1")

    def test_webs_of_24(self):
        for web in webs_of_24() + small_webs()[-9:]:
            desk = desk_with(abcdefgh=web)
            self.assertEqual(desk.tell("show abcdefgh"), text_of(web))
            self.assertEqual(desk.tell("many abcdefgh"), str(many_rests(web)))


class Keeping(Raising, unittest.TestCase):
    def test_names(self):
        desk = desk_with(b=row(2), abcdefgh=row(3), a=row(4), z=row(5), aa=row(6))
        self.assertEqual(desk.tell("names"), "a aa abcdefgh b z")
        self.assertEqual(desk.undoable(), 5)
        desk.tell("drop b")
        self.assertEqual((desk.tell("names"), desk.undoable()), ("a aa abcdefgh z", 6))

    def test_in_the_place_of_an_elder_one(self):
        desk = desk_with(a=row(2))
        self.assertEqual(desk.tell("web a " + text_of(row(3))), "ok")
        self.assertEqual((desk.tell("show a"), desk.undoable()), (text_of(row(3)), 2))
        self.assertEqual(desk.tell("undo"), "ok")
        self.assertEqual((desk.tell("show a"), desk.undoable()), (text_of(row(2)), 1))
        self.assertEqual(desk.tell("undo"), "ok")
        self.assertEqual(seen(desk), ({}, 0))
        self.raises(NothingDone, desk.tell, "undo")
        self.raises(NoName, desk.tell, "show a")

    def test_dropped_and_undone(self):
        desk = desk_with(a=row(2), b=row(3))
        desk.tell("drop a")
        desk.tell("web a " + FOUR)
        desk.tell("drop b")
        self.assertEqual(seen(desk), ({"a": FOUR}, 5))
        wanted = [{"a": FOUR, "b": text_of(row(3))}, {"b": text_of(row(3))}, {"a": text_of(row(2)), "b": text_of(row(3))},
                  {"a": text_of(row(2))}, {}]
        for many, webs in zip((4, 3, 2, 1, 0), wanted):
            self.assertEqual(desk.tell("undo"), "ok")
            self.assertEqual(seen(desk), (webs, many))

    def test_an_equal_web_is_a_line_that_is_done(self):
        desk = desk_with(a=row(2))
        desk.tell("web a " + text_of(row(2)))
        self.assertEqual(seen(desk), ({"a": text_of(row(2))}, 2))
        desk.tell("undo")
        self.assertEqual(seen(desk), ({"a": text_of(row(2))}, 1))

    def test_rows_of_lines_there_and_back(self):
        for seed in range(5):
            luck = Random(seed)
            desk, past = Desk(), []
            for _ in range(80):
                name = luck.choice(["a", "b", "c", "longname"])
                before = seen(desk)
                self.assertEqual(before[1], len(past))
                deed = luck.randrange(8)
                if deed < 4:
                    web = random_web(luck.randrange(1, 8), 4, luck.randrange(99))
                    self.assertEqual(desk.tell(f"web {name} {text_of(web)}"), "ok")
                    self.assertEqual(seen(desk), ({**before[0], name: text_of(web)}, len(past) + 1))
                    past.append(before[0])
                elif deed < 6 and name in before[0]:
                    self.assertEqual(desk.tell(f"drop {name}"), "ok")
                    self.assertEqual(seen(desk)[0], {key: text for key, text in before[0].items() if key != name})
                    past.append(before[0])
                elif deed == 6 and past:
                    self.assertEqual(desk.tell("undo"), "ok")
                    self.assertEqual(seen(desk), (past.pop(), len(past)))
            while past:
                desk.tell("undo")
                self.assertEqual(seen(desk), (past.pop(), len(past)))
            self.raises(NothingDone, desk.tell, "undo")

    def test_desks_stand_apart(self):
        one, other = desk_with(a=row(2)), Desk()
        self.assertEqual((one.tell("names"), other.tell("names")), ("a", "none"))
        self.raises(NothingDone, other.tell, "undo")
        for thing in things():
            if not isinstance(thing, Desk):
                self.assertIs(one == thing, False)


class Errors(Raising, unittest.TestCase):
    def setUp(self):
        self.desk = desk_with(a=row(4), b=full(2))
        self.before = seen(self.desk)

    def refuse(self, kind, line):
        error = self.raises(kind, self.desk.tell, line)
        self.assertEqual(seen(self.desk), self.before, line)
        return error

    def test_the_right_lines_are_right(self):
        for line in RIGHT:
            self.assertIsInstance(desk_with(a=row(4)).tell(line), str)

    def test_no_strings(self):
        for thing in things() + [0, (), ["names"], b"names", ("web", "a")]:
            if not isinstance(thing, str):
                self.refuse(NoLine, thing)

    def test_no_lines(self):
        wrong = ["", " ", "-", "nonsense", "Names", "names ", " names", "names a", "undo 1", "undo ", "web", "web ", "web a",
                 "web a ", "web  a parts 2|", "drop", "drop ", "drop a b", "show", "show a a", "many a 1", "rest a",
                 "rest a ", "rest a - -", "rest  a -", "rest a  -", "call a - ", "call a 0", "call a - -", "call a 0 1 2",
                 "call a 1 0,1", "lumps a", "lumps a 0 1", "come a 0", "come a 0 0 0", "sure a", "stroke a 0",
                 "stroke a 0 1 2", "heals a 0", "heals a 0 -", "heals a 0 0,1", "tie a 0 1", "names\t", "show\ta", "quit"]
        for line in wrong:
            self.refuse(NoLine, line)
        for line in RIGHT:
            for other in (line + "\n", "\n" + line, line.replace(" ", "\n", 1), line + "\nnames"):
                if other != line:
                    self.refuse(NoLine, other)
            if not line.startswith("web"):
                for other in (line + " ", line + " 0", " " + line, line.replace(" ", "  ", 1), line.replace(" ", "\t", 1)):
                    if other != line:
                        self.refuse(NoLine, other)

    def test_names(self):
        wrong = ["", "A", "abcdefghi", "a1", "a-", "a_b", "a.", "aB", "0", "-", "a,b", "a|", "\t", "a\tb"]
        for name in wrong:
            for line in RIGHT:
                if " a" in line:
                    self.refuse(NoLine, line.replace(" a", " " + name, 1))
        for name in ("a", "z", "abcdefgh", "web", "names", "none", "zzzzzzzz"):
            desk = Desk()
            self.assertEqual(desk.tell(f"web {name} parts 1|"), "ok")
            self.assertEqual(desk.tell("names"), name)

    def test_lots_and_numbers(self):
        no_lots = ["", "--", "-,0", "0,", ",0", "0,,1", "00", "01", "0,01", "10000", "0,10000", "x", "0;1", "0.", "+1", "-1",
                   "0|1", "(0)", "0,-", ",", "-,-", "0,1\t", "1_0"]
        for lot in no_lots:
            for line in ("rest a {}", "call a {} 0", "lumps a {}", "come a {} 0,2", "come a - {}", "sure a {}",
                         "stroke a {} -", "stroke a 0 {}", "heals a {} 0"):
                self.refuse(NoLine, line.format(lot))
        for number in ("", "-", "00", "01", "10000", "-1", "+1", "x", "0,1", "1.", "1_0"):
            self.refuse(NoLine, f"call a - {number}")
            self.refuse(NoLine, f"heals a 0,2 {number}")

    def test_lots_that_are_none_are_for_the_functions(self):
        for lot in ("1,0", "0,0", "4", "0,9999", "3,2,1"):
            self.assertEqual(self.desk.tell(f"rest a {lot}"), "no")
            for line in ("call a {} 0", "call a {} 9999", "lumps a {}", "come a {} 0,2", "come a {} 0,1", "sure a {}"):
                self.refuse(NoStand, line.format(lot))
            self.refuse(NoRest, f"come a - {lot}")
            self.refuse(NoRest, f"heals a {lot} 0")
            self.refuse(NoStroke, f"stroke a {lot} -")
            self.refuse(NoStroke, f"stroke a - {lot}")
        self.refuse(NoPart, "call a - 4")
        self.refuse(NoPart, "call a 0 9999")
        self.refuse(NoRest, "come a - 0,1")
        self.refuse(NoRest, "come a - -")
        self.refuse(NoRest, "heals a 0 0")
        self.refuse(NoRest, "heals a - 9999")
        self.refuse(NoStroke, "stroke a - -")

    def test_bad_texts_and_webs(self):
        for text, line in (("x", 1), (" ", 1), (" parts 2|", 1), ("parts 2", 1), ("|", 1), ("parts 2||", 2), ("parts 2|0 1", 2),
                           ("parts 02|", 1), ("parts 3|0 1|x|", 3), ("parts 3|0  1|", 2), ("parts 0|1", 2), ("\t", 1),
                           ("parts 2|0 1| ", 3), ("parts 2|0 1|0 1 2|", 3)):
            for name in ("a", "new"):
                self.assertEqual(self.refuse(BadText, f"web {name} {text}").line, line)
        for text, part in (("parts 0|", "size"), ("parts 25|", "size"), ("parts 2|1 0|", 0), ("parts 3|0 1|0 1|", 1)):
            for name in ("a", "new"):
                self.assertEqual(self.refuse(BadWeb, f"web {name} {text}").part, part)

    def test_no_name(self):
        for line in RIGHT[4:] + ["drop a"]:
            error = self.refuse(NoName, line.replace(" a", " other", 1))
            self.assertEqual(error.name, "other")
            self.assertIsInstance(error.name, str)
        # No web under the name goes ahead of what the functions would raise.
        for line in ("call c 9999 9999", "come c 1,0 -", "stroke c - -", "heals c 0,0 0", "lumps c 1,0"):
            self.assertEqual(self.refuse(NoName, line).name, "c")
        # What has no form goes ahead of the name.
        for line in ("call c - x", "show c d", "heals c 0"):
            self.refuse(NoLine, line)

    def test_nothing_done(self):
        desk = Desk()
        self.raises(NothingDone, desk.tell, "undo")
        self.raises(NoName, desk.tell, "drop a")
        self.raises(BadText, desk.tell, "web a x")
        self.raises(NothingDone, desk.tell, "undo")
        self.assertEqual(desk.undoable(), 0)

    def test_no_error_is_undone(self):
        for line in ("web a x", "drop c", "nonsense", "call a - 4", "heals a 0 0"):
            with self.assertRaises(WebError):
                self.desk.tell(line)
        self.assertEqual(self.desk.tell("undo"), "ok")
        self.assertEqual(seen(self.desk), ({"a": FOUR}, 1))


if __name__ == "__main__":
    unittest.main()
