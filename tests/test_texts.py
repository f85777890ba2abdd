"""1.4: web_text, lot_text, read_web, read_lot, and their half of example e13."""

import unittest

from silencers.errors import BadText, BadWeb
from silencers.reading import read_lot, read_web
from silencers.texts import lot_text, web_text
from silencers.webs import Web, full, ring, row
from things import Raising, all_lots, big_webs, small_webs, things, webs_of_24


class Writing(unittest.TestCase):
    def test_example(self):
        self.assertEqual(web_text(Web(2, ((0, 1),))), "parts 2\n0 1\n")

    def test_webs(self):
        self.assertEqual(web_text(Web(1, ())), "parts 1\n")
        self.assertEqual(web_text(Web(24, ())), "parts 24\n")
        self.assertEqual(web_text(ring(4)), "parts 4\n0 1\n0 3\n1 2\n2 3\n")
        for web in small_webs() + webs_of_24() + big_webs():
            lines = [f"parts {web.size}"] + [f"{a} {b}" for a, b in web.ties]
            self.assertEqual(web_text(web), "\n".join(lines) + "\n")

    def test_lots(self):
        self.assertEqual(lot_text(()), "-")
        self.assertEqual(lot_text((0,)), "0")
        self.assertEqual(lot_text((0, 2, 11)), "0 2 11")
        self.assertEqual(lot_text(tuple(range(30))), " ".join(str(part) for part in range(30)))


class ReadingWebs(Raising, unittest.TestCase):
    def bad(self, line, text):
        error = self.raises(BadText, read_web, text)
        self.assertEqual((type(error.line), error.line), (int, line), repr(text))

    def test_back(self):
        for web in small_webs() + webs_of_24():
            found = read_web(web_text(web))
            self.assertIsInstance(found, Web)
            self.assertEqual(found, web)

    def test_what_is_no_string(self):
        for thing in things() + [0, (), [], b"parts 2\n"]:
            if not isinstance(thing, str):
                self.bad(0, thing)

    def test_wrong_first_lines(self):
        wrong = ["", " ", "parts", "parts ", "part 2", "Parts 2", "parts  2", " parts 2", "parts 2 ", "parts 2 2",
                 "parts\t2", "parts 02", "parts 00", "parts 00002", "parts 10000", "parts -1", "parts +1", "parts 2.",
                 "parts two", "2", "0 1", "-", "parts2", "parts 1_0", "parts 2\t"]
        for line in wrong:
            self.bad(1, line + "\n")
            self.bad(1, line + "\n0 1\n")
            self.bad(1, line + "\nnonsense\n")
            self.bad(1, line + "\n0 1")

    def test_wrong_ties(self):
        wrong = ["", " ", "0", "0 ", " 0 1", "0 1 ", "0  1", "0\t1", "0 1 2", "00 1", "0 01", "0 00001", "0 10000",
                 "12345 1", "-1 0", "0 -1", "+0 1", "a b", "0 b", "0,1", "-", "parts 2", "0 1\t", "0 1_", "\t", "0x0 1"]
        for line in wrong:
            self.bad(2, "parts 3\n" + line + "\n")
            self.bad(3, "parts 3\n0 1\n" + line + "\n")
            self.bad(3, "parts 3\n0 1\n" + line + "\n1 2\n" + line + "\n")
            self.bad(3, "parts 3\n2 1\n" + line + "\nbehind")

    def test_not_closed(self):
        self.bad(1, "")
        self.bad(1, "parts 2")
        self.bad(1, "nonsense")
        self.bad(2, "parts 2\n0 1")
        self.bad(2, "parts 2\n ")
        self.bad(3, "parts 2\n0 1\nbehind")
        self.bad(4, "parts 3\n0 1\n1 2\n0")
        self.bad(1, "\n")
        self.bad(2, "parts 2\n\n")

    def test_lines_elsewhere(self):
        self.bad(1, "0 1\nparts 2\n")
        self.bad(2, "parts 2\nparts 2\n0 1\n")
        self.bad(3, "parts 2\n0 1\nparts 2\n")
        self.bad(1, "\nparts 2\n")

    def test_one_sign_changed(self):
        for web in (Web(2, ((0, 1),)), row(3), full(4)):
            text = web_text(web)
            for at in range(len(text)):
                line = text[:at].count("\n") + 1
                self.bad(line, text[:at] + "x" + text[at:])
                self.bad(line, text[:at] + "x" + text[at + 1:])
            for at, sign in enumerate(text):
                if sign == " ":
                    self.bad(text[:at].count("\n") + 1, text[:at] + " " + text[at:])

    def test_bad_webs_behind_bad_texts(self):
        cases = [
            ("parts 0\n", "size"), ("parts 25\n", "size"), ("parts 9999\n0 1\n", "size"), ("parts 3\n1 0\n", 0),
            ("parts 3\n0 3\n", 0), ("parts 3\n0 1\n0 1\n", 1), ("parts 3\n1 2\n0 1\n", 1), ("parts 3\n0 1\n1 1\n", 1),
            ("parts 1\n9999 9999\n", 0), ("parts 0\n0 0\n", "size"),
        ]
        for text, part in cases:
            error = self.raises(BadWeb, read_web, text)
            self.assertEqual((type(error.part), error.part), (type(part), part))
            self.bad(text.count("\n") + 1, text + "x\n")
            self.bad(text.count("\n") + 1, text + "0 1")

    def test_webs_of_more_parts_are_written_so_but_not_constructed(self):
        for web in big_webs():
            self.assertEqual(self.raises(BadWeb, read_web, web_text(web)).part, "size")


class ReadingLots(Raising, unittest.TestCase):
    def test_back(self):
        for lot in all_lots(6) + [tuple(range(24)), (0, 9999), (10, 144)]:
            self.assertEqual(read_lot(lot_text(lot)), lot)
        self.assertIsInstance(read_lot("0 1"), tuple)

    def test_any_order(self):
        self.assertEqual(read_lot("2 1 1 0"), (2, 1, 1, 0))
        self.assertEqual(read_lot("9999 0"), (9999, 0))
        self.assertEqual(read_lot("0 0"), (0, 0))

    def test_what_is_no_string(self):
        for thing in things() + [0, (), (0, 1), [0], b"0", b"-"]:
            if not isinstance(thing, str):
                self.assertEqual(self.raises(BadText, read_lot, thing).line, 0)

    def test_wrong_strings(self):
        wrong = ["", " ", "- ", " -", "--", "- 0", "0 -", "0 ", " 0", "0  1", "0\t1", "00", "01", "0 01", "10000",
                 "0 10000", "00001", "a", "0,1", "0\n", "-\n", "0\n1", "\n", "-1", "+1", "1.", "0 1\n", "(0, 1)", "_"]
        for text in wrong:
            self.assertEqual(self.raises(BadText, read_lot, text).line, 1, repr(text))


if __name__ == "__main__":
    unittest.main()
