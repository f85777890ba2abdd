"""5.6 and 9.5: lists and logs as texts, there and back."""

import unittest

from silencers.errors import BadList, BadText, NoLog
from silencers.lists import List
from silencers.listtexts import list_text, log_text, read_list, read_log
from silencers.logs import behind, same_log
from silencers.making import bare_web, closed_up, side_by_side
from silencers.webs import Web, ring, row
from things import Raising, all_lists, all_logs, all_lots, no_logs, random_lists, random_logs, things

LISTS = all_lists(2) + all_lists(3)[::5] + random_lists(5, 10) + random_lists(12, 10) + [List(6, tuple(all_lots(6)))]
LOGS = all_logs(1, 3) + all_logs(2, 2) + random_logs(3, 6, 20) + random_logs(12, 200, 4) + random_logs(12, 0, 4)
NO_LOTS = ["", " ", "- ", " -", "--", "- 0", "0 -", "0 ", " 0", "0  1", "0\t1", "00", "01", "0 01", "10000", "0 10000",
           "00001", "a", "0,1", "-1", "+1", "1.", "(0, 1)", "_", "0 1 ", "\t", "0 1\t", "None"]
NO_NUMBERS = ["", " ", "  2", "2 ", " 2", "2 2", "02", "00", "00002", "10000", "-1", "+1", "2.", "two", "1_0", "2\t", "-"]


class Changing(Raising):
    """Texts with a sign or a line changed."""

    def bad(self, function, line, text):
        error = self.raises(BadText, function, text)
        self.assertEqual((type(error.line), error.line), (int, line), repr(text))

    def check_signs(self, function, text):
        """No sign can be x, no blank twice or a tab, and no line ends in a blank or is empty."""
        for at, sign in enumerate(text):
            line = text[:at].count("\n") + 1
            self.bad(function, line, text[:at] + "x" + text[at:])
            self.bad(function, line, text[:at] + "x" + text[at + 1:])
            if sign == " ":
                self.bad(function, line, text[:at] + " " + text[at:])
                self.bad(function, line, text[:at] + "\t" + text[at + 1:])
            if sign == "\n":
                self.bad(function, line, text[:at] + " " + text[at:])
                self.bad(function, line + 1, text[:at + 1] + "\n" + text[at + 1:])
                self.bad(function, line + 1, text[:at + 1] + " \n" + text[at + 1:])

    def check_ends(self, function, text):
        """What is not closed is wrong in the line behind the last line feed."""
        lines = text.count("\n")
        self.bad(function, lines, text[:-1])
        for behind in ("x", " ", "0", "-", "call 0 yes", "\t"):
            self.bad(function, lines + 1, text + behind)
        self.bad(function, lines + 1, text + "\n")

    def check_no_strings(self, function):
        for thing in things() + [0, (), [], b"places 2\n", b"parts 2\nstand -\n", (2, (), ()), ["parts 2"]]:
            if not isinstance(thing, str):
                self.bad(function, 0, thing)
        self.bad(function, 1, "")
        self.bad(function, 1, "\n")
        self.bad(function, 1, "nonsense")
        self.bad(function, 1, "nonsense\n")


class Lists(Changing, unittest.TestCase):
    def test_texts(self):
        self.assertEqual(list_text(List(1, ((),))), "places 1\n-\n")
        self.assertEqual(list_text(List(3, ((), (0,), (0, 1, 2), (1,)))), "places 3\n-\n0\n0 1 2\n1\n")
        self.assertEqual(list_text(List(12, ((10, 11), (11,)))), "places 12\n10 11\n11\n")

    def test_there_and_back(self):
        for one in LISTS:
            found = read_list(list_text(one))
            self.assertIsInstance(found, List)
            self.assertEqual(found, one)
            self.assertEqual(list_text(found), list_text(one))

    def test_what_was_returned(self):
        one = side_by_side(List(2, ((0,), (1,))), List(3, ((0, 1), (2,))))
        self.assertEqual(read_list(list_text(one)), one)
        self.assertEqual(read_list(list_text(closed_up(one))), closed_up(one))
        self.assertEqual(bare_web(read_list("places 2\n0\n1\n")), Web(2, ((0, 1),)))

    def test_what_is_no_string(self):
        self.check_no_strings(read_list)

    def test_signs_changed(self):
        for one in LISTS[::9]:
            self.check_signs(read_list, list_text(one))
            self.check_ends(read_list, list_text(one))

    def test_wrong_first_lines(self):
        wrong = ["places " + word for word in NO_NUMBERS] + ["places", "parts 2", "Places 2", "place 2", " places 2", "2",
                                                            "places2", "places\t2", "-", "0", "stand -", ""]
        for line in wrong:
            self.bad(read_list, 1, line + "\n")
            self.bad(read_list, 1, line + "\n0\nnonsense\n")
            self.bad(read_list, 1, line + "\n0")

    def test_wrong_stands(self):
        for line in NO_LOTS + ["places 2", "stand -", "call 0 yes"]:
            self.bad(read_list, 2, "places 3\n" + line + "\n")
            self.bad(read_list, 3, "places 3\n0\n" + line + "\n1\nnonsense\n")
            self.bad(read_list, 4, "places 3\n2 1\n0 0\n" + line + "\nbehind")

    def bad_list(self, part, text):
        error = self.raises(BadList, read_list, text)
        self.assertEqual((type(error.part), error.part), (type(part), part), text)

    def test_bad_lists(self):
        for number in ("0", "13", "9999"):
            self.bad_list("places", f"places {number}\n")
            self.bad_list("places", f"places {number}\n1 0\n")
        self.bad_list("stands", "places 3\n")
        self.bad_list(0, "places 3\n1 0\n")
        self.bad_list(0, "places 3\n0 0\n0 0\n")
        self.bad_list(1, "places 3\n0\n3\n")
        self.bad_list(1, "places 3\n1\n0\n")
        self.bad_list(1, "places 3\n0\n-\n")
        self.bad_list(2, "places 3\n-\n0 1\n0 1\n")
        self.bad_list(1, "places 12\n-\n0 9999\n")
        lots = "".join([" ".join(str(place) for place in lot) + "\n" for lot in all_lots(7)[1:]])
        self.bad_list("stands", "places 7\n-\n" + "\n".join(lots.split("\n")[:64]) + "\n")
        self.assertEqual(len(read_list("places 7\n-\n" + "\n".join(lots.split("\n")[:63]) + "\n").stands), 64)

    def test_bad_texts_ahead_of_bad_lists(self):
        self.bad(read_list, 3, "places 0\n1 0\nx\n")
        self.bad(read_list, 2, "places 13\n0")
        self.bad(read_list, 4, "places 3\n1\n0\n\n")


class Logs(Changing, unittest.TestCase):
    def test_texts(self):
        self.assertEqual(log_text((1, (), ())), "parts 1\nstand -\n")
        self.assertEqual(log_text((3, (0, 2), ((1, False), (0, True)))), "parts 3\nstand 0 2\ncall 1 no\ncall 0 yes\n")
        self.assertEqual(log_text((12, (11,), ((10, True),))), "parts 12\nstand 11\ncall 10 yes\n")

    def test_there_and_back(self):
        for log in LOGS:
            found = read_log(log_text(log))
            self.assertEqual(found, log)
            self.assertTrue(isinstance(found, tuple) and isinstance(found[1], tuple) and isinstance(found[2], tuple))
            self.assertTrue(all(type(call) is tuple and type(call[1]) is bool for call in found[2]))
            self.assertEqual(behind(found), behind(log))

    def test_what_was_told(self):
        log = same_log(ring(5), (0, 1), [0, 2, 4, 1, 3])
        self.assertEqual(read_log(log_text(log)), log)
        self.assertEqual(log_text(same_log(row(2), (), [0, 1])), "parts 2\nstand -\ncall 0 yes\ncall 1 no\n")

    def test_no_log(self):
        self.raises_for_all(NoLog, log_text, (), no_logs())

    def test_what_is_no_string(self):
        self.check_no_strings(read_log)

    def test_signs_changed(self):
        for log in LOGS[::40] + [(3, (0, 2), ((1, False), (0, True)))]:
            if len(log[2]) < 20:
                self.check_signs(read_log, log_text(log))
                self.check_ends(read_log, log_text(log))

    def test_wrong_first_lines(self):
        wrong = ["parts " + word for word in NO_NUMBERS] + ["parts", "places 2", "Parts 2", " parts 2", "2", "parts2", "",
                                                           "parts\t2", "-", "0", "stand -", "stand 0", "call 0 yes"]
        for line in wrong:
            self.bad(read_log, 1, line + "\n")
            self.bad(read_log, 1, line + "\nstand -\n")
            self.bad(read_log, 1, line + "\nnonsense\ncall 0 yes\n")
            self.bad(read_log, 1, line + "\nstand -")

    def test_wrong_second_lines(self):
        wrong = ["stand " + lot for lot in NO_LOTS] + ["stand", "Stand -", " stand -", "stands -", "stand-", "-", "0", "",
                                                      "stand\t-", "parts 3", "call 0 yes", "stand - -"]
        for line in wrong:
            self.bad(read_log, 2, "parts 3\n" + line + "\n")
            self.bad(read_log, 2, "parts 3\n" + line + "\ncall 0 yes\nnonsense\n")
            self.bad(read_log, 2, "parts 3\n" + line)

    def test_wrong_calls(self):
        wrong = ["call " + number + " yes" for number in NO_NUMBERS] + [
            "", "call", "call 0", "call yes", "call 0 Yes", "call 0 maybe", "call 0 True", "call 0 1", "call 0 yes ",
            " call 0 yes", "call  0 yes", "call 0  yes", "call 0 yes no", "calls 0 yes", "Call 0 no", "call\t0 yes", "0 yes",
            "call 0 ye", "call 0 noo", "parts 3", "stand -", "stand 0", "0", "-", "call 0\tno", "call 0 yesno",
        ]
        for line in wrong:
            self.bad(read_log, 3, "parts 3\nstand -\n" + line + "\n")
            self.bad(read_log, 4, "parts 3\nstand 2 1\ncall 9 no\n" + line + "\ncall 0 yes\n" + line + "\n")
            self.bad(read_log, 4, "parts 3\nstand -\ncall 0 no\n" + line + "\nbehind")

    def test_lines_that_lack(self):
        self.bad(read_log, 1, "")
        self.bad(read_log, 2, "parts 3\n")
        self.bad(read_log, 2, "parts 9999\n")
        self.bad(read_log, 1, "parts 3")
        self.bad(read_log, 2, "parts 3\nstand -")
        self.bad(read_log, 3, "parts 3\nstand -\ncall 0 yes")
        self.bad(read_log, 1, "stand -\n")
        self.bad(read_log, 1, "stand -\nparts 3\n")

    def test_no_log_behind_bad_text(self):
        texts = ["parts 0\nstand -\n", "parts 13\nstand -\n", "parts 3\nstand 3\n", "parts 3\nstand 1 0\n",
                 "parts 3\nstand 0 0\n", "parts 3\nstand -\ncall 3 yes\n", "parts 3\nstand 0\ncall 0 no\ncall 9999 no\n",
                 "parts 2\nstand -\n" + "call 0 yes\n" * 201]
        for text in texts:
            self.raises(NoLog, read_log, text)
            self.bad(read_log, text.count("\n") + 1, text + "call 0 yes")
            self.bad(read_log, text.count("\n") + 1, text + "call x yes\n")
        self.assertEqual(len(read_log("parts 2\nstand -\n" + "call 0 yes\n" * 200)[2]), 200)


if __name__ == "__main__":
    unittest.main()
