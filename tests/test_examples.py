"""The examples of the document, e01 to e13, as they stand there."""

import unittest

from silencers.apart import building
from silencers.coming import lumps, missed, row_to, sure_end
from silencers.healing import strength
from silencers.lists import List, can_be_shown, lack, within
from silencers.making import bare_web, fewest_hidden
from silencers.nets import Net, net_of, net_rests
from silencers.rests import many_rests, most_rests, rests
from silencers.sparse import sure_ties, verdict
from silencers.strokes import sure_stroke
from silencers.texts import web_text
from silencers.webs import Web, copied, full, row
from silencers.writing import is_writing

latch = Web(2, ((0, 1),))
four = row(4)


class Examples(unittest.TestCase):
    def test_e01(self):
        self.assertEqual((rests(latch), many_rests(four), rests(four)), ([(0,), (1,)], 3, [(0, 2), (0, 3), (1, 3)]))

    def test_e02(self):
        self.assertEqual((lumps(four, (0, 1, 3)), missed(four, (0, 1, 3), (0, 2)), row_to(four, (0, 1, 3), (1, 3))),
                         ([(0, 1), (3,)], (3,), (0,)))

    def test_e03(self):
        self.assertEqual((sure_end(row(3), (0,)), sure_end(four, ())), ((0, 2), None))

    def test_e04(self):
        self.assertEqual(lack(List(3, ((0, 1), (0, 2), (1, 2)))), ('three', 0, 1, 2))

    def test_e05(self):
        self.assertEqual((can_be_shown(List(3, ((0,), (0, 1), (2,)))), within(List(3, ((0,), (0, 1), (2,)))),
                          fewest_hidden(List(3, ((0,), (0, 1), (2,))))), (True, (0, 1), 1))

    def test_e06(self):
        self.assertEqual(bare_web(List(2, ((0,), (1,)))), latch)

    def test_e07(self):
        self.assertEqual((sure_stroke(latch, ((0,), ())), sure_stroke(four, ((1,), ())), sure_stroke(four, ((), (1,)))),
                         ((0,), (1, 3), None))

    def test_e08(self):
        self.assertIs(is_writing(latch, (0,), (((0,), ()),)), True)

    def test_e09(self):
        self.assertEqual((strength(full(3), (0,)), strength(copied(latch, 2), (0, 1))), (0, 1))

    def test_e10(self):
        self.assertEqual((sure_ties((2, (), ((0, True), (1, False)))), verdict((2, (), ((0, True),)), 1)),
                         ([(0, 1)], 'open'))

    def test_e11(self):
        self.assertEqual((net_rests(Net(3, ((0, 1), (1, 2), (2, 0)))), net_rests(net_of(latch))), ([], [(0,), (1,)]))

    def test_e12(self):
        self.assertEqual(building(row(3)), ('joined', (('beside', (('part', 0), ('part', 2))), ('part', 1))))

    def test_e13(self):
        self.assertEqual((most_rests(7), web_text(latch)), (12, 'parts 2\n0 1\n'))


if __name__ == "__main__":
    unittest.main()
