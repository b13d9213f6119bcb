"""Point 28: boards carried on by a second hand out of their rows, and out of things that are none."""

import copy
import unittest

from tests.samples import ANY_THINGS, NOT_NAMES, put_otherwise
from tests.test_boards_air import chance_board
from whistleboard.boards import Board, carried
from whistleboard.errors import NoBoard

ANN = ("ann", 200, 6)
BOB = ("bob", 180, 6)
IN = ("in", 10, "red", "a", "work", (ANN, BOB))
ROWS = [
    IN,
    ("gauge", 11, "red", "ann", 150),
    ("works", 11, "red", "hard"),
    ("dies", 12, "red", "ann"),
    ("lost", 13, "red", "bob"),
    ("seen", 14, "red", "bob"),
    ("out", 15, "red", "ann"),
]
# A row of each word, which may be told behind the first row alone.
SINGLE = (
    ("gauge", 11, "red", "ann", 150), ("works", 11, "red", "hard"), ("dies", 11, "red", "ann"),
    ("lost", 11, "red", "ann"), ("seen", 11, "red", "ann"), ("out", 11, "red", "ann"),
)
WORKS = ("rest", "work", "hard")


def is_minute(thing):
    return type(thing) is int and 10 <= thing <= 9999


class CarriedCase(unittest.TestCase):

    def check_refused(self, thing, number):
        kept = copy.deepcopy(thing)
        with self.assertRaises(NoBoard) as caught:
            carried(50, thing)
        self.assertEqual(caught.exception.number, number)
        self.assertEqual(thing, kept)

    def check_carried(self, rows):
        board = carried(50, rows)
        self.assertEqual(board.rows(), rows)
        return board


class CarriedTest(CarriedCase):

    def test_out_of_its_rows_it_is_the_same(self):
        for seed in range(60):
            board = chance_board(seed)
            again = carried(board.reserve, board.rows())
            with self.subTest(seed=seed):
                self.assertIs(type(again), Board)
                self.assertTrue(again == board)
                self.assertEqual((again.inside(), len(again)), (board.inside(), len(board)))
                last = board.rows()[-1][1]
                self.assertEqual(again.due(last), board.due(last))
                for team, door, names in board.inside():
                    self.assertEqual(again.whistle(team), board.whistle(team))
                    for name in names:
                        self.assertEqual(again.content(team, name, last + 5), board.content(team, name, last + 5))

    def test_at_any_time(self):
        for many in range(len(ROWS) + 1):
            self.check_carried(ROWS[:many])

    def test_the_reserve(self):
        self.assertTrue(carried(reserve=30, thing=[]) == Board(30))
        self.assertFalse(carried(30, []) == Board(31))
        self.assertEqual(carried(100, [IN]).whistle("red"), 10 + 80 * 6 // 45)

    def test_it_goes_on_alone(self):
        rows = list(ROWS[:2])
        board = self.check_carried(rows)
        rows.append(ROWS[2])
        self.assertEqual(board.rows(), ROWS[:2])
        board.hands_in("red", "ann", 11)
        self.assertEqual(rows, ROWS[:3])
        board.rows().clear()
        self.assertEqual(len(board.rows()), 3)

    def test_each_single_row(self):
        for row in SINGLE:
            self.check_carried([IN, row])


class RefusedTest(CarriedCase):

    def test_a_thing_that_is_no_list(self):
        for thing in ANY_THINGS + (tuple(ROWS), IN):
            if not isinstance(thing, list):
                with self.subTest(thing=str(thing)[:40]):
                    self.check_refused(thing, 0)

    def test_a_list_of_any_things(self):
        for thing in ANY_THINGS + (list(IN), "in", ("in",), [IN]):
            with self.subTest(thing=str(thing)[:40]):
                self.check_refused([thing], 1)
                self.check_refused([IN, thing], 2)
                self.check_refused(ROWS + [thing, None], 8)

    def test_too_few_and_too_many_things(self):
        for row in SINGLE + (("in", 11, "blue", "a", "work", (("cat", 1, 1),)),):
            for many in range(len(row)):
                self.check_refused([IN, row[:many]], 2)
            for more in ANY_THINGS:
                self.check_refused([IN, row + (more,)], 2)

    def test_another_word(self):
        words = ("", "In", "ins", "enter", "hands", "loses", "sees", "dead", ["out"], ("out",))
        for row in SINGLE:
            for word in ANY_THINGS + words:
                self.check_refused([IN, put_otherwise(row, 0, word)], 2)

    def test_minutes(self):
        things = ANY_THINGS + (9, 10, 11, 9999, 10000, "11", [11], (11,), -11)
        for row in SINGLE + (("in", 11, "blue", "a", "work", (("cat", 1, 1),)),):
            for thing in things:
                other = put_otherwise(row, 1, thing)
                with self.subTest(row=str(other)[:60]):
                    if is_minute(thing):
                        self.check_carried([IN, other])
                    else:
                        self.check_refused([IN, other], 2)
        for thing in (0, 9999):
            self.check_carried([put_otherwise(IN, 1, thing)])
        for thing in (-1, 10000, True, False, None):
            self.check_refused([put_otherwise(IN, 1, thing)], 1)

    def test_names(self):
        for row in SINGLE:
            for at in ((2,) if row[0] == "works" else (2, 3)):
                for thing in ANY_THINGS + NOT_NAMES + ("blue", "cat", "red" if at == 3 else "ann"):
                    with self.subTest(row=row, thing=str(thing)[:40]):
                        self.check_refused([IN, put_otherwise(row, at, thing)], 2)
        for at in (2, 3):
            for thing in NOT_NAMES:
                self.check_refused([put_otherwise(IN, at, thing)], 1)
            for thing in ("a", "zzzzzzzz"):
                self.check_carried([put_otherwise(IN, at, thing)])

    def test_works(self):
        for thing in ANY_THINGS + ("Rest", "play", ["rest"], ("rest",)):
            self.check_refused([IN, ("works", 11, "red", thing)], 2)
            self.check_refused([put_otherwise(IN, 4, thing)], 1)
        for work in WORKS:
            self.check_carried([put_otherwise(IN, 4, work), ("works", 11, "red", work)])

    def test_gauges(self):
        for thing in ANY_THINGS + (-1, 0, 1, 300, 301, "5", [5]):
            row = ("gauge", 11, "red", "ann", thing)
            with self.subTest(row=str(row)[:60]):
                if type(thing) is int and 0 <= thing <= 300:
                    self.check_carried([IN, row])
                else:
                    self.check_refused([IN, row], 2)

    def test_wearers(self):
        four = tuple([(name, 1, 1) for name in ("ann", "bob", "cat", "dan")])
        for many in range(1, 5):
            self.check_carried([put_otherwise(IN, 5, four[:many])])
        wrong = [(), four + (("eve", 1, 1),), list(four), [ANN], ANN, (list(ANN),), (ANN, ANN), (ANN, ("ann", 1, 1))]
        wrong += [(ANN[:2],), (ANN + (1,),), (ANN, None)]
        for thing in list(ANY_THINGS) + wrong:
            with self.subTest(thing=str(thing)[:40]):
                self.check_refused([put_otherwise(IN, 5, thing)], 1)

    def test_each_thing_of_a_wearer(self):
        bounds = {1: (1, 300), 2: (1, 12)}
        for at, (least, most) in bounds.items():
            for thing in ANY_THINGS + (least - 1, least, most, most + 1, str(most), [most]):
                wearers = (BOB, put_otherwise(ANN, at, thing))
                with self.subTest(wearers=str(wearers)[:60]):
                    if type(thing) is int and least <= thing <= most:
                        self.check_carried([put_otherwise(IN, 5, wearers)])
                    else:
                        self.check_refused([put_otherwise(IN, 5, wearers)], 1)
        for thing in NOT_NAMES:
            self.check_refused([put_otherwise(IN, 5, (BOB, put_otherwise(ANN, 0, thing)))], 1)

    def test_a_row_left_out(self):
        # Without a gauge, a work, a death or a loss the others can be done as well.
        for at in (1, 2, 3, 4):
            self.check_carried(ROWS[:at] + ROWS[at + 1:])
        self.check_refused(ROWS[1:], 1)
        # Without being seen bob is in: nothing is refused.
        self.check_carried(ROWS[:5] + ROWS[6:])

    def test_a_row_twice(self):
        for at in (0, 3, 5, 6):
            with self.subTest(row=ROWS[at]):
                self.check_refused(ROWS[:at + 1] + ROWS[at:], at + 2)
        for at in (1, 2, 4):
            self.check_carried(ROWS[:at + 1] + ROWS[at:])

    def test_rows_exchanged(self):
        for at in (0, 2, 3, 4, 5):
            with self.subTest(row=ROWS[at]):
                number = at + 1 if at == 0 else at + 2
                self.check_refused(ROWS[:at] + [ROWS[at + 1], ROWS[at]] + ROWS[at + 2:], number)
        # Those of one minute may be exchanged.
        self.check_carried([ROWS[0], ROWS[2], ROWS[1]] + ROWS[3:])

    def test_what_is_refused_or_none_when_done(self):
        refused = (
            ("in", 11, "red", "b", "work", (("cat", 9, 9),)), ("in", 11, "blue", "b", "work", (BOB,)),
            ("gauge", 9, "red", "ann", 1), ("gauge", 11, "blue", "ann", 1), ("gauge", 11, "red", "cat", 1),
            ("out", 11, "red", "cat"), ("out", 11, "blue", "ann"), ("works", 11, "blue", "rest"),
        )
        for row in refused:
            self.check_refused([IN, row], 2)
            self.check_refused([IN, row, None], 2)
        self.check_refused([IN, ("dies", 11, "red", "ann"), ("gauge", 11, "red", "ann", 1)], 3)
        self.check_refused([IN, ("dies", 11, "red", "ann"), ("dies", 11, "red", "ann")], 3)

    def test_double_and_found_are_no_rows(self):
        out, lost = ("out", 11, "red", "ann"), ("lost", 11, "red", "ann")
        self.check_refused([IN, out, out], 3)
        self.check_refused([IN, out, ("out", 12, "red", "ann")], 3)
        self.check_refused([IN, lost, out], 3)
        self.check_refused([IN, ("seen", 11, "red", "ann"), out], 3)
        self.check_carried([IN, lost, lost, ("seen", 11, "red", "ann")])

    def test_the_first_of_several(self):
        self.check_refused([IN, ROWS[1], None, None], 3)
        self.check_refused([None, IN, None], 1)


if __name__ == "__main__":
    unittest.main()
