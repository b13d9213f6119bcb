"""Points 26 and 28: who goes in and out, each refusal in its order, and who is told as inside."""

import copy
import unittest

from tests.samples import ANY_THINGS
from whistleboard.boards import Board
from whistleboard.errors import Dead, Inside, Late, NoTeam, NoWearer

ANN = ("ann", 200, 6)
BOB = ("bob", 180, 6)
CAT = ("cat", 300, 12)
DAN = ("dan", 1, 1)


def board_with(*rows):
    """A board on which the red team, ann and bob, went in at minute 10, and these were told behind it."""
    board = Board()
    board.enter("red", 10, (ANN, BOB))
    for word, *things in rows:
        getattr(board, word)(*things)
    return board


class BoardCase(unittest.TestCase):

    def check_refused(self, refusal, board, word, *things):
        """The refusal is made, and nothing is changed."""
        before = (board.rows(), board.inside(), len(board))
        with self.assertRaises(refusal) as caught:
            getattr(board, word)(*things)
        self.assertIs(type(caught.exception), refusal)
        self.assertEqual((board.rows(), board.inside(), len(board)), before)
        return caught.exception


class EnterTest(BoardCase):

    def test_an_empty_board(self):
        board = Board()
        self.assertEqual((board.rows(), board.inside(), len(board), bool(board)), ([], [], 0, False))

    def test_a_team_goes_in(self):
        board = Board()
        self.assertIs(board.enter("red", 10, (ANN, BOB), "b", "hard"), None)
        self.assertEqual(board.rows(), [("in", 10, "red", "b", "hard", (ANN, BOB))])
        self.assertEqual(board.inside(), [("red", "b", ["ann", "bob"])])
        self.assertEqual((len(board), bool(board)), (2, True))

    def test_door_and_work_may_be_left_out(self):
        board = Board()
        board.enter("red", 10, (ANN,))
        self.assertEqual(board.rows(), [("in", 10, "red", "a", "work", (ANN,))])

    def test_by_names(self):
        board = Board(reserve=60)
        board.enter(work="rest", door="c", wearers=(ANN, BOB), minute=3, team="red")
        board.gauge(bar=150, minute=4, wearer="ann", team="red")
        board.dies(minute=5, wearer="ann", team="red")
        board.works(work="hard", minute=6, team="red")
        board.loses(minute=7, wearer="ann", team="red")
        self.assertEqual(board.hands_in(minute=8, wearer="bob", team="red"), "out")
        board.sees(minute=9, wearer="ann", team="red")
        self.assertEqual(board.rows(), [
            ("in", 3, "red", "c", "rest", (ANN, BOB)), ("gauge", 4, "red", "ann", 150), ("dies", 5, "red", "ann"),
            ("works", 6, "red", "hard"), ("lost", 7, "red", "ann"), ("out", 8, "red", "bob"), ("seen", 9, "red", "ann"),
        ])
        self.assertEqual(board.whistle(team="red"), None)
        self.assertEqual(board.due(ahead=3, minute=9), [])

    def test_several_teams_by_name(self):
        board = Board()
        board.enter("red", 1, (ANN,), "b")
        board.enter("blue", 1, (CAT, BOB), "a")
        board.enter("green", 2, (DAN,), "b")
        self.assertEqual(board.inside(), [("blue", "a", ["cat", "bob"]), ("green", "b", ["dan"]), ("red", "b", ["ann"])])
        self.assertEqual(len(board), 4)

    def test_one_to_four_wearers(self):
        for many in range(1, 5):
            board = Board()
            board.enter("red", 0, (ANN, BOB, CAT, DAN)[:many])
            self.assertEqual((len(board), len(board.inside()[0][2])), (many, many))

    def test_a_team_that_has_somebody_in(self):
        board = board_with()
        self.check_refused(Inside, board, "enter", "red", 11, (CAT,))
        board.hands_in("red", "ann", 12)
        self.check_refused(Inside, board, "enter", "red", 12, (CAT,))
        board.hands_in("red", "bob", 12)
        board.enter("red", 12, (CAT,))
        self.assertEqual(board.inside(), [("red", "a", ["cat"])])

    def test_a_wearer_who_is_in_at_another_door(self):
        board = board_with()
        for wearers in ((("bob", 100, 6),), (CAT, ANN), (BOB, ANN)):
            for door in ("a", "b"):
                self.check_refused(Inside, board, "enter", "blue", 11, wearers, door)
        board.hands_in("red", "bob", 12)
        self.check_refused(Inside, board, "enter", "blue", 12, (CAT, ANN), "b")
        board.enter("blue", 12, (CAT, BOB), "b")
        self.assertEqual(board.inside(), [("blue", "b", ["cat", "bob"]), ("red", "a", ["ann"])])

    def test_a_wearer_whose_tally_is_lost_is_in(self):
        board = board_with(("hands_in", "red", "bob", 11), ("loses", "red", "ann", 12))
        self.check_refused(Inside, board, "enter", "blue", 13, (ANN,))
        self.check_refused(Inside, board, "enter", "red", 13, (CAT,))
        board.sees("red", "ann", 13)
        board.enter("blue", 13, (ANN,))
        board.enter("red", 13, (BOB,))
        self.assertEqual(len(board), 2)

    def test_late_goes_ahead_of_inside(self):
        board = board_with()
        self.check_refused(Late, board, "enter", "red", 9, (ANN,))
        self.check_refused(Late, board, "enter", "blue", 0, (CAT,))
        board.enter("blue", 10, (CAT,))

    def test_a_team_that_goes_in_again_has_its_new_wearers(self):
        board = board_with(
            ("gauge", "red", "ann", 11, 150), ("dies", "red", "ann", 12), ("works", "red", 12, "hard"),
            ("hands_in", "red", "ann", 13), ("loses", "red", "bob", 13), ("sees", "red", "bob", 14),
        )
        board.enter("red", 20, (("ann", 100, 6), CAT), "b", "rest")
        self.check_refused(NoWearer, board, "hands_in", "red", "bob", 20)
        self.check_refused(NoWearer, board, "gauge", "red", "bob", 20, 5)
        # What was told of ann earlier is gone: her gauge lives, her work is rest.
        self.assertEqual(board.content("red", "ann", 22), 600 - 2 * 30)
        board.gauge("red", "ann", 22, 90)
        self.assertEqual(board.hands_in("red", "ann", 22), "out")

    def test_a_lost_tally_of_an_earlier_going_in_is_gone(self):
        board = board_with(("loses", "red", "ann", 11), ("sees", "red", "ann", 12), ("hands_in", "red", "bob", 12))
        board.enter("red", 13, (ANN,))
        self.assertEqual(board.hands_in("red", "ann", 14), "out")


class ToldTest(BoardCase):

    def test_each_row(self):
        board = board_with()
        self.assertIs(board.gauge("red", "ann", 11, 150), None)
        self.assertIs(board.works("red", 11, "rest"), None)
        self.assertIs(board.dies("red", "ann", 12), None)
        self.assertIs(board.loses("red", "bob", 13), None)
        self.assertIs(board.sees("red", "bob", 14), None)
        self.assertEqual(board.hands_in("red", "ann", 15), "out")
        self.assertEqual(board.rows()[1:], [
            ("gauge", 11, "red", "ann", 150), ("works", 11, "red", "rest"), ("dies", 12, "red", "ann"),
            ("lost", 13, "red", "bob"), ("seen", 14, "red", "bob"), ("out", 15, "red", "ann"),
        ])

    def test_the_bounds_of_a_gauge(self):
        board = board_with(("gauge", "red", "ann", 11, 0), ("gauge", "red", "bob", 11, 300))
        self.assertEqual((board.content("red", "ann", 11), board.content("red", "bob", 11)), (0, 1800))

    def test_a_tally_handed_in(self):
        board = board_with()
        self.assertEqual(board.hands_in("red", "ann", 12), "out")
        self.assertEqual((board.inside(), len(board)), ([("red", "a", ["bob"])], 1))
        self.assertEqual(board.hands_in("red", "bob", 12), "out")
        self.assertEqual((board.inside(), len(board), bool(board)), ([], 0, False))

    def test_double_writes_no_row(self):
        board = board_with(("hands_in", "red", "ann", 12))
        rows = board.rows()
        for minute in (12, 50, 50):
            self.assertEqual(board.hands_in("red", "ann", minute), "double")
        self.assertEqual(board.rows(), rows)
        # Minute 50 was in no row: nothing is late.
        self.assertEqual(board.hands_in("red", "bob", 13), "out")
        # Of a team of which nobody is in any more, too.
        self.assertEqual(board.hands_in("red", "bob", 14), "double")

    def test_double_of_one_who_was_seen(self):
        board = board_with(("sees", "red", "ann", 12))
        self.assertEqual(board.hands_in("red", "ann", 13), "double")
        self.assertEqual(len(board.rows()), 2)

    def test_found_writes_no_row(self):
        board = board_with(("loses", "red", "ann", 12))
        rows, inside = board.rows(), board.inside()
        for minute in (12, 50):
            self.assertEqual(board.hands_in("red", "ann", minute), "found")
        self.assertEqual((board.rows(), board.inside(), len(board)), (rows, inside, 2))
        # It was lost and stays so: who wears it is in till seen.
        board.sees("red", "ann", 13)
        self.assertEqual(board.hands_in("red", "ann", 13), "double")
        self.assertEqual(board.inside(), [("red", "a", ["bob"])])

    def test_lost_twice(self):
        board = board_with(("loses", "red", "ann", 12), ("loses", "red", "ann", 12), ("loses", "red", "ann", 13))
        self.assertEqual(board.rows()[1:], [("lost", 12, "red", "ann")] * 2 + [("lost", 13, "red", "ann")])
        self.assertEqual((board.inside(), len(board)), ([("red", "a", ["ann", "bob"])], 2))

    def test_seen_without_being_lost(self):
        board = board_with(("sees", "red", "ann", 12))
        self.assertEqual(board.inside(), [("red", "a", ["bob"])])

    def test_one_whose_tally_is_lost_is_gauged_on(self):
        board = board_with(("loses", "red", "ann", 12), ("gauge", "red", "ann", 13, 100), ("dies", "red", "ann", 13))
        self.assertEqual(board.content("red", "ann", 13), 600)

    def test_a_dead_gauge(self):
        board = board_with(("dies", "red", "ann", 12))
        self.check_refused(Dead, board, "gauge", "red", "ann", 13, 100)
        self.check_refused(Dead, board, "dies", "red", "ann", 13)
        board.gauge("red", "bob", 13, 100)
        self.assertEqual(board.hands_in("red", "ann", 13), "out")


class RefusedTest(BoardCase):

    OF_ONE_IN = (("gauge", (100,)), ("dies", ()), ("loses", ()), ("sees", ()), ("content", ()))

    def test_late_goes_ahead_of_all_else(self):
        board = board_with(("dies", "red", "ann", 12), ("hands_in", "red", "bob", 20))
        for word, more in self.OF_ONE_IN + (("hands_in", ()),):
            for team, wearer in (("red", "ann"), ("red", "bob"), ("red", "cat"), ("blue", "ann")):
                for minute in (19, 0):
                    with self.subTest(word=word, team=team, wearer=wearer):
                        self.check_refused(Late, board, word, team, wearer, minute, *more)
        for team in ("red", "blue"):
            self.check_refused(Late, board, "works", team, 19, "rest")
        self.check_refused(Late, board, "due", 19)

    def test_the_minute_of_the_last_row_is_not_late(self):
        board = board_with(("gauge", "red", "ann", 12, 90), ("gauge", "red", "ann", 12, 90), ("works", "red", 12, "rest"))
        board.sees("red", "ann", 12)
        self.assertEqual(board.due(12), [])

    def test_no_team(self):
        board = board_with(("hands_in", "red", "ann", 12), ("hands_in", "red", "bob", 12))
        for word, more in self.OF_ONE_IN:
            for team in ("red", "blue", "a"):
                for wearer in ("ann", "cat"):
                    with self.subTest(word=word, team=team):
                        told = self.check_refused(NoTeam, board, word, team, wearer, 13, *more)
                        self.assertEqual(told.team, team)
        for team in ("red", "blue"):
            self.assertEqual(self.check_refused(NoTeam, board, "works", team, 13, "rest").team, team)

    def test_no_team_for_hands_in_and_whistles(self):
        board = board_with(("hands_in", "red", "ann", 12), ("hands_in", "red", "bob", 12))
        self.assertEqual(self.check_refused(NoTeam, board, "hands_in", "blue", "ann", 13).team, "blue")
        self.assertEqual(self.check_refused(NoTeam, board, "whistle", "blue").team, "blue")
        self.assertEqual(board.hands_in("red", "ann", 13), "double")
        self.assertIs(board.whistle("red"), None)

    def test_no_wearer(self):
        board = board_with(("dies", "red", "ann", 11), ("hands_in", "red", "ann", 12))
        board.enter("blue", 12, (CAT,))
        for word, more in self.OF_ONE_IN:
            for wearer in ("ann", "cat", "dan"):
                with self.subTest(word=word, wearer=wearer):
                    told = self.check_refused(NoWearer, board, word, "red", wearer, 13, *more)
                    self.assertEqual(told.wearer, wearer)
        for wearer in ("cat", "dan"):
            self.assertEqual(self.check_refused(NoWearer, board, "hands_in", "red", wearer, 13).wearer, wearer)

    def test_any_things_for_names(self):
        board = board_with()
        for thing in ANY_THINGS:
            with self.subTest(thing=str(thing)[:40]):
                with self.assertRaises(NoTeam) as caught:
                    board.gauge(thing, "ann", 11, 90)
                self.assertIs(caught.exception.team, thing)
                with self.assertRaises(NoWearer) as caught:
                    board.hands_in("red", thing, 11)
                self.assertIs(caught.exception.wearer, thing)

    def test_an_empty_board_refuses_no_minute(self):
        for word, more in self.OF_ONE_IN + (("hands_in", ()),):
            self.check_refused(NoTeam, Board(), word, "red", "ann", 0, *more)
        self.assertEqual(Board().due(0), [])


class OwnTest(BoardCase):

    def test_told_lists_are_the_askers_own(self):
        board = board_with()
        board.rows().clear()
        board.inside()[0][2].append("cat")
        board.inside().clear()
        board.due(500).append("blue")
        self.assertEqual(board.rows(), [("in", 10, "red", "a", "work", (ANN, BOB))])
        self.assertEqual(board.inside(), [("red", "a", ["ann", "bob"])])
        self.assertEqual(board.due(500), ["red"])

    def test_told_lists_are_not_changed_later(self):
        board = board_with()
        told = (board.rows(), board.inside())
        kept = copy.deepcopy(told)
        board.hands_in("red", "ann", 12)
        self.assertEqual(told, kept)

    def test_two_boards_share_nothing(self):
        one, other = board_with(), Board()
        self.assertEqual((other.rows(), len(other)), ([], 0))
        wearers = (ANN, BOB)
        other.enter("red", 10, wearers)
        one.hands_in("red", "ann", 11)
        one.gauge("red", "bob", 11, 9)
        self.assertEqual((other.inside(), wearers), ([("red", "a", ["ann", "bob"])], (ANN, BOB)))
        self.assertEqual(other.content("red", "bob", 11), 1080 - 45)

    def test_equal_and_unlike(self):
        self.assertIs(board_with() == board_with(), True)
        self.assertIs(board_with() != board_with(), False)
        self.assertTrue(Board() == Board(50))
        self.assertFalse(Board() == Board(51))
        self.assertFalse(Board() == board_with())
        self.assertFalse(board_with() == board_with(("gauge", "red", "ann", 10, 200)))
        self.assertFalse(board_with(("loses", "red", "ann", 10)) == board_with(("loses", "red", "bob", 10)))
        self.assertFalse(board_with(("works", "red", 10, "rest")) == board_with(("works", "red", 11, "rest")))
        rows = (("works", "red", 10, "rest"), ("loses", "red", "ann", 10))
        self.assertFalse(board_with(*rows) == board_with(*rows[::-1]))

    def test_double_and_found_make_no_difference(self):
        rows = (("loses", "red", "ann", 11), ("hands_in", "red", "bob", 12))
        more = rows + (("hands_in", "red", "ann", 13), ("hands_in", "red", "bob", 13))
        self.assertTrue(board_with(*rows) == board_with(*more))

    def test_things_of_other_kinds(self):
        board = Board()
        for thing in ANY_THINGS + ([], board.rows()):
            self.assertIs(board == thing, False)
            self.assertIs(thing == board, False)


if __name__ == "__main__":
    unittest.main()
