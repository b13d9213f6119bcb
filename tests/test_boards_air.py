"""Point 27: the content of cylinders, whistles, and who is due for relief."""

import random
import unittest

from whistleboard.boards import Board
from whistleboard.errors import Inside, Late, NoTeam

USES = {"rest": 30, "work": 45, "hard": 70}


def content_due(rows, team, wearer, minute):
    """What is left, perhaps below nought, reckoned minute by minute out of the rows; and the litres of the cylinder."""
    start = max([at for at, row in enumerate(rows) if row[0] == "in" and row[2] == team])
    litres = [told[2] for told in rows[start][5] if told[0] == wearer][0]
    works = [(rows[start][1], rows[start][4])]
    bar = [told[1] for told in rows[start][5] if told[0] == wearer][0]
    since, dead = rows[start][1], False
    for row in rows[start + 1:]:
        if row[0] == "works" and row[2] == team:
            works.append((row[1], row[3]))
        if row[0] == "gauge" and row[2:4] == (team, wearer):
            since, bar = row[1], row[4]
        if row[0] == "dies" and row[2:4] == (team, wearer):
            dead = True
    left = bar * litres
    for passed in range(since, minute):
        last = [work for told, work in works if told <= passed][-1]
        left -= 70 if dead else USES[last]
    return left, litres, since


def whistle_due(rows, reserve, team, names):
    """The least of the greatest minutes at which there is the reserve."""
    told = []
    for name in names:
        left, litres, since = content_due(rows, team, name, 0)
        minutes = [minute for minute in range(since, since + 130)
                   if content_due(rows, team, name, minute)[0] >= reserve * litres]
        told.append(max(minutes) if minutes else since)
    return min(told) if told else None


def chance_board(seed):
    """A board on which much was told, the same one for the same seed."""
    chance = random.Random(seed)
    board = Board(chance.choice((1, 20, 50, 100)))
    minute = 0
    names = ["ann", "bob", "cat", "dan", "eve", "fay"]
    for again in range(40):
        minute += chance.choice((0, 0, 1, 2, 5))
        team, wearer = chance.choice(("red", "blue")), chance.choice(names)
        word = chance.choice(("enter", "gauge", "gauge", "gauge", "works", "dies", "hands_in", "loses", "sees"))
        try:
            if word == "enter":
                wearers = [(name, chance.randint(1, 300), chance.randint(1, 12)) for name in chance.sample(names, 3)]
                board.enter(team, minute, tuple(wearers), chance.choice("ab"), chance.choice(tuple(USES)))
            elif word == "gauge":
                board.gauge(team, wearer, minute, chance.randint(0, 300))
            elif word == "works":
                board.works(team, minute, chance.choice(tuple(USES)))
            else:
                getattr(board, word)(team, wearer, minute)
        except (Inside, KeyError, RuntimeError):
            pass
    return board


class ContentTest(unittest.TestCase):

    def board(self, bar=200, litres=6, work="work", reserve=50):
        board = Board(reserve)
        board.enter("red", 10, (("ann", bar, litres), ("bob", 300, 12)), "a", work)
        return board

    def test_at_and_behind_going_in(self):
        for work, use in USES.items():
            board = self.board(200, 6, work)
            told = [board.content("red", "ann", minute) for minute in (10, 11, 12, 20)]
            self.assertEqual(told, [1200, 1200 - use, 1200 - 2 * use, 1200 - 10 * use])

    def test_at_and_behind_the_last_gauge(self):
        board = self.board()
        board.gauge("red", "ann", 15, 100)
        board.gauge("red", "ann", 20, 90)
        self.assertEqual([board.content("red", "ann", minute) for minute in (20, 21, 25)], [540, 495, 315])
        self.assertEqual(board.content("red", "bob", 20), 3600 - 10 * 45)

    def test_the_last_of_two_gauges_in_one_minute(self):
        board = self.board()
        board.gauge("red", "ann", 15, 100)
        board.gauge("red", "ann", 15, 80)
        self.assertEqual(board.content("red", "ann", 16), 480 - 45)

    def test_the_work_told_anew_between(self):
        board = self.board()
        board.works("red", 12, "hard")
        board.works("red", 15, "rest")
        told = [board.content("red", "ann", minute) for minute in (15, 16, 20)]
        self.assertEqual(told, [1200 - 2 * 45 - 3 * 70, 1200 - 2 * 45 - 3 * 70 - 30, 1200 - 2 * 45 - 3 * 70 - 5 * 30])

    def test_the_work_told_ahead_of_the_gauge(self):
        board = self.board()
        board.works("red", 12, "hard")
        board.gauge("red", "ann", 14, 100)
        self.assertEqual(board.content("red", "ann", 15), 600 - 70)

    def test_the_work_told_in_the_minute_of_the_gauge_holds_for_it(self):
        for first in ("works", "gauge"):
            board = self.board()
            if first == "works":
                board.works("red", 14, "hard")
            board.gauge("red", "ann", 14, 100)
            if first == "gauge":
                board.works("red", 14, "hard")
            self.assertEqual((board.content("red", "ann", 14), board.content("red", "ann", 15)), (600, 530))

    def test_the_last_of_two_works_in_one_minute(self):
        board = self.board()
        board.works("red", 12, "hard")
        board.works("red", 12, "rest")
        self.assertEqual(board.content("red", "ann", 13), 1200 - 2 * 45 - 30)

    def test_the_work_of_another_team_does_not_count(self):
        board = self.board()
        board.enter("blue", 10, (("cat", 100, 1),))
        board.works("blue", 10, "hard")
        self.assertEqual(board.content("red", "ann", 11), 1200 - 45)

    def test_a_dead_gauge_is_hard_work_since_the_last_one_told(self):
        board = self.board(200, 6, "rest")
        board.gauge("red", "ann", 12, 190)
        board.works("red", 14, "rest")
        board.dies("red", "ann", 16)
        board.works("red", 17, "rest")
        self.assertEqual([board.content("red", "ann", minute) for minute in (17, 18)], [1140 - 350, 1140 - 420])
        # The other one's gauge lives.
        self.assertEqual(board.content("red", "bob", 17), 3600 - 7 * 30)

    def test_a_gauge_that_dies_without_any_told(self):
        board = self.board(200, 6, "rest")
        board.dies("red", "ann", 15)
        self.assertEqual(board.content("red", "ann", 15), 1200 - 5 * 70)

    def test_down_to_nought(self):
        board = self.board(15, 6)
        self.assertEqual([board.content("red", "ann", minute) for minute in (11, 12, 13, 9999)], [45, 0, 0, 0])
        board.gauge("red", "ann", 13, 0)
        self.assertEqual((board.content("red", "ann", 13), board.content("red", "ann", 14)), (0, 0))

    def test_asking_writes_no_row(self):
        board = self.board()
        board.content("red", "ann", 500)
        self.assertEqual(board.content("red", "ann", 10), 1200)
        self.assertEqual(len(board.rows()), 1)

    def test_late(self):
        board = self.board()
        board.works("red", 20, "rest")
        with self.assertRaises(Late):
            board.content("red", "ann", 19)
        with self.assertRaises(Late):
            board.content("blue", "ann", 19)


class WhistleTest(unittest.TestCase):

    def whistle(self, bar, litres, work="work", reserve=50):
        board = Board(reserve)
        board.enter("red", 10, (("ann", bar, litres),), "a", work)
        return board.whistle("red")

    def test_the_reserve_is_just_reached_and_missed(self):
        # 45 litres a minute: 95 bar times 1 litre hold 50 for a minute, 94 for none.
        self.assertEqual([self.whistle(bar, 1) for bar in (50, 94, 95, 139, 140)], [10, 10, 11, 11, 12])
        self.assertEqual([self.whistle(bar, 6, "rest") for bar in (54, 55, 60)], [10, 11, 12])
        self.assertEqual(self.whistle(200, 6, "hard"), 10 + 900 // 70)

    def test_the_reserve_of_the_board(self):
        self.assertEqual([self.whistle(100, 6, "rest", reserve) for reserve in (100, 95, 94, 1)], [10, 11, 11, 29])

    def test_less_than_it_already(self):
        self.assertEqual([self.whistle(bar, 6) for bar in (1, 49)], [10, 10])
        board = Board()
        board.enter("red", 10, (("ann", 200, 6),))
        board.gauge("red", "ann", 17, 49)
        self.assertEqual(board.whistle("red"), 17)
        board.works("red", 30, "rest")
        self.assertEqual(board.whistle("red"), 17)

    def test_by_the_last_gauge(self):
        board = Board()
        board.enter("red", 10, (("ann", 200, 6),))
        self.assertEqual(board.whistle("red"), 30)
        board.gauge("red", "ann", 15, 200)
        self.assertEqual(board.whistle("red"), 35)
        board.gauge("red", "ann", 16, 80)
        self.assertEqual(board.whistle("red"), 20)

    def test_if_the_work_goes_on(self):
        board = Board()
        board.enter("red", 10, (("ann", 200, 6),))
        board.works("red", 12, "hard")
        # 900 litres above the reserve, less 90, then 70 a minute.
        self.assertEqual(board.whistle("red"), 12 + 810 // 70)
        board.works("red", 15, "rest")
        self.assertEqual(board.whistle("red"), 15 + (810 - 210) // 30)

    def test_work_told_behind_the_whistle_changes_nothing(self):
        board = Board()
        board.enter("red", 10, (("ann", 65, 6),))
        self.assertEqual(board.whistle("red"), 12)
        board.works("red", 40, "rest")
        self.assertEqual(board.whistle("red"), 12)

    def test_a_dead_gauge(self):
        board = Board()
        board.enter("red", 10, (("ann", 200, 6),), "a", "rest")
        self.assertEqual(board.whistle("red"), 40)
        board.dies("red", "ann", 30)
        self.assertEqual(board.whistle("red"), 10 + 900 // 70)

    def test_behind_the_watch(self):
        board = Board()
        board.enter("red", 9990, (("ann", 300, 12),), "a", "rest")
        self.assertEqual(board.whistle("red"), 9990 + 3000 // 30)

    def test_the_least_of_those_who_are_in(self):
        board = Board()
        board.enter("red", 10, (("ann", 100, 6), ("bob", 200, 6), ("cat", 300, 6)))
        self.assertEqual(board.whistle("red"), 16)
        board.hands_in("red", "ann", 11)
        self.assertEqual(board.whistle("red"), 30)
        board.loses("red", "bob", 11)
        self.assertEqual(board.whistle("red"), 30)
        board.sees("red", "bob", 12)
        self.assertEqual(board.whistle("red"), 43)
        board.hands_in("red", "cat", 12)
        self.assertIs(board.whistle("red"), None)
        with self.assertRaises(NoTeam):
            board.whistle("blue")


class DueTest(unittest.TestCase):

    def board(self):
        """Whistles: red 30, blue 16, green 43; of white nobody is in."""
        board = Board()
        board.enter("white", 9, (("wim", 60, 6),))
        board.hands_in("white", "wim", 9)
        board.enter("red", 10, (("ann", 200, 6),))
        board.enter("blue", 10, (("bob", 100, 6),))
        board.enter("green", 10, (("cat", 300, 6),))
        return board

    def test_ten_minutes(self):
        board = self.board()
        self.assertEqual(board.due(10), ["blue"])
        self.assertEqual([board.due(minute) for minute in (19, 20)], [["blue"], ["blue", "red"]])
        self.assertEqual([board.due(minute) for minute in (32, 33)], [["blue", "red"], ["blue", "green", "red"]])
        self.assertEqual(board.due(9999), ["blue", "green", "red"])

    def test_another_number(self):
        board = self.board()
        self.assertEqual([board.due(minute, 0) for minute in (15, 16, 29, 30)], [[], ["blue"], ["blue"], ["blue", "red"]])
        self.assertEqual([board.due(10, ahead) for ahead in (5, 6, 19, 20, 33)],
                         [[], ["blue"], ["blue"], ["blue", "red"], ["blue", "green", "red"]])

    def test_late(self):
        board = self.board()
        for minute in (9, 0):
            with self.assertRaises(Late):
                board.due(minute)

    def test_asking_writes_no_row(self):
        board = self.board()
        rows = board.rows()
        board.due(5000)
        self.assertEqual((board.due(10), board.rows()), (["blue"], rows))


class ChanceTest(unittest.TestCase):

    def test_against_each_minute(self):
        asked = 0
        for seed in range(120):
            board = chance_board(seed)
            rows, reserve = board.rows(), board.reserve
            last = rows[-1][1] if rows else 0
            due = []
            for team, door, names in board.inside():
                for name in names:
                    for minute in (last, last + 1, last + 7, last + 60):
                        asked += 1
                        left = max(0, content_due(rows, team, name, minute)[0])
                        self.assertEqual(board.content(team, name, minute), left)
                whistle = whistle_due(rows, reserve, team, names)
                self.assertEqual(board.whistle(team), whistle)
                if whistle - 10 <= last + 3:
                    due.append(team)
            self.assertEqual(board.due(last + 3), due)
        self.assertGreater(asked, 300)


if __name__ == "__main__":
    unittest.main()
