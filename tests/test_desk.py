"""Point 32: each row of the desk, answered and refused."""

import random
import unittest

from tests.samples import ANY_THINGS, any_deed, town, town_engines
from whistleboard.cover import cover, moves
from whistleboard.desk import Desk
from whistleboard.errors import BadTime, NoCall, NoDeed, NoEngine, NoEngines, NoRow, NoSaying, NotDone, Nothing, TooMany
from whistleboard.room import Room, take_up
from whistleboard.rows import Row
from whistleboard.sending import lacking, nearest
from whistleboard.texts import read_book

# A row of each word that may be said, whatever the room.
SAYINGS = (
    "draft 0 00:05 call mart house", "draft 0 00:05 nothing", "undo", "write 0 00:05", "right 0 0 00:05 0 00:05 nothing",
    "engine redone", "call 1", "calls", "void", "book", "lacking 1 0 00:05", "nearest 1 0 00:05", "cover 0 00:05",
    "moves 0 00:05 6",
)
REFUSALS = (BadTime, NoCall, NoDeed, NoEngine, NoRow, NoSaying, NotDone, Nothing, TooMany)


def desk_with(*rows):
    """A desk of the town to which these rows were said."""
    desk = Desk(town(), town_engines())
    for row in rows:
        desk.say(row)
    return desk


class DeskCase(unittest.TestCase):

    def check_refused(self, refusal, desk, row):
        """The refusal is made, and nothing is changed."""
        before = [desk.say(asked) for asked in ("book", "calls", "void", "cover 6 22:39")]
        with self.assertRaises(refusal) as caught:
            desk.say(row)
        self.assertIs(type(caught.exception), refusal)
        self.assertEqual([desk.say(asked) for asked in ("book", "calls", "void", "cover 6 22:39")], before)
        return caught.exception


class MadeTest(DeskCase):

    def test_no_engines(self):
        for thing in [thing for thing in ANY_THINGS if thing != ()] + [list(town_engines())]:
            with self.subTest(thing=str(thing)[:40]), self.assertRaises(NoEngines):
                Desk(town(), thing)

    def test_by_names(self):
        desk = Desk(engines=(), ground=town())
        self.assertEqual(desk.say(row="calls"), "-")

    def test_two_desks_are_each_its_own(self):
        ground, engines = town(), town_engines()
        one, other = Desk(ground, engines), Desk(ground, engines)
        one.say("draft 0 00:05 call mart house")
        self.check_refused(Nothing, other, "undo")
        one.say("write 0 00:05")
        self.assertEqual((one.say("calls"), other.say("calls"), other.say("book")), ("1", "-", "-"))
        self.assertTrue(ground == town())


class DraftTest(DeskCase):

    def test_how_many_there_are(self):
        desk = desk_with()
        told = [desk.say(f"draft 0 00:0{at} nothing") for at in range(4)]
        self.assertEqual(told, ["ok 1", "ok 2", "ok 3", "ok 4"])
        self.assertEqual([desk.say("undo") for again in range(4)], ["ok 3", "ok 2", "ok 1", "ok 0"])
        self.check_refused(Nothing, desk, "undo")

    def test_drafts_are_not_written_yet(self):
        desk = desk_with("draft 0 00:05 call mart house")
        self.assertEqual((desk.say("book"), desk.say("calls")), ("-", "-"))

    def test_all_are_written_in_order(self):
        desk = desk_with("draft 0 00:05 call mart house", "draft 0 00:06 send redone 1", "draft 0 00:04 shut 2")
        self.assertEqual(desk.say("write 0 00:09"), "ok 3")
        self.assertEqual(desk.say("book"), (
            "1 0 00:09 0 00:05 call mart house\n2 0 00:09 0 00:06 send redone 1\n3 0 00:09 0 00:04 shut 2"
        ))
        self.check_refused(Nothing, desk, "write 0 00:09")
        self.check_refused(Nothing, desk, "undo")
        self.assertEqual(desk.say("draft 0 00:10 nothing"), "ok 1")
        self.assertEqual(desk.say("write 0 00:10"), "ok 4")

    def test_the_last_draft_is_taken_back(self):
        desk = desk_with("draft 0 00:05 call mart house", "draft 0 00:05 stop 1", "undo", "write 0 00:05")
        self.assertEqual((desk.say("calls"), desk.say("book")), ("1", "1 0 00:05 0 00:05 call mart house"))

    def test_if_one_is_refused_none_is_written_and_all_stay(self):
        wrong = (
            ("draft 0 00:05 send redone 9", NotDone), ("draft 0 00:05 send nobody 1", NoDeed),
            ("draft 0 00:05 call nowhere car", NoDeed), ("draft 0 00:05 call mart boat", NoDeed),
            ("draft 0 00:05 shut 5", NoDeed), ("draft 0 00:05 make 1 0", NoDeed), ("draft 0 00:05 again 0", NoDeed),
            ("draft 0 00:10 nothing", BadTime), ("draft 0 00:04 stop 1", NotDone),
        )
        for row, refusal in wrong:
            with self.subTest(row=row):
                desk = desk_with("draft 0 00:05 call mart house", row, "draft 0 00:05 nothing")
                self.check_refused(refusal, desk, "write 0 00:09")
                self.check_refused(refusal, desk, "write 0 00:09")
                self.assertEqual([desk.say("undo"), desk.say("undo")], ["ok 2", "ok 1"])
                self.assertEqual(desk.say("write 0 00:09"), "ok 1")
                self.assertEqual(desk.say("calls"), "1")

    def test_what_the_refusal_tells(self):
        desk = desk_with("draft 0 00:05 call mart house", "draft 0 00:05 send redone 1", "draft 0 00:05 off redone")
        self.assertEqual(self.check_refused(NotDone, desk, "write 0 00:05").why, "engine")
        desk = desk_with("draft 0 00:05 call mart boat")
        self.assertEqual(self.check_refused(NoDeed, desk, "write 0 00:05").at, 2)

    def test_refused_at_one_minute_and_written_at_another(self):
        desk = desk_with("draft 0 00:05 call mart house", "draft 0 00:08 stop 1")
        self.check_refused(BadTime, desk, "write 0 00:07")
        self.assertEqual(desk.say("write 0 00:08"), "ok 2")

    def test_written_less_than_that_of_the_last_row(self):
        desk = desk_with("draft 0 00:05 nothing", "write 0 00:09", "draft 0 00:05 nothing")
        self.check_refused(BadTime, desk, "write 0 00:08")
        self.assertEqual(desk.say("write 0 00:09"), "ok 2")

    def test_drafts_stand_upon_one_another(self):
        desk = desk_with("draft 0 00:05 call mart house", "draft 0 00:05 send wet 1", "draft 0 00:05 there wet")
        self.assertEqual(desk.say("write 0 00:05"), "ok 3")
        self.assertEqual(desk.say("engine wet"), "there,mart,mill,1")

    def test_two_hundred_rows_and_one_more(self):
        desk = desk_with(*["draft 0 00:05 nothing"] * 200)
        self.assertEqual(desk.say("draft 0 00:05 nothing"), "ok 201")
        self.check_refused(TooMany, desk, "write 0 00:05")
        self.assertEqual(desk.say("undo"), "ok 200")
        self.assertEqual(desk.say("write 0 00:05"), "ok 200")
        self.assertEqual(desk.say("draft 0 00:05 nothing"), "ok 1")
        self.check_refused(TooMany, desk, "write 0 00:05")
        self.check_refused(TooMany, desk, "right 0 0 00:05 0 00:05 nothing")
        self.check_refused(TooMany, desk, "right 200 0 00:05 0 00:05 nothing")

    def test_a_draft_of_each_word(self):
        deeds = ("call mill car", "again 1", "make 1 5", "stop 1", "send redone 1", "there redone", "back redone",
                 "home redone", "off redone", "on redone", "stand redone hill", "lend redone hill", "shut 0", "clear 0",
                 "nothing", "call nowhere boat", "again 0", "make 999 999", "send right 0")
        desk = desk_with()
        for many, deed in enumerate(deeds):
            self.assertEqual(desk.say(f"draft 6 22:39 {deed}"), f"ok {many + 1}")

    def test_what_is_no_draft(self):
        for row in ("draft", "draft 0 00:05", "draft nothing", "draft 0 nothing", "draft 0 00:60 nothing",
                    "draft 6 22:40 nothing", "draft 0 00:05 nothing 1", "draft 0 00:05 call mart",
                    "draft 0 00:05 call mart house 1", "draft 0 00:05 boat mart", "draft 0 00:05 again 1000",
                    "draft 0 00:05 again 01", "draft 0 00:05 again -1", "draft 0 00:05 send Red 1",
                    "draft 0 00:05 nothing right 1", "draft 0 00:05 0 00:05 nothing", "draft 00 00:05 nothing"):
            with self.subTest(row=row):
                desk = desk_with("draft 0 00:05 nothing")
                self.check_refused(NoSaying, desk, row)
                self.assertEqual(desk.say("undo"), "ok 0")


class RightTest(DeskCase):

    def test_with_nought_and_another_number(self):
        desk = desk_with()
        self.assertEqual(desk.say("right 0 0 00:09 0 00:05 call mart house"), "ok 1")
        self.assertEqual(desk.say("right 1 0 00:09 0 00:04 call quay car"), "ok 2")
        self.assertEqual(desk.say("call 1"), "quay,car,4,0,yes,-")
        self.assertEqual(desk.say("book"), (
            "1 0 00:09 0 00:05 call mart house\n2 0 00:09 0 00:04 call quay car right 1"
        ))

    def test_drafts_stay_as_they_are(self):
        desk = desk_with("draft 0 00:05 call mart house")
        self.assertEqual(desk.say("right 0 0 00:05 0 00:05 nothing"), "ok 1")
        self.assertEqual(desk.say("write 0 00:05"), "ok 2")
        self.assertEqual(desk.say("calls"), "2")

    def test_as_the_room_refuses(self):
        desk = desk_with("right 0 0 00:09 0 00:05 call mart house", "right 0 0 00:09 0 00:05 nothing",
                         "right 2 0 00:09 0 00:05 nothing")
        for number in (2, 4, 200, 999, 9999999999):
            told = self.check_refused(NoRow, desk, f"right {number} 0 00:09 0 00:05 nothing")
            self.assertEqual(told.number, number)
        self.check_refused(NoDeed, desk, "right 9 0 00:08 0 00:05 send nobody 1")
        self.check_refused(BadTime, desk, "right 9 0 00:08 0 00:05 nothing")
        self.check_refused(BadTime, desk, "right 0 0 00:09 0 00:10 nothing")
        self.assertEqual(self.check_refused(NotDone, desk, "right 0 0 00:09 0 00:05 on redone").why, "engine")

    def test_what_is_none(self):
        for row in ("right", "right 0", "right 0 0 00:09", "right 0 0 00:09 0 00:05", "right 0 0 00:09 nothing",
                    "right 0 00:09 0 00:05 nothing", "right 00 0 00:09 0 00:05 nothing", "right x 0 00:09 0 00:05 nothing",
                    "right -1 0 00:09 0 00:05 nothing", "right 0 0 00:09 0 00:05 nothing right 1",
                    "right 10000000000 0 00:09 0 00:05 nothing", "right 01 0 00:09 0 00:05 nothing",
                    "right 0 0 00:09 0 00:05 boat", "right 0 0 00:09 0 24:05 nothing"):
            with self.subTest(row=row):
                self.check_refused(NoSaying, desk_with(), row)


class AskedTest(DeskCase):

    def test_engine(self):
        desk = desk_with("right 0 0 00:05 0 00:05 call mart house")
        self.assertEqual(desk.say("engine redone"), "home,mill,mill,0")
        desk.say("right 0 0 00:06 0 00:06 send redone 1")
        self.assertEqual(desk.say("engine redone"), "sent,mill,mill,1")
        for name in ("nobody", "mill", "a", "zzzzzzzz"):
            self.assertEqual(self.check_refused(NoEngine, desk, f"engine {name}").name, name)
        for row in ("engine", "engine ", "engine Redone", "engine abcdefghi", "engine redone redone", "engine 1"):
            self.check_refused(NoSaying, desk, row)

    def test_call(self):
        desk = desk_with("right 0 0 00:05 0 00:05 call mart house")
        self.assertEqual(desk.say("call 1"), "mart,house,5,0,yes,-")
        for row in ("right 0 0 00:06 0 00:06 send wet 1", "right 0 0 00:06 0 00:06 make 1 7"):
            desk.say(row)
        self.assertEqual(desk.say("call 1"), "mart,house,5,7,yes,wet")
        desk.say("right 0 0 00:06 0 00:06 send redone 1")
        self.assertEqual(desk.say("call 1"), "mart,house,5,7,yes,redone+wet")
        desk.say("right 0 0 00:07 0 00:07 stop 1")
        self.assertEqual(desk.say("call 1"), "mart,house,5,7,no,-")
        for number in (0, 2, 999, 1000, 9999999999):
            self.assertEqual(self.check_refused(NoCall, desk, f"call {number}").number, number)
        for row in ("call", "call ", "call x", "call 01", "call -1", "call 1 1", "call 10000000000", "call +1", "call 1.0"):
            self.check_refused(NoSaying, desk, row)

    def test_calls(self):
        desk = desk_with()
        self.assertEqual(desk.say("calls"), "-")
        for many in range(3):
            desk.say("right 0 0 00:05 0 00:05 call mart house")
        self.assertEqual(desk.say("calls"), "1 2 3")
        desk.say("right 0 0 00:05 0 00:05 stop 2")
        self.assertEqual(desk.say("calls"), "1 3")

    def test_void(self):
        desk = desk_with("right 0 0 00:05 0 00:05 call mart house", "right 0 0 00:07 0 00:07 again 1")
        self.assertEqual(desk.say("void"), "-")
        desk.say("right 0 0 00:07 0 00:07 send wet 1")
        desk.say("right 0 0 00:08 0 00:08 there wet")
        desk.say("right 0 0 00:09 0 00:06 stop 1")
        self.assertEqual(desk.say("void"), "2,call 3,call 4,engine")

    def test_book(self):
        desk = desk_with()
        self.assertEqual(desk.say("book"), "-")
        desk.say("right 0 0 07:05 0 07:01 nothing")
        self.assertEqual(desk.say("book"), "1 0 07:05 0 07:01 nothing")

    def test_lacking_and_nearest(self):
        desk = desk_with("right 0 0 00:05 0 00:05 call quay works")
        self.assertEqual(desk.say("lacking 1 0 00:05"), "3,1,1")
        self.assertEqual(desk.say("nearest 1 0 00:05"), "redone,4 redtwo,4 redsix,5 tall,5 wet,4")
        self.assertEqual(desk.say("nearest 1 0 07:05"), "redone,5 redtwo,5 redsix,9 tall,9 wet,5")
        desk.say("right 0 0 00:05 0 00:05 call far car")
        self.assertEqual((desk.say("lacking 2 6 22:39"), desk.say("nearest 2 6 22:39")), ("1,0,0", "-"))
        for word in ("lacking", "nearest"):
            for number, time in ((1, "0 00:04"), (0, "0 00:05"), (3, "0 00:05"), (9999999999, "0 00:05")):
                self.assertEqual(self.check_refused(NoCall, desk, f"{word} {number} {time}").number, number)
            for row in (word, f"{word} 1", f"{word} 1 0", f"{word} 0 00:05", f"{word} 0 00:05 1", f"{word} 1 0 00:05 1",
                        f"{word} 01 0 00:05", f"{word} 1 0 24:00", f"{word} x 0 00:05", f"{word} 10000000000 0 00:05"):
                self.check_refused(NoSaying, desk, row)

    def test_cover(self):
        desk = desk_with()
        self.assertEqual(desk.say("cover 0 00:05"), "mill,0 quay,2 hill,0 mart,1 out,10 far,none")
        self.assertEqual(desk.say("cover 0 07:05"), "mill,0 quay,3 hill,0 mart,1 out,15 far,none")
        for row in ("cover", "cover 0", "cover 00:05", "cover 0 00:05 1", "cover 7 00:00", "cover 5"):
            self.check_refused(NoSaying, desk, row)

    def test_moves(self):
        desk = desk_with()
        self.assertEqual(desk.say("moves 0 00:05 6"), "redtwo,mart;-")
        self.assertEqual(desk.say("moves 0 00:05 5"), "-;mart")
        self.assertEqual(desk.say("moves 0 00:05 0"), "-;mart")
        for limit in (999, 1000, 9999999999):
            self.assertEqual(desk.say(f"moves 0 00:05 {limit}"), "redtwo,mart;-")
        desk.say("right 0 0 00:05 0 00:05 stand redtwo mart")
        self.assertEqual(desk.say("moves 0 00:05 6"), "-;-")
        self.assertEqual(Desk(town(), ()).say("moves 0 00:05 6"), "-;mill hill mart")
        two = Desk(town(), (("aa", "pump", "mill", 1), ("bb", "pump", "mill", 1), ("cc", "pump", "mill", 1)))
        self.assertIn(two.say("moves 0 00:05 9"), ("bb,hill cc,mart;-", "cc,hill bb,mart;-"))
        for row in ("moves", "moves 0 00:05", "moves 6", "moves 0 00:05 06", "moves 0 00:05 -1", "moves 0 00:05 x",
                    "moves 6 0 00:05", "moves 0 00:05 6 6", "moves 0 00:05 10000000000"):
            self.check_refused(NoSaying, desk, row)


class NoSayingTest(DeskCase):

    def test_any_thing(self):
        desk = desk_with("draft 0 00:05 nothing")
        for thing in ANY_THINGS + (["calls"], ("calls",), "Calls", "CALLS", "call", "say", "make 1 5", "nothing", "-"):
            with self.subTest(thing=str(thing)[:40]):
                self.check_refused(NoSaying, desk, thing)
        self.assertEqual(desk.say("undo"), "ok 0")

    def test_empty_words(self):
        for row in SAYINGS:
            for wrong in (" " + row, row + " ", "  ".join(row.split(" ", 1)), row + "  ", "  " + row):
                if wrong != row:
                    with self.subTest(row=wrong):
                        self.check_refused(NoSaying, desk_with("draft 0 00:05 nothing"), wrong)

    def test_each_word_left_out_or_too_many(self):
        for row in SAYINGS:
            words = row.split(" ")
            for at in range(len(words)):
                if len(words) > 1:
                    with self.subTest(row=row, at=at):
                        self.check_refused(NoSaying, desk_with(), " ".join(words[:at] + words[at + 1:]))
            for more in words + ["nothing", "1", "0 00:05", "x"]:
                self.check_refused(NoSaying, desk_with(), f"{row} {more}")

    def test_each_word_twice(self):
        for row in SAYINGS:
            words = row.split(" ")
            for at in range(len(words)):
                self.check_refused(NoSaying, desk_with(), " ".join(words[:at + 1] + words[at:]))

    def test_words_exchanged(self):
        for row in SAYINGS:
            words = row.split(" ")
            for at in range(len(words) - 1):
                turned = words[:at] + [words[at + 1], words[at]] + words[at + 2:]
                # A place and a kind are both names; 1 0 00:05 and 0 1 00:05 are both a number and a time.
                if turned != words and words[at] not in ("mart", "1"):
                    with self.subTest(turned=turned):
                        self.check_refused(NoSaying, desk_with(), " ".join(turned))

    def test_it_goes_ahead_of_the_functions_refusals(self):
        for row in ("write 0 24:00", "undo 1", "write", "lacking 9 0 24:00", "nearest 9 0 00:60", "engine nobody x",
                    "call 9 9", "right 9 0 00:05 0 00:09 again 1000"):
            self.check_refused(NoSaying, desk_with(), row)

    def test_nothing_goes_ahead_of_the_room(self):
        self.check_refused(Nothing, desk_with("right 0 0 00:09 0 00:09 nothing"), "write 0 00:05")


class ModelTest(DeskCase):

    def test_against_a_room_of_its_own(self):
        for seed in range(30):
            chance = random.Random(seed)
            desk, room = Desk(town(), town_engines()), Room(town(), town_engines())
            drafts, minute = [], 0
            for again in range(40):
                minute += chance.choice((0, 1, 9))
                room, drafts = self.say_some(chance, desk, room, drafts, minute)
            self.check_answers(desk, room, minute)

    def say_some(self, chance, desk, room, drafts, minute):
        """Say something to the desk, do the same with the room and the drafts, and hold the answers side by side."""
        deed = any_deed(chance, room.ground, room.engines, room.calls())
        words = " ".join([str(thing) for thing in deed])
        at = minute if chance.random() < 0.7 else chance.randint(0, minute)
        word = chance.choice(("draft", "draft", "draft", "undo", "write", "right"))
        if word == "draft":
            drafts = drafts + [(at, deed)]
            self.check_same(desk, f"draft {self.time(at)} {words}", f"ok {len(drafts)}")
        elif word == "undo":
            self.check_same(desk, "undo", f"ok {len(drafts) - 1}" if drafts else Nothing)
            drafts = drafts[:-1]
        elif word == "right":
            number = chance.randint(0, len(room))
            told = self.tried(lambda: f"ok {room.write(minute, at, deed, number).number}")
            self.check_same(desk, f"right {number} {self.time(minute)} {self.time(at)} {words}", told)
        else:
            other = take_up(town(), town_engines(), room.rows())
            told = self.tried(lambda: [other.write(minute, at, deed) for at, deed in drafts][-1].number)
            if not drafts:
                told = Nothing
            self.check_same(desk, f"write {self.time(minute)}", f"ok {told}" if isinstance(told, int) else told)
            if isinstance(told, int):
                room, drafts = other, []
        return room, drafts

    def time(self, minute):
        return f"{minute // 1440} {minute % 1440 // 60:02d}:{minute % 60:02d}"

    def tried(self, doing):
        try:
            return doing()
        except REFUSALS as refusal:
            return type(refusal)
        except IndexError:
            return None

    def check_same(self, desk, row, due):
        self.assertEqual(self.tried(lambda: desk.say(row)), due, row)

    def check_answers(self, desk, room, minute):
        """Each answer is what the functions tell."""
        self.assertEqual(read_book(desk.say("book")) if len(room) else [], room.rows())
        self.assertEqual(desk.say("calls"), " ".join([str(number) for number in room.calls()]) or "-")
        self.assertEqual(desk.say("void"), " ".join([f"{number},{why}" for number, why in room.void()]) or "-")
        for name, sort, station, seats in room.engines:
            self.assertEqual(desk.say(f"engine {name}"), ",".join([str(thing) for thing in room.engine(name)]))
        time = self.time(minute)
        for number in room.calls(minute):
            told = lacking(room, number, minute)
            self.assertEqual(desk.say(f"lacking {number} {time}"), f"{told[0]},{told[1]},{told[2]}")
            told = nearest(room, number, minute)
            self.assertEqual(desk.say(f"nearest {number} {time}"), self.pairs_text(told))
        self.assertEqual(desk.say(f"cover {time}"), self.pairs_text(cover(room, minute)))
        told, band = moves(room, minute, 6)
        self.assertEqual(desk.say(f"moves {time} 6"), self.pairs_text(told) + ";" + (" ".join(band) or "-"))

    def pairs_text(self, pairs):
        return " ".join([f"{one},{'none' if other is None else other}" for one, other in pairs]) or "-"

    def test_out_of_its_book_the_room_is_taken_up(self):
        desk = desk_with("draft 0 00:05 call mart house", "draft 0 00:06 send redone 1", "write 0 00:09",
                         "right 2 0 00:10 0 00:07 nothing")
        room = take_up(town(), town_engines(), read_book(desk.say("book")))
        self.assertEqual(room.rows()[2], Row(3, 10, 7, ("nothing",), 2))


if __name__ == "__main__":
    unittest.main()
