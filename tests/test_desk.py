"""bitrail.desk: point 35 with the rows of the interface, points 1 to 6 over the desk, and point 2."""

import re
import unittest

from bitrail.desk import Desk
from bitrail.ears import ear
from bitrail.errors import NoRow
from bitrail.rails import Rail
from bitrail.strips import read_strips
from bitrail.things import cut
from tests.helper import RailCase, some_numbers, some_thing

NUMBER = "(0|[1-9][0-9]{0,5})"
TURNS = "(0|[1-9][0-9]{0,2}|1[0-9]{3}|2000)"
CHOICE = f"{NUMBER}/{NUMBER}"
# Of each row the forms of its words, the last one of which may stand any number of times where it is told twice.
WORDS = {
    "rail": ([NUMBER, CHOICE], CHOICE),
    "hand": ([NUMBER, NUMBER], NUMBER),
    "thing": ([NUMBER, NUMBER, NUMBER], NUMBER),
    "wrong": ([NUMBER, NUMBER], None),
    "run": ([TURNS], None),
    "bits": ([NUMBER, "to"], None),
    "draw": ([NUMBER, NUMBER, "to"], None),
    "got": ([NUMBER], None),
    "waits": ([NUMBER], None),
    "things": ([NUMBER, NUMBER], None),
    "stance": ([NUMBER], None),
    "faults": ([NUMBER], None),
}
GOOD = (
    "rail 3 0/0 0/0 1/1", "hand 0 5", "hand 0 5 6 7", "thing 1 4 9", "thing 1 4 9 1 2 3 4 5 6", "wrong 2 30", "run 0",
    "run 2000", "bits 0 400", "bits 7 3", "draw 1 0 400", "draw 1 9 9", "got 0", "waits 1", "things 0 4",
    "things 0 999999", "stance 2", "faults 0",
)
# Words that are no number, and no choice either.
NO_NUMBERS = (
    "", "x", "00", "01", "007", "-1", "+1", "1000000", "0000001", "1.0", "1_0", "0x1", "1/", "/1", "/", "1/2/3",
    "01/1", "1/01", "1/-1", "1000000/1", "1/1000000", "1,", "\t1", "1\n", "1\t", "rail", "a/b", "1//2",
)
ASKED = ("got", "waits", "stance", "faults")


def wrong_word(row):
    """The place of the first word that is not as it ought to be, or None."""
    words = row.split(" ")
    if words[0] not in WORDS:
        return 0
    forms, more = WORDS[words[0]]
    for place, word in enumerate(words[1:], 1):
        form = forms[place - 1] if place <= len(forms) else more
        if form is None:
            return place
        if form == "to":
            if not re.fullmatch(NUMBER, word) or int(word) - int(words[place - 1]) > 400:
                return place
        elif not re.fullmatch(form, word):
            return place
    return len(words) if len(words) <= len(forms) else None


def state_of(desk, many=3):
    told = [desk.say(f"bits {start} {start + 400}") for start in range(0, 4000, 400)]
    for post in range(many):
        told += [desk.say(f"{word} {post}") for word in ASKED]
        told += [desk.say(f"draw {post} {start} {start + 400}") for start in range(0, 4000, 400)]
        told += [desk.say(f"things {post} {name}") for name in (4, 5, 6)]
    return told


class DeskCase(RailCase):
    def desk(self, *rows):
        desk = Desk()
        for row in rows:
            self.assertRegex(desk.say(row), "^ok")
        return desk

    def busy_desk(self):
        return self.desk(
            "rail 3 0/0 0/0 1/0", "hand 0 5 6 7", "thing 1 4 9 1 2 3 4 5 6", "wrong 2 30", "run 150", "hand 2 6",
            "wrong 0 170",
        )

    def assert_no_row(self, desk, row, word):
        with self.assertRaises(NoRow) as caught:
            desk.say(row)
        self.assert_alone(caught.exception, "NoRow")
        self.assert_number(caught.exception.word, word)

    def assert_says(self, desk, row, told):
        answer = desk.say(row)
        self.assertIs(type(answer), str)
        self.assertEqual(answer, told)


class RowsTest(DeskCase):
    def test_rows_that_are_good(self):
        for row in GOOD:
            self.assertIsNone(wrong_word(row), row)
            self.busy_desk().say(row)

    def test_other_first_words(self):
        for desk in (Desk(), self.busy_desk()):
            for row in ("", " ", "x", "Rail 3 0/0", "RUN 5", "run\t5", "run5", " run 5", "  ", "\n", "3", "got\n", "turn"):
                self.assert_no_row(desk, row, 0)

    def test_a_word_in_anothers_place(self):
        for desk in (Desk(), self.busy_desk()):
            for row in GOOD:
                words = row.split(" ")
                for place in range(1, len(words)):
                    for word in NO_NUMBERS:
                        self.assert_no_row(desk, " ".join(words[:place] + [word] + words[place + 1:]), place)

    def test_a_choice_for_a_number_and_a_number_for_a_choice(self):
        for desk in (Desk(), self.busy_desk()):
            for row in GOOD:
                words = row.split(" ")
                for place in range(1, len(words)):
                    other = "5" if "/" in words[place] else "5/5"
                    self.assert_no_row(desk, " ".join(words[:place] + [other] + words[place + 1:]), place)

    def test_a_word_left_out(self):
        desk = self.busy_desk()
        for row, word in (
            ("rail", 1), ("rail 3", 2), ("rail 0/0", 1), ("hand", 1), ("hand 0", 2), ("thing", 1), ("thing 1", 2),
            ("thing 1 4", 3), ("wrong", 1), ("wrong 2", 2), ("run", 1), ("bits", 1), ("bits 7", 2), ("draw", 1),
            ("draw 1", 2), ("draw 1 9", 3), ("got", 1), ("waits", 1), ("things", 1), ("things 0", 2), ("stance", 1),
            ("faults", 1),
        ):
            self.assert_no_row(desk, row, word)
            self.assert_no_row(Desk(), row, word)

    def test_a_word_put_in(self):
        for desk in (Desk(), self.busy_desk()):
            for row in GOOD:
                words = row.split(" ")
                for place in range(1, len(words) + 1):
                    for word in ("", "x", "01", "1000000"):
                        self.assert_no_row(desk, " ".join(words[:place] + [word] + words[place:]), place)
            for row, word in (
                ("wrong 2 30 5", 3), ("run 5 5", 2), ("bits 0 5 5", 3), ("draw 1 0 5 5", 4), ("got 0 0", 2),
                ("waits 0 0", 2), ("things 0 4 4", 3), ("stance 0 0", 2), ("faults 0 0", 2), ("run 5 x y", 2),
            ):
                self.assert_no_row(desk, row, word)

    def test_the_first_such_word_is_told(self):
        desk = self.busy_desk()
        for row, word in (
            ("hand x y", 1), ("hand 0 y z", 2), ("hand x", 1), ("run 2001 5", 1), ("bits 0 401 5", 2),
            ("bits x 401", 1), ("draw x", 1), ("rail x", 1), ("rail 3 x y", 2), ("things 0 x 5", 2),
        ):
            self.assert_no_row(desk, row, word)

    def test_two_blanks_in_a_row(self):
        desk = self.busy_desk()
        for row, word in (
            ("run  5", 1), ("run 5 ", 2), (" run 5", 0), ("hand 0 5  6", 3), ("hand 0 5 ", 3), ("rail 3 0/0 ", 3),
            ("rail 3  0/0", 2), ("got 0 ", 2), ("bits 0  5", 2),
        ):
            self.assert_no_row(desk, row, word)

    def test_how_many_turns(self):
        for turns in ("0", "1", "1999", "2000"):
            self.assert_says(self.desk("rail 1 0/0"), "run " + turns, "ok")
        for turns in ("2001", "2002", "3000", "20000", "999999"):
            self.assert_no_row(self.desk("rail 1 0/0"), "run " + turns, 1)

    def test_how_many_bits(self):
        desk = self.desk("rail 1 0/0", "run 1000")
        for start in (0, 7, 600, 999999):
            for more in (0, 1, 399, 400):
                if start + more < 1000000:
                    desk.say(f"bits {start} {start + more}")
                    desk.say(f"draw 0 {start} {start + more}")
            for more in (401, 402, 900):
                if start + more < 1000000:
                    self.assert_no_row(desk, f"bits {start} {start + more}", 2)
                    self.assert_no_row(desk, f"draw 0 {start} {start + more}", 3)
        self.assert_says(desk, "bits 999999 0", "")

    def test_rows_of_any_words(self):
        vocabulary = ["0", "1", "2", "5", "9", "30", "400", "401", "2000", "2001", "999999", "0/0", "1/1", "1/0"]
        vocabulary += ["7", "8", "77", "", "x", "00", "1000000", "run"]
        refused = 0
        for seed in range(3000):
            numbers = some_numbers(seed, 6, 60)
            words = [vocabulary[number % len(vocabulary)] for number in numbers[:1 + seed % 6]]
            words[0] = (list(WORDS) + ["x"])[numbers[0] % 13]
            row = " ".join(words)
            desk = Desk()
            expected = wrong_word(row)
            if expected is not None:
                refused += 1
                self.assert_no_row(desk, row, expected)
            elif words[0] != "rail":
                self.assert_refused("NoRail", desk.say, row)
        self.assertGreater(refused, 1000)
        self.assertLess(refused, 2800)


class RefusedTest(DeskCase):
    def test_before_a_rail_stands(self):
        desk = Desk()
        for row in GOOD:
            if not row.startswith("rail"):
                self.assert_refused("NoRail", desk.say, row)
        for row in ("hand 9 5", "thing 9 999 999", "thing 0 5 256", "got 9", "wrong 9 9", "hand 0 256"):
            self.assert_refused("NoRail", desk.say, row)
        self.assert_no_row(desk, "got x", 1)
        for row in ("rail 2 0/0", "rail 3 256/0", "rail 3" + " 0/0" * 6):
            self.assert_refused("NoPost", desk.say, row)
            self.assert_refused("NoRail", desk.say, "got 0")

    def test_no_thing_before_what_the_rail_refuses(self):
        desk = self.busy_desk()
        for row in (
            "thing 0 5 256", "thing 9 5 256", "thing 0 256 256", "thing 0 4 256", "thing 0 5 999999",
            "thing 0 5 9 256", "thing 9 300 9 1 2 256", "thing 0 5 9" + " 0" * 76, "thing 9 4 9" + " 0" * 80,
        ):
            self.assert_refused("NoThing", desk.say, row)

    def test_what_the_rail_refuses(self):
        desk = self.busy_desk()
        for row, name in (
            ("rail 0 0/0", "NoPost"), ("rail 2 0/0", "NoPost"), ("rail 6 0/0", "NoPost"), ("rail 3 256/0", "NoPost"),
            ("rail 3 0/0 0/256", "NoPost"), ("rail 3" + " 0/0" * 6, "NoPost"), ("rail 3" + " 0/0" * 9, "NoPost"),
            ("hand 3 5", "NoPost"), ("hand 3 256", "NoPost"), ("hand 3 4 256", "NoPost"), ("hand 0 256", "NoFrame"),
            ("hand 0 999999", "NoFrame"), ("hand 0 5 256", "NoFrame"), ("hand 0 4 256", "NoFrame"),
            ("hand 0 5 1 2 3 4 5 6 7 8", "NoFrame"), ("hand 0 4", "NoName"), ("hand 2 5 1", "NoName"),
            ("thing 3 5 9", "NoPost"), ("thing 3 256 9", "NoPost"), ("thing 0 256 9 1 2", "NoFrame"),
            ("thing 0 4 9 1 2 3 4 5 6", "NoName"), ("wrong 3 0", "NoPost"), ("wrong 3 500", "NoPost"),
            ("draw 3 0 5", "NoPost"), ("draw 3 5 0", "NoPost"), ("got 3", "NoPost"), ("waits 3", "NoPost"),
            ("things 3 4", "NoPost"), ("stance 3", "NoPost"), ("faults 3", "NoPost"), ("got 999999", "NoPost"),
        ):
            self.assert_refused(name, desk.say, row)

    def test_a_refused_row_leaves_all_as_it_was(self):
        desk = self.busy_desk()
        before = state_of(desk)
        for row in (
            "", "run", "run 2001", "run 5 5", "bits 0 401", "rail 2 0/0", "rail 3 0/0 256/0", "rail 3", "hand 3 7",
            "hand 0 7 256", "hand 0 4", "hand 0 7 1 2 3 4 5 6 7 8", "thing 0 7 256 1", "thing 0 4 9 1 2 3 4 5 6 7",
            "thing 0 256 9 1 2 3 4 5 6 7", "thing 3 7 9 1", "wrong 3 160", "draw 3 0 5", "got 7", "wrong 0 160 1",
            "thing 0 7 9" + " 0" * 76,
        ):
            with self.assertRaises(ValueError):
                desk.say(row)
            self.assertEqual(state_of(desk), before, row)
        # The name 7 was only in refused rows, so it belongs to no post; the wrong bits told are as they were.
        self.assert_says(desk, "hand 1 7", "ok")
        other = self.busy_desk()
        other.say("hand 1 7")
        for one in (desk, other):
            one.say("run 400")
        self.assertEqual(state_of(desk), state_of(other))


class AnswersTest(DeskCase):
    def test_a_rail(self):
        desk = Desk()
        for votes in (1, 3, 5):
            for many in range(1, 6):
                self.assert_says(desk, f"rail {votes}" + " 255/255" * many, "ok")
                self.assert_says(desk, f"stance {many - 1}", "free 0")
                self.assert_refused("NoPost", desk.say, f"stance {many}")

    def test_a_rails_choices_and_votes(self):
        desk = self.desk("rail 5 0/0 1/1 1/0 255/8", "hand 0 9 1", "hand 0 8", "run 200")
        for post, told in enumerate(("", "9:1", "8:", "8:")):
            self.assert_says(desk, f"got {post}", told)
        rail = Rail([(0, 0), (1, 1), (1, 0), (255, 8)], 5)
        rail.hand(0, 9, [1])
        rail.hand(0, 8, [])
        self.assert_says(desk, "bits 0 200", "".join(str(bit) for bit in rail.run(200, None)))

    def test_a_new_rail(self):
        desk = self.busy_desk()
        desk.say("wrong 0 3")
        self.assert_says(desk, "rail 3 0/0 0/0 1/0", "ok")
        self.assertEqual(state_of(desk), state_of(self.desk("rail 3 0/0 0/0 1/0")))
        for row in ("hand 2 4 1", "hand 1 5 1", "run 300"):
            desk.say(row)
        self.assert_says(desk, "got 0", "4:1 5:1")
        self.assertEqual([desk.say(f"faults {post}") for post in range(3)], ["0", "0", "0"])

    def test_hand_and_waits(self):
        desk = self.desk("rail 3 0/0 0/0")
        self.assert_says(desk, "waits 0", "")
        self.assert_says(desk, "hand 0 5", "ok")
        self.assert_says(desk, "waits 0", "5:")
        self.assert_says(desk, "hand 0 255 1 2 3 4 5 6 255", "ok")
        self.assert_says(desk, "hand 0 0 0", "ok")
        self.assert_says(desk, "waits 0", "5: 255:1.2.3.4.5.6.255 0:0")
        self.assert_says(desk, "waits 1", "")

    def test_thing(self):
        desk = self.desk("rail 3 0/0 0/0")
        for many, pieces in ((0, 1), (1, 1), (5, 1), (6, 2), (70, 14), (71, 15), (75, 15)):
            self.assert_says(desk, " ".join(["thing 0 5 9"] + ["7"] * many), f"ok {pieces}")
        desk = self.desk("rail 3 0/0 0/0", "hand 0 4", "thing 0 5 9 1 2 3 4 5 6", "thing 0 5 10")
        self.assert_says(desk, "waits 0", "4: 5:9.32.1.2.3.4.5 5:9.33.6 5:10.16")

    def test_run_and_stance(self):
        desk = self.desk("rail 3 0/0 0/0")
        self.assert_says(desk, "run 7", "ok")
        self.assert_says(desk, "stance 0", "free 7")
        self.assert_says(desk, "run 0", "ok")
        self.assert_says(desk, "stance 1", "free 7")
        desk.say("hand 0 5 6")
        desk.say("run 4")
        self.assert_says(desk, "stance 0", "speaks 4")
        self.assert_says(desk, "stance 1", "reads 4")
        desk.say("run 36")
        self.assert_says(desk, "stance 0", "tail speaks 2")
        self.assert_says(desk, "stance 1", "tail reads 2")
        desk.say("run 10")
        self.assert_says(desk, "stance 0", "rests 3")

    def test_wrong_and_faults(self):
        desk = self.desk("rail 3 0/0 0/0", "wrong 0 5", "wrong 0 5", "run 5")
        self.assert_says(desk, "faults 0", "0")
        desk.say("run 1")
        self.assert_says(desk, "stance 0", "reads 1")
        self.assert_says(desk, "stance 1", "free 6")
        desk.say("run 60")
        self.assert_says(desk, "faults 0", "9")
        self.assert_says(desk, "faults 1", "1")

    def test_wrong_in_a_turn_that_is_over(self):
        desk = self.desk("rail 3 0/0 0/0", "run 10")
        for turn in (0, 5, 9):
            self.assert_says(desk, f"wrong 1 {turn}", "ok")
        before = desk.say("draw 1 0 10")
        desk.say("run 20")
        self.assert_says(desk, "stance 1", "free 30")
        self.assertEqual(desk.say("draw 1 0 10"), before)
        self.assert_says(desk, "wrong 1 30", "ok")
        desk.say("run 1")
        self.assert_says(desk, "stance 1", "reads 1")

    def test_wrong_far_ahead_and_over_many_runs(self):
        wrong = [(0, 3), (1, 40), (2, 77), (0, 300), (1, 999999)]
        desk = self.desk("rail 3 0/0 0/0 0/0", "hand 0 5 6", "hand 1 4", "hand 2 3 1 2 3")
        for post, turn in wrong:
            desk.say(f"wrong {post} {turn}")
        for turns in (1, 3, 60, 0, 36, 300):
            desk.say(f"run {turns}")
        rail = Rail([(0, 0)] * 3, 3)
        rail.hand(0, 5, [6])
        rail.hand(1, 4, [])
        rail.hand(2, 3, [1, 2, 3])
        rail.run(400, ear(wrong))
        self.assert_says(desk, "bits 0 400", "".join(str(bit) for bit in rail.bits()))
        for post in range(3):
            strips = desk.say(f"draw {post} 0 400").split(" / ")
            self.assertEqual(read_strips(strips), (0, rail.heard(post)))
            self.assert_says(desk, f"faults {post}", str(rail.faults(post)))

    def test_bits(self):
        desk = self.desk("rail 3 0/0 0/0", "hand 0 5 6", "run 50")
        rail = Rail([(0, 0)] * 2, 3)
        rail.hand(0, 5, [6])
        bits = "".join(str(bit) for bit in rail.run(50, None))
        for start, end in ((0, 50), (0, 400), (7, 20), (7, 8), (49, 50), (49, 60), (10, 410)):
            self.assert_says(desk, f"bits {start} {end}", bits[start:end])
        for start, end in ((0, 0), (7, 7), (7, 3), (50, 0), (49, 0), (50, 60), (60, 50), (900, 1200), (999999, 0)):
            self.assert_says(desk, f"bits {start} {end}", "")

    def test_draw(self):
        desk = self.desk("rail 3 0/0 0/0", "hand 0 5 6", "wrong 1 8", "run 100")
        rail = Rail([(0, 0)] * 2, 3)
        rail.hand(0, 5, [6])
        rail.run(100, ear([(1, 8)]))
        for post in (0, 1):
            signs = "".join("_-"[bit] for bit in rail.heard(post))
            self.assert_says(desk, f"draw {post} 0 5", "000000 " + signs[:5])
            self.assert_says(desk, f"draw {post} 7 47", "000007 " + signs[7:47])
            self.assert_says(desk, f"draw {post} 7 48", "000007 " + signs[7:47] + " / 000047 " + signs[47])
            self.assert_says(
                desk, f"draw {post} 3 400",
                "000003 " + signs[3:43] + " / 000043 " + signs[43:83] + " / 000083 " + signs[83:],
            )
            for start, end in ((0, 0), (9, 3), (99, 0), (100, 120), (200, 100), (999999, 999999)):
                self.assert_says(desk, f"draw {post} {start} {end}", "")
        self.assertNotEqual(desk.say("draw 0 8 9"), desk.say("draw 1 8 9"))

    def test_got(self):
        desk = self.desk("rail 1 0/0 0/0", "hand 0 5", "hand 0 255 0 255", "hand 0 5 7", "run 300")
        self.assert_says(desk, "got 0", "")
        self.assert_says(desk, "got 1", "5: 255:0.255 5:7")
        self.assert_says(desk, "waits 0", "")

    def test_two_desks_are_apart(self):
        one = self.busy_desk()
        other = Desk()
        self.assert_refused("NoRail", other.say, "got 0")
        other.say("rail 1 0/0")
        self.assert_says(other, "bits 0 400", "")
        self.assertNotEqual(one.say("bits 0 400"), "")


class ThingsTest(DeskCase):
    def test_things_so_far_and_at_the_end(self):
        desk = self.desk("rail 1 0/0 0/0", "thing 0 5 9 1 2 3 4 5 6", "thing 0 5 10", "thing 0 5 11 255")
        self.assert_says(desk, "things 1 5", "")
        rows = []
        for _ in range(300):
            desk.say("run 1")
            told = desk.say("things 1 5")
            if told != (rows or [""])[-1]:
                rows.append(told)
        whole = "whole 9 1.2.3.4.5.6"
        self.assertEqual(rows, ["broken 9", whole, whole + "; whole 10", whole + "; whole 10; whole 11 255"])
        self.assert_says(desk, "things 0 5", "")
        self.assert_says(desk, "things 1 4", "")
        self.assert_says(desk, "things 1 999999", "")

    def test_only_frames_of_that_name(self):
        desk = self.desk(
            "rail 1 0/0 0/0", "hand 0 5 9 32 1 2 3 4 5", "hand 0 6 8 16", "hand 0 5 9 33 6", "hand 0 6 7 33 1",
            "hand 0 30", "run 600",
        )
        self.assert_says(desk, "things 1 5", "whole 9 1.2.3.4.5.6")
        self.assert_says(desk, "things 1 6", "whole 8; broken 7")
        self.assert_says(desk, "things 1 30", "")

    def test_data_that_is_no_piece_is_passed_over(self):
        desk = self.desk(
            "rail 1 0/0 0/0", "hand 0 5 9 32 1 2 3 4 5", "hand 0 5", "hand 0 5 9", "hand 0 5 9 0", "hand 0 5 9 33",
            "hand 0 5 9 18 1", "hand 0 5 9 33 6", "hand 0 5 8 33 6", "hand 0 5 8 33 6", "run 900",
        )
        self.assert_says(desk, "things 1 5", "whole 9 1.2.3.4.5.6; broken 8")

    def test_an_open_thing_is_broken_at_the_end_alone(self):
        desk = self.desk("rail 1 0/0 0/0", "hand 0 5 9 32 1 2 3 4 5", "run 200")
        for _ in range(2):
            self.assert_says(desk, "things 1 5", "broken 9")
        desk.say("hand 0 5 9 33 6")
        desk.say("run 200")
        self.assert_says(desk, "things 1 5", "whole 9 1.2.3.4.5.6")


class WholeTest(DeskCase):
    """Points 1 to 6, over the desk."""

    def row(self, head, numbers):
        return " ".join([head] + [str(number) for number in numbers])

    def run_till(self, desk, turns):
        while turns > 0:
            desk.say(f"run {min(turns, 2000)}")
            turns -= 2000

    def test_things_with_a_wrong_bit(self):
        for seed in range(12):
            votes = (3, 5)[seed % 2]
            many = 2 + seed % 4
            desk = self.desk(f"rail {votes}" + " 0/0" * many)
            expected = []
            for post in range(many):
                told = []
                for tag in (254, 255, 0):
                    thing = some_thing(seed + post + tag, (seed * 7 + post * 5 + tag) % 20)
                    head = f"thing {post} {10 + post} {tag}"
                    self.assert_says(desk, self.row(head, thing), f"ok {len(cut(tag, thing))}")
                    told.append(f"whole {tag} " + ".".join(str(byte) for byte in thing) if thing else f"whole {tag}")
                expected.append("; ".join(told))
            desk.say(f"wrong {seed % many} {seed * 97 % 700}")
            self.run_till(desk, 6000)
            for post in range(many):
                self.assert_says(desk, f"waits {post}", "")
                for other in range(many):
                    told = "" if other == post else expected[other]
                    self.assert_says(desk, f"things {post} {10 + other}", told)

    def test_the_longest_thing(self):
        thing = some_thing(3, 75)
        desk = self.desk("rail 3 0/0 0/0", self.row("thing 0 5 9", thing), "wrong 1 100", "run 2000")
        self.assert_says(desk, "things 1 5", "whole 9 " + ".".join(str(byte) for byte in thing))

    def test_a_post_that_hears_wrong_in_each_try_is_off(self):
        desk = self.desk("rail 3 0/0 0/0 0/0", "thing 0 5 9 1 2 3", "thing 2 6 1 4")
        turn = 0
        while desk.say("stance 1") != "off 0":
            if desk.say("stance 1") == "tail reads 3":
                desk.say(f"wrong 1 {turn}")
            desk.say("run 1")
            turn += 1
            self.assertLess(turn, 300)
        desk.say("run 300")
        self.assert_says(desk, "things 2 5", "whole 9 1.2.3")
        self.assert_says(desk, "things 0 6", "whole 1 4")
        for post in (0, 2):
            self.assertRegex(desk.say(f"stance {post}"), "^free ")

    def test_the_same_rows_tell_the_same(self):
        self.assertEqual(state_of(self.busy_desk()), state_of(self.busy_desk()))


if __name__ == "__main__":
    unittest.main()
