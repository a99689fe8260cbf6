"""Tests of hushsteps.sleepers: points [6], [7], [8], and [1], [2], [3] as far as they speak of sleepers."""

import itertools
import unittest

from hushsteps.errors import HushError, InvalidHouse, InvalidSleeper, InvalidText
from hushsteps.houses import House
from hushsteps.sleepers import Sleeper, first_state, heard, hummed, ticked

LIGHT = "stir 2 doze 3 near 1 loud again gate soft plnk sudden"
ORDER = ("sorts", "stir", "doze", "near", "loud")
RULES = ("again", "nothing", "wake")
SORTS = ("faint", "loud", "soft", "sudden")

# A name of each sort, and a second faint one; other names are not heard.
NAMES = (("bang", "loud"), ("crk", "sudden"), ("drip", "faint"), ("hiss", "soft"), ("tick", "faint"))
STATES = (
    ("up",), ("dozing", 1), ("dozing", 4), ("asleep",), ("asleep", "drip", 0), ("asleep", "drip", 2),
    ("asleep", "tick", 1), ("stirring", 1), ("stirring", 3), ("woken",),
)


def light():
    return Sleeper([("gate", "soft"), ("plnk", "sudden")], 2, 3, 1, "again")


def full(loud="again", near=2):
    return Sleeper(NAMES, 3, 4, near, loud)


def house():
    return House(3, [(0, 1, "gate")])


def deep(value):
    """A value nested eight deep."""
    for _ in range(8):
        value = [value]
    return value


def others():
    """Any values that are no sequences, integers or names."""
    return [None, True, False, house(), light(), InvalidText(0)]


def no_rows():
    """Any values that are no sequences."""
    return others() + [0, 1, -1, "", "gate", "gate soft", "()"]


def no_names():
    """Any values that are no names."""
    return others() + [
        0, 1, "", "abcde", "A", "Gate", "ga t", "g1", "1", "-", "a-", " a", "a ", "a\n", "\n", "\u00e9", "a_", "`", "{",
        [], (), ["a"], ("a",), deep("a"),
    ]


def no_counts():
    """Any values that are no integers from 1 on."""
    return others() + [0, -1, -7, "", "1", "a", [], (), [1], (1,), deep(1)]


class SleeperCase(unittest.TestCase):
    def assert_invalid(self, word, *arguments, **named):
        with self.assertRaises(InvalidSleeper) as caught:
            Sleeper(*arguments, **named)
        self.assertEqual(caught.exception.word, word, (arguments, named))
        self.assertIs(type(caught.exception), InvalidSleeper)

    def assert_no_text(self, text):
        with self.assertRaises(InvalidText) as caught:
            Sleeper.read(text)
        self.assertEqual(caught.exception.at, 0, text)
        self.assertIs(type(caught.exception.at), int)

    def assert_text_of_none(self, word, text):
        with self.assertRaises(InvalidSleeper) as caught:
            Sleeper.read(text)
        self.assertEqual(caught.exception.word, word, text)

    def assert_like(self, sleeper, *wanted):
        self.assertEqual((sleeper.sorts, sleeper.stir, sleeper.doze, sleeper.near, sleeper.loud), wanted)
        self.assertIs(type(sleeper.sorts), tuple)
        for pair in sleeper.sorts:
            self.assertIs(type(pair), tuple)

    def assert_state(self, state, wanted):
        self.assertEqual(state, wanted)
        self.assertIs(type(state), tuple)


class Attributes(SleeperCase):
    def test_as_in_the_document(self):
        self.assert_like(light(), (("gate", "soft"), ("plnk", "sudden")), 2, 3, 1, "again")

    def test_sorts_in_every_order_and_kind(self):
        for row in itertools.permutations(NAMES):
            self.assert_like(Sleeper(row, 1, 2, 3, "wake"), NAMES, 1, 2, 3, "wake")
            self.assert_like(Sleeper(list(row), 1, 2, 3, "wake"), NAMES, 1, 2, 3, "wake")

    def test_no_sorts(self):
        self.assert_like(Sleeper([], 1, 1, 1, "nothing"), (), 1, 1, 1, "nothing")
        self.assert_like(Sleeper((), 5, 5, 2, "wake"), (), 5, 5, 2, "wake")

    def test_each_sort_and_each_rule(self):
        for sort, rule in itertools.product(SORTS, RULES):
            self.assert_like(Sleeper([("a", sort)], 1, 2, 3, rule), (("a", sort),), 1, 2, 3, rule)

    def test_by_parameter_names(self):
        named = Sleeper(loud="again", near=1, doze=3, stir=2, sorts=[("plnk", "sudden"), ("gate", "soft")])
        self.assertEqual(named, light())

    def test_a_list_that_is_changed_afterwards(self):
        sorts = [("plnk", "sudden"), ("gate", "soft")]
        sleeper = Sleeper(sorts, 2, 3, 1, "again")
        self.assertEqual(sorts, [("plnk", "sudden"), ("gate", "soft")])
        sorts.append(("a", "loud"))
        sorts[0] = ("gate", "faint")
        self.assert_like(sleeper, (("gate", "soft"), ("plnk", "sudden")), 2, 3, 1, "again")
        self.assertEqual(str(sleeper), LIGHT)
        self.assertEqual(heard(sleeper, ("asleep",), "a"), ("asleep",))
        self.assertEqual(heard(sleeper, ("asleep",), "gate"), ("stirring", 2))

    def test_beyond_the_limits(self):
        sorts = [(name, "faint") for name in "abcdefghijklmnopqrstuvwxyz"]
        self.assert_like(Sleeper(sorts, 60, 700, 80, "wake"), tuple(sorts), 60, 700, 80, "wake")

    def test_not_iterable(self):
        for use in (iter, list, tuple, set, sorted, len, lambda s: [*s], lambda s: "gate" in s, lambda s: s[0]):
            with self.assertRaises(TypeError):
                use(light())


class WrongArguments(SleeperCase):
    def test_sorts_is_no_sequence(self):
        for value in no_rows():
            self.assert_invalid("sorts", value, 1, 1, 1, "again")

    def test_a_thing_that_is_no_pair(self):
        wrong = no_rows() + [
            (), [], ("a",), ("a", "soft", "soft"), ["a", "soft"], [("a", "soft")], (("a", "soft"),), ("soft", "a"),
            deep("a"),
            "ab", ("a", "b"),
        ]
        for value in wrong:
            for kind in (list, tuple):
                self.assert_invalid("sorts", kind([value]), 1, 1, 1, "again")
                self.assert_invalid("sorts", kind([("b", "soft"), value]), 1, 1, 1, "again")
                self.assert_invalid("sorts", kind([value, ("b", "soft")]), 1, 1, 1, "again")

    def test_names_that_are_none(self):
        for value in no_names():
            self.assert_invalid("sorts", [(value, "soft")], 1, 1, 1, "again")

    def test_sorts_that_are_none(self):
        for value in others() + [0, "", "Soft", "softs", "sof", "hard", "soft ", [], ["soft"], ("soft",), "again"]:
            self.assert_invalid("sorts", [("a", value)], 1, 1, 1, "again")
            self.assert_invalid("sorts", [("b", "soft"), ("a", value)], 1, 1, 1, "again")

    def test_a_name_twice(self):
        self.assert_invalid("sorts", [("a", "soft"), ("a", "loud")], 1, 1, 1, "again")
        self.assert_invalid("sorts", [("a", "soft"), ("a", "soft")], 1, 1, 1, "again")
        self.assert_invalid("sorts", (("a", "soft"), ("b", "soft"), ("a", "faint")), 1, 1, 1, "again")

    def test_counts(self):
        right = {"sorts": [], "stir": 1, "doze": 1, "near": 1, "loud": "wake"}
        for word in ("stir", "doze", "near"):
            for value in no_counts():
                named = dict(right)
                named[word] = value
                self.assert_invalid(word, **named)
                self.assert_invalid(word, *[named[key] for key in ORDER])

    def test_loud(self):
        words = ["", "Again", "wakes", "nothin", "loud", "again ", "soft"]
        for value in others() + words + [0, 1, [], ["again"], ("wake",), deep("wake")]:
            self.assert_invalid("loud", [], 1, 1, 1, value)

    def test_the_first_of_several_wrong_arguments(self):
        wrong = {"sorts": [("a", "b")], "stir": 0, "doze": True, "near": None, "loud": "soft"}
        right = {"sorts": [("a", "soft")], "stir": 1, "doze": 1, "near": 1, "loud": "wake"}
        for many in range(1, 6):
            for words in itertools.combinations(ORDER, many):
                named = {word: (wrong if word in words else right)[word] for word in ORDER}
                self.assert_invalid(words[0], **named)
                self.assert_invalid(words[0], *[named[word] for word in ORDER])

    def test_nothing_else_than_invalid_sleeper_for_any_values(self):
        values = no_rows() + no_counts() + [[("a", [])], [([], "soft")], [("a", "soft")]]
        for value, other in itertools.product(values, repeat=2):
            for arguments in ((value, other, 1, 1, "wake"), ([], 1, value, other, "wake"), ([], 1, 1, value, other)):
                try:
                    Sleeper(*arguments)
                except InvalidSleeper as error:
                    self.assertIn(error.word, ORDER)


class Texts(SleeperCase):
    def test_as_in_the_document(self):
        self.assertEqual(str(light()), LIGHT)
        self.assertEqual(Sleeper.read(LIGHT), light())

    def test_texts(self):
        self.assertEqual(str(Sleeper([], 1, 12, 3, "nothing")), "stir 1 doze 12 near 3 loud nothing")
        self.assertEqual(
            str(Sleeper(NAMES[::-1], 5, 4, 2, "wake")),
            "stir 5 doze 4 near 2 loud wake bang loud crk sudden drip faint hiss soft tick faint",
        )

    def test_reading_what_was_written(self):
        bare, odd = Sleeper([], 99, 98, 97, "wake"), Sleeper([("loud", "loud")], 1, 1, 1, "wake")
        for sleeper in (light(), full(), full("nothing"), bare, odd):
            again = Sleeper.read(str(sleeper))
            self.assertEqual(again, sleeper)
            self.assert_like(again, sleeper.sorts, sleeper.stir, sleeper.doze, sleeper.near, sleeper.loud)
            self.assertEqual(str(again), str(sleeper))

    def test_pairs_in_any_order(self):
        pairs = [f"{name} {sort}" for name, sort in NAMES]
        for row in itertools.permutations(pairs):
            self.assertEqual(Sleeper.read(" ".join(["stir 3 doze 4 near 2 loud again", *row])), full())

    def test_by_parameter_name(self):
        self.assertEqual(Sleeper.read(text=LIGHT), light())
        self.assertEqual(full().read(LIGHT), light())

    def test_a_word_left_out(self):
        words = LIGHT.split(" ")
        for at in range(len(words)):
            self.assert_no_text(" ".join(words[:at] + words[at + 1:]))

    def test_words_left_out_at_the_end(self):
        words = LIGHT.split(" ")
        for many in range(len(words)):
            text = " ".join(words[:many])
            if many in (8, 10):
                self.assertEqual(len(Sleeper.read(text).sorts), (many - 8) // 2)
            else:
                self.assert_no_text(text)

    def test_a_word_put_in(self):
        words = LIGHT.split(" ")
        for at, word in itertools.product(range(len(words) + 1), ("stir", "1", "again", "gate", "soft", "", "x")):
            self.assert_no_text(" ".join(words[:at] + [word] + words[at:]))

    def test_a_word_otherwise(self):
        words = LIGHT.split(" ")
        for at, word in enumerate(words):
            upper = word.upper() if word.upper() != word else "01"
            for other in ("", "-", word + "x" * 9, upper, word + "\n", word + "\t", "\u00e9"):
                self.assert_no_text(" ".join(words[:at] + [other] + words[at + 1:]))

    def test_numbers(self):
        for place, number in itertools.product((1, 3, 5), (
            "02", "00", "002", "100", "-1", "+1", "1.", "a", "", "\u0662", "\u00b2", "1_0", "one", "0x1",
        )):
            words = LIGHT.split(" ")
            words[place] = number
            self.assert_no_text(" ".join(words))

    def test_words_of_sorts_and_rules(self):
        head = "stir 2 doze 3 near 1 loud "
        for tail in (
            "soft", "Again", "wakes", "", "again gate", "again gate gate", "again soft gate", "again gates soft",
            "again gate Soft", "again gate soft plnk", "again gate soft plnk plnk", "again 1 soft", "again gate 1",
            "again gate again", "again - soft", "again GATE soft", "again gate soft gate", "again gate none",
        ):
            self.assert_no_text(head + tail)
        self.assert_no_text("again gate soft " + head)
        self.assert_no_text("doze 3 stir 2 near 1 loud again")
        self.assert_no_text("stir 2 doze 3 loud again near 1")
        self.assert_no_text("2 stir 3 doze 1 near again loud")

    def test_blanks_and_newlines(self):
        for text in (
            "", " ", "\n", " " + LIGHT, LIGHT + " ", LIGHT + "\n", "\n" + LIGHT, LIGHT.replace(" ", "  "),
            LIGHT.replace(" ", "\n"), LIGHT.replace(" ", "\t"), LIGHT + "\r", LIGHT.replace(" gate", "\ngate"),
            LIGHT.replace("loud again", "loud  again"), LIGHT.replace("gate soft", "gate  soft"),
            "stir 2 doze 3 near 1 loud again ", "stir 2 doze 3 near 1 loud again\n",
            "stir 2 doze 3 near 1 loud again  ",
        ):
            self.assert_no_text(text)

    def test_texts_of_no_sleeper(self):
        self.assert_text_of_none("sorts", "stir 2 doze 3 near 1 loud again gate soft gate loud")
        self.assert_text_of_none("sorts", "stir 2 doze 3 near 1 loud again gate soft b loud gate soft")
        self.assert_text_of_none("stir", "stir 0 doze 3 near 1 loud again")
        self.assert_text_of_none("doze", "stir 2 doze 0 near 1 loud again")
        self.assert_text_of_none("near", "stir 2 doze 3 near 0 loud again a soft")

    def test_the_first_wrong_argument_of_a_text(self):
        self.assert_text_of_none("sorts", "stir 0 doze 0 near 0 loud again a soft a soft")
        self.assert_text_of_none("stir", "stir 0 doze 0 near 0 loud again a soft")
        self.assert_text_of_none("doze", "stir 1 doze 0 near 0 loud again a soft")

    def test_the_form_is_checked_ahead_of_the_sleeper(self):
        self.assert_no_text("stir 0 doze 3 near 1 loud never")
        self.assert_no_text("stir 0 doze 3 near 01 loud again")
        self.assert_no_text("stir 2 doze 3 near 1 loud again a soft a")
        self.assert_no_text("stir 2 doze 3 near 1 loud again a soft a soft b c")


class Equality(SleeperCase):
    def test_equal(self):
        self.assertTrue(light() == light())
        self.assertFalse(light() != light())
        self.assertTrue(Sleeper(NAMES[::-1], 3, 4, 2, "again") == full())

    def test_unlike_in_one_argument(self):
        sorts = [("gate", "soft"), ("plnk", "sudden")]
        unlike = [
            Sleeper(sorts[:1], 2, 3, 1, "again"), Sleeper(sorts + [("a", "faint")], 2, 3, 1, "again"),
            Sleeper([("gate", "soft"), ("plnk", "soft")], 2, 3, 1, "again"),
            Sleeper([("gate", "soft"), ("plno", "sudden")], 2, 3, 1, "again"),
            Sleeper(sorts, 3, 3, 1, "again"), Sleeper(sorts, 2, 2, 1, "again"), Sleeper(sorts, 2, 3, 2, "again"),
            Sleeper(sorts, 2, 3, 1, "wake"), Sleeper(sorts, 2, 3, 1, "nothing"),
        ]
        for sleeper in unlike:
            self.assertFalse(sleeper == light())
            self.assertTrue(sleeper != light())
        for one, other in itertools.combinations(unlike, 2):
            self.assertFalse(one == other)

    def test_equal_as_their_texts(self):
        sleepers = [Sleeper(sorts, *rest) for sorts, *rest in itertools.product(
            ([], [("a", "soft")], [("a", "soft"), ("b", "loud")], [("b", "loud"), ("a", "soft")]),
            (1, 2), (1, 2), (1, 2), RULES)]
        for one, other in itertools.product(sleepers, repeat=2):
            self.assertIs(one == other, str(one) == str(other))

    def test_things_of_other_classes(self):
        class Whatever:
            def __eq__(self, other):
                return True

        for thing in (None, True, 0, LIGHT, (), [], light().sorts, house(), object(), Sleeper, InvalidHouse("x")):
            self.assertIs(light() == thing, False)
            self.assertIs(light() != thing, True)
            self.assertIs(thing == light(), False)
        self.assertIs(light() == Whatever(), False)


class Beginnings(SleeperCase):
    def test_first_states(self):
        self.assert_state(first_state(light(), "asleep"), ("asleep",))
        self.assert_state(first_state(light(), "dozing"), ("dozing", 3))
        self.assert_state(first_state(light(), "up"), ("up",))
        self.assert_state(first_state(full(), "dozing"), ("dozing", 4))

    def test_by_parameter_names(self):
        self.assert_state(first_state(first="dozing", sleeper=light()), ("dozing", 3))


class Hearing(SleeperCase):
    def test_as_in_the_document(self):
        sleeper = light()
        self.assertEqual(
            (heard(sleeper, ("asleep",), "gate"), heard(sleeper, ("stirring", 2), "plnk"),
             ticked(sleeper, ("stirring", 1)), heard(sleeper, ("asleep",), "plnk")),
            (("stirring", 2), ("stirring", 2), ("woken",), ("woken",)),
        )

    def test_by_parameter_names(self):
        self.assert_state(heard(noise="gate", state=("asleep",), sleeper=light()), ("stirring", 2))

    def test_noises_that_are_not_heard(self):
        for rule, state, noise in itertools.product(RULES, STATES, ("a", "zzzz", "ban", "ba", "drop")):
            self.assert_state(heard(full(rule), state, noise), state)
        for state in STATES:
            self.assert_state(heard(Sleeper([], 1, 1, 1, "wake"), state, "bang"), state)

    def test_up_and_woken(self):
        for rule, (name, sort) in itertools.product(RULES, NAMES):
            self.assert_state(heard(full(rule), ("up",), name), ("up",))
            self.assert_state(heard(full(rule), ("woken",), name), ("woken",))

    def test_dozing_and_a_loud_noise(self):
        for left in (1, 2, 3, 4):
            self.assert_state(heard(full("again"), ("dozing", left), "bang"), ("dozing", 4))
            self.assert_state(heard(full("nothing"), ("dozing", left), "bang"), ("dozing", left))
            self.assert_state(heard(full("wake"), ("dozing", left), "bang"), ("woken",))

    def test_dozing_and_other_noises(self):
        for rule, left, name in itertools.product(RULES, (1, 2, 4), ("crk", "drip", "hiss", "tick")):
            self.assert_state(heard(full(rule), ("dozing", left), name), ("dozing", left))

    def test_asleep(self):
        for rule in RULES:
            self.assert_state(heard(full(rule), ("asleep",), "bang"), ("woken",))
            self.assert_state(heard(full(rule), ("asleep",), "crk"), ("woken",))
            self.assert_state(heard(full(rule), ("asleep",), "hiss"), ("stirring", 3))
            self.assert_state(heard(full(rule), ("asleep",), "drip"), ("asleep", "drip", 0))
            self.assert_state(heard(full(rule), ("asleep",), "tick"), ("asleep", "tick", 0))

    def test_asleep_with_a_kept_noise(self):
        for rule, ago in itertools.product(RULES, (0, 1, 2)):
            self.assert_state(heard(full(rule), ("asleep", "drip", ago), "bang"), ("woken",))
            self.assert_state(heard(full(rule), ("asleep", "drip", ago), "crk"), ("woken",))
            self.assert_state(heard(full(rule), ("asleep", "drip", ago), "hiss"), ("stirring", 3))
            self.assert_state(heard(full(rule), ("asleep", "drip", ago), "drip"), ("asleep", "drip", 0))
            self.assert_state(heard(full(rule), ("asleep", "drip", ago), "tick"), ("woken",))
            self.assert_state(heard(full(rule), ("asleep", "tick", ago), "drip"), ("woken",))
            self.assert_state(heard(full(rule), ("asleep", "tick", ago), "tick"), ("asleep", "tick", 0))

    def test_stirring(self):
        for rule, left in itertools.product(RULES, (1, 2, 3)):
            self.assert_state(heard(full(rule), ("stirring", left), "bang"), ("woken",))
            for name in ("crk", "drip", "hiss", "tick"):
                self.assert_state(heard(full(rule), ("stirring", left), name), ("stirring", left))

    def test_the_same_again(self):
        sleeper = full()
        for state, (name, sort) in itertools.product(STATES, NAMES):
            self.assertEqual(heard(sleeper, state, name), heard(sleeper, state, name))
        self.assertEqual(sleeper, full())


class Ticking(SleeperCase):
    def test_by_parameter_names(self):
        self.assert_state(ticked(state=("dozing", 2), sleeper=light()), ("dozing", 1))

    def test_states_that_stay(self):
        for state in (("up",), ("asleep",), ("woken",)):
            self.assert_state(ticked(full(), state), state)

    def test_dozing(self):
        self.assert_state(ticked(full(), ("dozing", 4)), ("dozing", 3))
        self.assert_state(ticked(full(), ("dozing", 2)), ("dozing", 1))
        self.assert_state(ticked(full(), ("dozing", 1)), ("asleep",))

    def test_stirring(self):
        self.assert_state(ticked(full(), ("stirring", 3)), ("stirring", 2))
        self.assert_state(ticked(full(), ("stirring", 2)), ("stirring", 1))
        self.assert_state(ticked(full(), ("stirring", 1)), ("woken",))

    def test_kept_noises(self):
        for near in (1, 2, 3):
            for ago in range(near):
                self.assert_state(ticked(full(near=near), ("asleep", "drip", ago)), ("asleep", "drip", ago + 1))
            self.assert_state(ticked(full(near=near), ("asleep", "drip", near)), ("asleep",))


class Humming(SleeperCase):
    def test_by_parameter_names(self):
        self.assert_state(hummed(word="up", state=("asleep",), sleeper=light()), ("up",))

    def test_from_each_state(self):
        for state in STATES:
            if state != ("woken",):
                self.assert_state(hummed(full(), state, "up"), ("up",))
                self.assert_state(hummed(full(), state, "doze"), ("dozing", 4))

    def test_who_is_woken_stays_so(self):
        self.assert_state(hummed(full(), ("woken",), "up"), ("woken",))
        self.assert_state(hummed(full(), ("woken",), "doze"), ("woken",))


class Rows(SleeperCase):
    """What happens to a sleeper, one thing after another."""

    def state_behind(self, sleeper, first, *row):
        state = first_state(sleeper, first)
        for word in row:
            if word == ".":
                state = ticked(sleeper, state)
            elif word in ("up", "doze"):
                state = hummed(sleeper, state, word)
            else:
                state = heard(sleeper, state, word)
        return state

    def test_the_same_faint_noise_again(self):
        for row in (("drip",) * 5, ("drip", ".", "drip", ".", "drip")):
            self.assertEqual(self.state_behind(full(), "asleep", *row), ("asleep", "drip", 0))

    def test_another_faint_noise_near_by_and_later(self):
        for near in (1, 2, 3):
            for ticks in range(6):
                wanted = ("woken",) if ticks <= near else ("asleep", "tick", 0)
                row = ["drip"] + ["."] * ticks + ["tick"]
                self.assertEqual(self.state_behind(full(near=near), "asleep", *row), wanted)

    def test_the_same_faint_noise_keeps_it_near(self):
        row = ["drip", ".", ".", "drip", ".", ".", "tick"]
        self.assertEqual(self.state_behind(full(near=2), "asleep", *row), ("woken",))

    def test_stirring_until_woken(self):
        self.assertEqual(self.state_behind(full(), "asleep", "hiss", ".", "."), ("stirring", 1))
        self.assertEqual(self.state_behind(full(), "asleep", "hiss", ".", ".", "."), ("woken",))
        self.assertEqual(self.state_behind(full(), "asleep", "hiss", ".", ".", "hiss", "."), ("woken",))

    def test_hummed_in_time_and_too_late(self):
        self.assertEqual(self.state_behind(full(), "asleep", "hiss", ".", ".", "up", "."), ("up",))
        self.assertEqual(self.state_behind(full(), "asleep", "hiss", ".", ".", ".", "up"), ("woken",))

    def test_dozing_until_asleep(self):
        self.assertEqual(self.state_behind(full(), "dozing", ".", ".", ".", "."), ("asleep",))
        self.assertEqual(self.state_behind(full(), "up", "doze", ".", ".", "."), ("dozing", 1))
        self.assertEqual(self.state_behind(full(), "dozing", ".", ".", ".", "bang", "."), ("dozing", 3))

    def test_a_faint_noise_is_not_kept_while_dozing(self):
        self.assertEqual(self.state_behind(full(), "dozing", ".", ".", ".", "drip", ".", "tick"), ("asleep", "tick", 0))


class Families(SleeperCase):
    def test_errors_are_those_of_the_package(self):
        for work in (lambda: Sleeper([], 0, 1, 1, "wake"), lambda: Sleeper.read("")):
            with self.assertRaises(HushError):
                work()


if __name__ == "__main__":
    unittest.main()
