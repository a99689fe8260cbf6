"""Tests of hushsteps.comparing, point [19], and of [1], [2], [3] as far as they speak of it."""

import random
import unittest

from hushsteps.comparing import alike, parting
from hushsteps.sleepers import Sleeper, heard, hummed, ticked
from samples import RULES, SORTS, light, small_sleeper


def sleeper_of(sorts, stir=2, doze=2, near=1, loud="nothing"):
    return Sleeper(list(sorts.items()), stir, doze, near, loud)


def behind(sleeper, state, letter):
    """The state behind a letter."""
    kind, _, word = letter.partition(" ")
    if kind == "tick":
        return ticked(sleeper, state)
    return heard(sleeper, state, word) if kind == "noise" else hummed(sleeper, state, word)


def woken_behind(sleeper, letters):
    """Whether a sleeper is woken behind each part of a row of letters, from the empty one on."""
    state = ("asleep",)
    told = [False]
    for letter in letters:
        state = behind(sleeper, state, letter)
        told.append(state == ("woken",))
    return told


def reckoned(p, q):
    """The length of the shortest row that parts, layer by layer, or None."""
    names = [name for name, sort in p.sorts + q.sorts] + ["zzzz"]
    letters = [f"noise {name}" for name in names] + ["tick", "hum up", "hum doze"]
    seen, layer, length = set(), {(("asleep",), ("asleep",))}, 0
    while layer:
        if any((one == ("woken",)) != (other == ("woken",)) for one, other in layer):
            return length
        seen |= layer
        layer = {(behind(p, one, letter), behind(q, other, letter)) for one, other in layer for letter in letters}
        layer -= seen
        length += 1
    return None


class ComparingCase(unittest.TestCase):
    def assert_length(self, wanted, p, q):
        """That a shortest row that parts has this length, or that they are alike (None); either way about."""
        for one, other in ((p, q), (q, p)):
            shown = (str(one), str(other))
            self.assertEqual(reckoned(one, other), wanted, shown)
            told = parting(one, other)
            self.assertIs(alike(one, other), wanted is None, shown)
            if wanted is None:
                self.assertIsNone(told, shown)
            else:
                self.assertIs(type(told), tuple)
                self.assertEqual(len(told), wanted, shown)
                apart = [a != b for a, b in zip(woken_behind(one, told), woken_behind(other, told))]
                self.assertEqual(apart, [False] * wanted + [True], shown)
                for letter in told:
                    self.assertIn(letter.partition(" ")[0], ("noise", "tick", "hum"))


class Examples(ComparingCase):
    def test_as_in_the_document(self):
        nearer = Sleeper([("gate", "soft"), ("plnk", "sudden")], 2, 3, 2, "again")
        self.assertIs(alike(light(), nearer), True)
        longer = Sleeper.read("stir 3 doze 3 near 1 loud again gate soft plnk sudden")
        self.assertEqual(parting(light(), longer), ("noise gate", "tick", "tick"))
        self.assert_length(None, light(), nearer)
        self.assert_length(3, light(), longer)

    def test_by_parameter_names(self):
        self.assertIs(alike(q=light(), p=light()), True)
        self.assertIsNone(parting(q=light(), p=light()))

    def test_a_sleeper_and_one_of_its_text(self):
        chance = random.Random(70)
        for _ in range(30):
            sleeper = small_sleeper(chance, ["a", "b", "c"])
            self.assert_length(None, sleeper, sleeper)
            self.assert_length(None, sleeper, Sleeper.read(str(sleeper)))

    def test_the_same_calls_again(self):
        p, q = light(), sleeper_of({"gate": "soft"})
        told = parting(p, q)
        for _ in range(2):
            self.assert_length(1, p, q)
            self.assert_length(None, p, light())
        self.assertEqual(parting(p, q), told)
        self.assertEqual((p, q), (light(), sleeper_of({"gate": "soft"})))


class Names(ComparingCase):
    def test_names_that_only_one_hears(self):
        empty = sleeper_of({})
        for sort, length in (("loud", 1), ("sudden", 1), ("soft", 3), ("faint", None)):
            self.assert_length(length, sleeper_of({"a": sort}), empty)
            self.assert_length(length, sleeper_of({"a": sort, "b": "loud"}), sleeper_of({"b": "loud"}))

    def test_a_faint_name_more(self):
        # It is heard only by another faint one near by, or as what makes one forget another.
        self.assert_length(2, sleeper_of({"a": "faint", "b": "faint"}), sleeper_of({"b": "faint"}))
        self.assert_length(2, sleeper_of({"a": "faint", "b": "faint", "c": "faint"}),
                           sleeper_of({"b": "faint", "a": "faint"}))
        self.assert_length(None, sleeper_of({"a": "faint"}), sleeper_of({"b": "faint"}))

    def test_names_that_nobody_hears(self):
        self.assert_length(None, sleeper_of({}), sleeper_of({}, 5, 4, 2, "wake"))

    def test_sorts_that_differ(self):
        for one, other, length in (("loud", "soft", 1), ("sudden", "soft", 1), ("loud", "faint", 1),
                                   ("sudden", "faint", 1), ("soft", "faint", 3)):
            self.assert_length(length, sleeper_of({"a": one}), sleeper_of({"a": other}))

    def test_loud_or_sudden(self):
        # Told apart only by what a loud noise does to one who dozes or stirs.
        for loud, length in (("nothing", None), ("wake", 2), ("again", 5)):
            self.assert_length(length, sleeper_of({"a": "loud"}, loud=loud), sleeper_of({"a": "sudden"}, loud=loud))
            self.assert_length(2, sleeper_of({"a": "loud", "b": "soft"}, loud=loud),
                               sleeper_of({"a": "sudden", "b": "soft"}, loud=loud))

    def test_other_names_of_the_same_sorts(self):
        self.assert_length(1, sleeper_of({"a": "loud"}), sleeper_of({"b": "loud"}))


class Times(ComparingCase):
    def test_stir(self):
        for one in range(1, 6):
            for other in range(1, 6):
                length = None if one == other else min(one, other) + 1
                self.assert_length(length, sleeper_of({"a": "soft"}, stir=one), sleeper_of({"a": "soft"}, stir=other))
                self.assert_length(None, sleeper_of({"a": "loud"}, stir=one), sleeper_of({"a": "loud"}, stir=other))

    def test_doze(self):
        for one in range(1, 6):
            for other in range(1, 6):
                length = None if one == other else min(one, other) + 2
                for sort in ("loud", "sudden"):
                    self.assert_length(length, sleeper_of({"a": sort}, doze=one), sleeper_of({"a": sort}, doze=other))
                p, q = sleeper_of({"a": "faint"}, doze=one), sleeper_of({"a": "faint"}, doze=other)
                self.assert_length(None, p, q)

    def test_near(self):
        for sorts, length in (({"a": "faint", "b": "faint"}, 4), ({"a": "faint", "b": "soft"}, None),
                              ({"a": "faint"}, None), ({"a": "loud"}, None), ({}, None)):
            self.assert_length(length, sleeper_of(sorts, near=1), sleeper_of(sorts, near=2))

    def test_loud(self):
        for one in RULES:
            for other in RULES:
                self.assert_length(None, sleeper_of({"a": "sudden"}, loud=one), sleeper_of({"a": "sudden"}, loud=other))
                if one != other:
                    length = 2 if "wake" in (one, other) else 5
                    p, q = sleeper_of({"a": "loud"}, loud=one), sleeper_of({"a": "loud"}, loud=other)
                    self.assert_length(length, p, q)

    def test_dozing_anew_for_one_tick(self):
        # If dozing lasts for a tick alone, it makes no odds that it begins anew.
        p, q = sleeper_of({"a": "loud"}, doze=1, loud="again"), sleeper_of({"a": "loud"}, doze=1, loud="nothing")
        self.assert_length(None, p, q)

    def test_beyond_the_limits(self):
        sorts = {name: "faint" for name in "abcdefgh"}
        self.assert_length(11, sleeper_of(sorts, near=8), sleeper_of(sorts, near=9))
        self.assert_length(None, sleeper_of(sorts, stir=30), sleeper_of(sorts, stir=31))


class AgainstASearch(ComparingCase):
    def test_any_two(self):
        chance = random.Random(71)
        for _ in range(150):
            p, q = small_sleeper(chance, ["a", "b"]), small_sleeper(chance, ["a", "b"])
            self.assert_length(reckoned(p, q), p, q)

    def test_two_that_are_nearly_alike(self):
        chance = random.Random(72)
        lengths = []
        for _ in range(300):
            p = small_sleeper(chance, ["a", "b", "c"])
            sorts, stir, doze, near, loud = dict(p.sorts), p.stir, p.doze, p.near, p.loud
            if chance.random() < 0.3:
                sorts[chance.choice("abcd")] = chance.choice(SORTS)
            else:
                stir, doze = chance.choice([stir, chance.randint(1, 3)]), chance.choice([doze, chance.randint(1, 3)])
                near, loud = chance.choice([near, 3 - near]), chance.choice([loud, chance.choice(RULES)])
            q = sleeper_of(sorts, stir, doze, near, loud)
            lengths.append(reckoned(p, q))
            self.assert_length(lengths[-1], p, q)
        self.assertTrue({None, 1, 2, 3, 4} <= set(lengths), set(lengths))


if __name__ == "__main__":
    unittest.main()
