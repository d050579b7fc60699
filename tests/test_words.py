"""[1.2], and what [2] says a whole number is."""

import unittest

from voicefold.words import is_name, is_whole

SMALL_LETTERS = "abcdefghijklmnopqrstuvwxyz"


class Whole(int):
    """An int of a class of its own, still an int."""


class EqualToAll:
    """A thing that claims to be equal to anything."""

    def __eq__(self, other):
        return True


class Wholes(unittest.TestCase):
    def test_numbers_small_great_and_below_nought(self):
        for number in (0, 1, -1, 7, 1000000, -1000000, 10 ** 80, -(10 ** 80), Whole(4)):
            with self.subTest(number=number):
                self.assertIs(is_whole(number), True)

    def test_truths_are_none(self):
        self.assertIs(is_whole(True), False)
        self.assertIs(is_whole(False), False)

    def test_things_of_other_kinds_are_none(self):
        for thing in (None, "", "1", b"1", 1.0, 0.0, 1j, (), (1,), [], [1], {}, {1: 1}, {1}, int, object(),
                      EqualToAll()):
            with self.subTest(thing=thing):
                self.assertIs(is_whole(thing), False)

    def test_by_its_name(self):
        self.assertIs(is_whole(thing=3), True)
        self.assertIs(is_whole(thing="3"), False)


class Names(unittest.TestCase):
    def test_each_small_letter(self):
        for letter in SMALL_LETTERS:
            with self.subTest(letter=letter):
                self.assertIs(is_name(letter), True)

    def test_from_one_to_eight_signs(self):
        for many in range(11):
            with self.subTest(many=many):
                self.assertIs(is_name("z" * many), 1 <= many <= 8)
        self.assertIs(is_name(SMALL_LETTERS), False)

    def test_ordinary_names(self):
        for name in ("a", "ann", "berta", "abcdefgh", "stuvwxyz", "true", "none"):
            with self.subTest(name=name):
                self.assertIs(is_name(name), True)

    def test_other_signs_at_every_place(self):
        others = ("A", "Z", "0", "9", " ", "\n", "\t", "\0", "_", "-", ".", "'", "`", "{", "@", "\u00e4", "\u00df",
                  "\u00aa", "\u0430", "\u4e00", "\U0001d41a", "\uff41", "\u0301")
        for sign in others:
            for name in (sign, sign + "bc", "a" + sign + "c", "ab" + sign):
                with self.subTest(name=name):
                    self.assertIs(is_name(name), False)

    def test_things_of_other_kinds(self):
        for thing in (None, True, False, 0, 1, 97, 1.5, b"a", b"abc", bytearray(b"a"), ("a",), ["a"], ["a", "b"],
                      {"a": 1}, {"a"}, (), [], {}, str, object(), EqualToAll()):
            with self.subTest(thing=thing):
                self.assertIs(is_name(thing), False)

    def test_by_its_name(self):
        self.assertIs(is_name(thing="ann"), True)
        self.assertIs(is_name(thing="Ann"), False)


class Both(unittest.TestCase):
    def test_nothing_handed_in_is_changed(self):
        thing = ["a", ["b"]]
        is_whole(thing)
        is_name(thing)
        self.assertEqual(thing, ["a", ["b"]])

    def test_asked_again_told_alike(self):
        for thing in (5, True, "ann", "Ann", None):
            self.assertIs(is_whole(thing), is_whole(thing))
            self.assertIs(is_name(thing), is_name(thing))

    def test_defined_in_the_file_of_words(self):
        self.assertEqual((is_whole.__module__, is_name.__module__), ("voicefold.words", "voicefold.words"))


if __name__ == "__main__":
    unittest.main()
