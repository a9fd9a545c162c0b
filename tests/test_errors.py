"""Point 19 and the interface of errors: what each refusal stands under, and its fields."""

import unittest

from skewhouse import errors
from skewhouse.errors import Broken, SkewError, Waits

PLAIN = ["NoNumber", "NoDeed", "NoProgram", "NoLevel", "NoDealing", "NoHistory", "TooMany", "NoRow"]
CLASSES = [getattr(errors, name) for name in PLAIN] + [Waits, Broken]


def made(kind):
    if kind is Waits:
        return Waits(3, [1, 2])
    if kind is Broken:
        return Broken(3, ("own",))
    return kind("some words")


class RefusalClassesTest(unittest.TestCase):
    def test_any_refusal_is_a_value_error(self):
        self.assertEqual(SkewError.__bases__, (ValueError,))

    def test_each_stands_right_under_skew_error(self):
        for kind in CLASSES:
            with self.subTest(kind.__name__):
                self.assertEqual(kind.__bases__, (SkewError,))

    def test_none_stands_under_another(self):
        for kind in CLASSES:
            for other in CLASSES:
                if kind is not other:
                    with self.subTest(f"{kind.__name__} {other.__name__}"):
                        self.assertNotIsInstance(made(kind), other)

    def test_each_is_raised_and_taken_by_its_name(self):
        for kind in CLASSES:
            for taken in (kind, SkewError, ValueError):
                with self.subTest(f"{kind.__name__} {taken.__name__}"):
                    with self.assertRaises(taken):
                        raise made(kind)

    def test_each_has_words(self):
        for kind in CLASSES:
            with self.subTest(kind.__name__):
                self.assertIsInstance(str(made(kind)), str)


class FieldsTest(unittest.TestCase):
    def test_waits_has_its_two_fields(self):
        for dealing, others in [(3, [1, 2]), (1, []), (8, [7])]:
            refusal = Waits(dealing, others)
            self.assertEqual(refusal.dealing, dealing)
            self.assertEqual(refusal.others, others)
            self.assertIs(type(refusal.others), list)

    def test_broken_has_its_two_fields(self):
        reasons = [("own",), ("ring", (1, 2)), ("first", 5, 2), ("edges", 1, 5, 2, 6, 3)]
        for why in reasons:
            refusal = Broken(4, why)
            self.assertEqual(refusal.dealing, 4)
            self.assertEqual(refusal.why, why)
            self.assertIs(type(refusal.why), tuple)

    def test_fields_are_named_arguments(self):
        self.assertEqual(Waits(others=[2], dealing=1).others, [2])
        self.assertEqual(Broken(why=("own",), dealing=1).why, ("own",))

    def test_waits_neither_changes_its_list_nor_follows_it(self):
        others = [2, 4]
        refusal = Waits(1, others)
        self.assertEqual(others, [2, 4])
        others.append(5)
        self.assertEqual(refusal.others, [2, 4])

    def test_two_refusals_know_nothing_of_each_other(self):
        one, other = Waits(1, [2]), Waits(3, [4])
        self.assertEqual((one.dealing, one.others), (1, [2]))
        self.assertEqual((other.dealing, other.others), (3, [4]))

    def test_a_reason_with_a_very_long_number_can_be_made_and_told(self):
        why = ("first", 10 ** 5000, 2)
        refusal = Broken(1, why)
        self.assertEqual(refusal.why, why)
        self.assertIsInstance(str(refusal), str)

    def test_a_dealing_with_a_very_long_number_can_be_refused(self):
        for refusal in [Waits(10 ** 5000, [10 ** 5001]), Broken(10 ** 5000, ("own",))]:
            self.assertTrue(refusal.dealing == 10 ** 5000)
            self.assertIsInstance(str(refusal), str)


if __name__ == "__main__":
    unittest.main()
