"""The error classes of promises [2] and [19]."""

import copy
import pickle
import unittest

from overlooks import errors

HUGE = 10 ** 6000

# name, built-in class, attribute, values of its kind
WITH_VALUE = (
    ("BadText", ValueError, "text", ("", "3 1 3", "\x00\n")),
    ("BadLine", ValueError, "number", (0, 7)),
    ("Known", ValueError, "height", (1, 10 ** 9)),
    ("Contradiction", ValueError, "cycle", ([0, 1], [2, 0, 1])),
    ("Gap", ValueError, "index", (0, 28)),
    ("NoPerson", LookupError, "height", (6, 0, -1, HUGE, -HUGE)),
    ("NoPlace", LookupError, "place", (3, 0, -1, HUGE, -HUGE)),
    ("NoNumber", LookupError, "number", (8, 0, -1, HUGE, -HUGE)),
    ("NoOperation", LookupError, "many", (3, 0, -1, HUGE, -HUGE)),
    ("Blocked", RuntimeError, "pair", ((0, 1), (-1, 5), (HUGE, -HUGE))),
    ("Barred", RuntimeError, "height", (1, 10 ** 9)),
    ("TooMany", OverflowError, "many", (301, 20922789888000)),
    ("Full", OverflowError, "many", (16,)),
)
BASES = {"OtherPeople": ValueError, **{name: base for name, base, _, _ in WITH_VALUE}}


class Classes(unittest.TestCase):
    def test_there_are_fourteen(self):
        self.assertEqual(len(BASES), 14)
        for name in BASES:
            self.assertIsInstance(getattr(errors, name), type, name)

    def test_each_is_directly_under_its_built_in_class_alone(self):
        for name, base in BASES.items():
            self.assertEqual(getattr(errors, name).__bases__, (base,), name)

    def test_the_class_has_its_name(self):
        for name in BASES:
            self.assertEqual(getattr(errors, name).__name__, name)


class Creation(unittest.TestCase):
    def cases(self):
        for name, base, attribute, values in WITH_VALUE:
            for value in values:
                yield getattr(errors, name), base, attribute, value

    def assert_stores(self, error, attribute, value):
        self.assertEqual(vars(error), {attribute: value})
        self.assertIs(type(getattr(error, attribute)), type(value))

    def test_by_position(self):
        for made, _, attribute, value in self.cases():
            self.assert_stores(made(value), attribute, value)

    def test_by_name(self):
        for made, _, attribute, value in self.cases():
            self.assert_stores(made(**{attribute: value}), attribute, value)

    def test_raised_and_caught_by_the_built_in_class(self):
        for made, base, attribute, value in self.cases():
            with self.assertRaises(base) as caught:
                raise made(value)
            self.assertIs(type(caught.exception), made)
            self.assert_stores(caught.exception, attribute, value)

    def test_each_takes_exactly_one_value(self):
        for name, _, attribute, values in WITH_VALUE:
            made = getattr(errors, name)
            with self.assertRaises(TypeError, msg=name):
                made()
            with self.assertRaises(TypeError, msg=name):
                made(values[0], values[0])
            with self.assertRaises(TypeError, msg=name):
                made(**{"other_" + attribute: values[0]})

    def test_other_people_takes_none(self):
        self.assertEqual(vars(errors.OtherPeople()), {})
        with self.assertRaises(TypeError):
            errors.OtherPeople(1)
        with self.assertRaises(TypeError):
            errors.OtherPeople(height=1)
        with self.assertRaises(ValueError):
            raise errors.OtherPeople()

    def test_copies_and_pickles(self):
        for made, _, attribute, value in self.cases():
            error = made(value)
            self.assert_stores(copy.copy(error), attribute, value)
            self.assert_stores(pickle.loads(pickle.dumps(error)), attribute, value)
        self.assertIs(type(copy.copy(errors.OtherPeople())), errors.OtherPeople)


class ListsAndTuples(unittest.TestCase):
    def test_a_list_may_stand_for_the_pair(self):
        self.assertEqual(errors.Blocked([0, 1]).pair, (0, 1))
        self.assertEqual(errors.Blocked(pair=[0, 1]).pair, (0, 1))

    def test_a_tuple_may_stand_for_the_cycle(self):
        self.assertEqual(errors.Contradiction((0, 1)).cycle, [0, 1])
        self.assertEqual(errors.Contradiction(cycle=(0, 1)).cycle, [0, 1])

    def test_later_changes_have_no_effect(self):
        cycle = [0, 1]
        error = errors.Contradiction(cycle)
        cycle.append(2)
        self.assertEqual(error.cycle, [0, 1])
        pair = [0, 1]
        error = errors.Blocked(pair)
        pair[0] = 5
        self.assertEqual(error.pair, (0, 1))

    def test_arguments_do_not_change(self):
        cycle = [2, 0, 1]
        errors.Contradiction(cycle).cycle.append(7)
        self.assertEqual(cycle, [2, 0, 1])
        pair = [0, 1]
        errors.Blocked(pair)
        self.assertEqual(pair, [0, 1])


if __name__ == "__main__":
    unittest.main()
