"""The refusals of the interface, waithouse/errors.py."""

import unittest

from waithouse import errors

REFUSALS = ("NoLink", "NoRoom", "NoTime", "NoName", "NoKeep", "NoRow")
STEPS = [("gap", "tea", "high"), ("set", 0, "low"), ("open", 1, "low")]


def made(name):
    if name == "NoKeep":
        return errors.NoKeep(list(STEPS))
    return getattr(errors, name)("some words")


class Refusals(unittest.TestCase):
    def test_wait_error_is_a_value_error(self):
        self.assertEqual(errors.WaitError.__bases__, (ValueError,))

    def test_each_stands_under_wait_error(self):
        for name in REFUSALS:
            with self.subTest(name=name):
                self.assertTrue(issubclass(getattr(errors, name), errors.WaitError))
                self.assertEqual(getattr(errors, name).__name__, name)

    def test_none_stands_under_another_one(self):
        for one in REFUSALS:
            for other in REFUSALS:
                if one != other:
                    with self.subTest(one=one, other=other):
                        self.assertFalse(issubclass(getattr(errors, one), getattr(errors, other)))

    def test_each_is_taken_as_wait_error_and_as_value_error(self):
        for name in REFUSALS:
            for base in (errors.WaitError, ValueError):
                with self.subTest(name=name, base=base), self.assertRaises(base):
                    raise made(name)

    def test_each_can_be_shown(self):
        for name in REFUSALS:
            with self.subTest(name=name):
                self.assertIsInstance(str(made(name)), str)


class Steps(unittest.TestCase):
    def test_steps_are_set_when_it_is_made(self):
        steps = errors.NoKeep(list(STEPS)).steps
        self.assertEqual(steps, STEPS)
        self.assertIs(type(steps), list)
        self.assertTrue(all(type(step) is tuple for step in steps))

    def test_steps_are_there_on_the_raised_error(self):
        with self.assertRaises(errors.NoKeep) as caught:
            raise errors.NoKeep(list(STEPS))
        self.assertEqual(caught.exception.steps, STEPS)

    def test_list_handed_in_is_not_kept(self):
        handed = list(STEPS)
        refusal = errors.NoKeep(handed)
        self.assertEqual(handed, STEPS)
        handed.clear()
        self.assertEqual(refusal.steps, STEPS)

    def test_each_object_has_steps_of_its_own(self):
        handed = list(STEPS)
        one = errors.NoKeep(handed)
        other = errors.NoKeep(handed)
        one.steps.clear()
        self.assertEqual(other.steps, STEPS)
        self.assertEqual(handed, STEPS)

    def test_other_refusals_have_no_steps(self):
        for name in REFUSALS:
            if name != "NoKeep":
                with self.subTest(name=name):
                    self.assertFalse(hasattr(made(name), "steps"))


if __name__ == "__main__":
    unittest.main()
