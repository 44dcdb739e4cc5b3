import unittest

from everymending import errors
from everymending.errors import BadText, MendError, NoKept, NoPlan, NoQuestion, NoRow, NoSchema

NAMES = ["NoSchema", "NoRow", "NoPlan", "NoQuestion", "BadText", "NoKept"]


class Classes(unittest.TestCase):
    def test_the_base_class_is_a_value_error(self):
        self.assertEqual(MendError.__name__, "MendError")
        self.assertEqual(MendError.__bases__, (ValueError,))

    def test_the_others_are_directly_under_it(self):
        for name in NAMES:
            with self.subTest(name=name):
                found = getattr(errors, name)
                self.assertEqual(found.__name__, name)
                self.assertEqual(found.__bases__, (MendError,))

    def test_all_are_defined_in_this_file(self):
        for name in ["MendError"] + NAMES:
            with self.subTest(name=name):
                self.assertEqual(getattr(errors, name).__module__, "everymending.errors")

    def test_none_is_under_another_one(self):
        made = [NoSchema(), NoRow(), NoPlan(), NoQuestion(0), BadText(0, 0), NoKept(1)]
        classes = [getattr(errors, name) for name in NAMES]
        for i, error in enumerate(made):
            for j, other in enumerate(classes):
                with self.subTest(error=NAMES[i], other=NAMES[j]):
                    self.assertEqual(isinstance(error, other), i == j)

    def test_each_can_be_raised_and_caught(self):
        made = [NoSchema(), NoRow(), NoPlan(), NoQuestion(0), BadText(0, 0), NoKept(1)]
        for error, name in zip(made, NAMES):
            for caught in [getattr(errors, name), MendError, ValueError]:
                with self.subTest(name=name, caught=caught.__name__):
                    with self.assertRaises(caught) as context:
                        raise error
                    self.assertIs(context.exception, error)


class Attributes(unittest.TestCase):
    def test_join_of_no_question(self):
        for index in [0, 1, 7, 8, 100]:
            with self.subTest(index=index):
                join = NoQuestion(index).join
                self.assertEqual(join, index)
                self.assertIs(type(join), int)

    def test_join_may_be_none(self):
        self.assertIsNone(NoQuestion(None).join)

    def test_line_and_at_of_bad_text(self):
        for line, at in [(0, 0), (0, 11), (3, 0), (2, 5), (5, 2), (19999, 20000)]:
            with self.subTest(line=line, at=at):
                error = BadText(line, at)
                self.assertEqual((error.line, error.at), (line, at))
                self.assertEqual((type(error.line), type(error.at)), (int, int))

    def test_number_of_no_kept(self):
        for number in [0, 1, 2, -1, 41, -10**30, 10**30]:
            with self.subTest(number=number):
                found = NoKept(number).number
                self.assertEqual(found, number)
                self.assertIs(type(found), int)

    def test_a_number_of_any_size(self):
        great = 10**5000
        self.assertTrue(NoKept(great).number == great)
        self.assertTrue(NoKept(-great).number == -great)

    def test_each_object_has_its_own_values(self):
        first, second = NoQuestion(3), NoQuestion(None)
        self.assertEqual((first.join, second.join), (3, None))
        first, second = BadText(1, 2), BadText(3, 4)
        self.assertEqual((first.line, first.at, second.line, second.at), (1, 2, 3, 4))
        first, second = NoKept(5), NoKept(6)
        self.assertEqual((first.number, second.number), (5, 6))

    def test_they_are_there_when_the_error_is_caught(self):
        with self.assertRaises(NoQuestion) as context:
            raise NoQuestion(2)
        self.assertEqual(context.exception.join, 2)
        with self.assertRaises(BadText) as context:
            raise BadText(4, 9)
        self.assertEqual((context.exception.line, context.exception.at), (4, 9))
        with self.assertRaises(NoKept) as context:
            raise NoKept(12)
        self.assertEqual(context.exception.number, 12)


if __name__ == "__main__":
    unittest.main()
