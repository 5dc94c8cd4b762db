"""Points 8 and 9: the classes of errors and their attributes."""

from greatestback import errors
from greatestback.errors import GreatestbackError
from greatestback.tables import Table
from support import HUGE, ODD, Case

CLASSES = [
    ("BadText", ["line"]), ("BadName", ["name"]), ("BadEdit", ["edit"]), ("BadTable", ["row"]),
    ("BadPaper", ["paper"]), ("BadPlace", ["place"]), ("BadLot", ["lot"]), ("NoName", ["name"]),
    ("NoFit", ["edit"]), ("UnlikeSizes", ["first", "second"]), ("NotSquare", ["sides"]),
    ("NotOrder", ["fault"]), ("NotJoined", ["lot"]), ("NotRectangular", ["fault"]),
    ("TooMany", ["many", "limit"]), ("NoWayBack", ["paper"]),
]


class Errors(Case):

    def test_the_base_class_is_a_value_error(self):
        self.assertEqual(GreatestbackError.__bases__, (ValueError,))

    def test_each_class_derives_directly_from_the_base_class(self):
        for name, _ in CLASSES:
            self.assertEqual(getattr(errors, name).__bases__, (GreatestbackError,), name)

    def test_there_are_no_other_classes(self):
        found = [name for name, value in vars(errors).items()
                 if isinstance(value, type) and issubclass(value, GreatestbackError)]
        self.assertEqual(found, ["GreatestbackError"] + [name for name, _ in CLASSES])

    def test_attributes_are_what_was_passed_whatever_it_is(self):
        for name, attributes in CLASSES:
            for value in ODD:
                values = [value, (value, [value])][:len(attributes)]
                by_place = getattr(errors, name)(*values)
                by_name = getattr(errors, name)(**dict(zip(reversed(attributes), reversed(values))))
                for error in [by_place, by_name]:
                    self.same([getattr(error, attribute) for attribute in attributes], values)

    def test_attributes_are_in_the_sequence_of_the_parameters(self):
        self.assertEqual((errors.TooMany(9, 8).many, errors.TooMany(9, 8).limit), (9, 8))
        unlike = errors.UnlikeSizes((1, 2), (3, 4))
        self.assertEqual((unlike.first, unlike.second), ((1, 2), (3, 4)))

    def test_each_can_be_raised_and_caught_by_the_base_class(self):
        for name, attributes in CLASSES:
            with self.assertRaises(GreatestbackError) as caught:
                raise getattr(errors, name)(*[0 for _ in attributes])
            self.assertIs(type(caught.exception), getattr(errors, name))

    def test_making_one_never_fails(self):
        nested = []
        for _ in range(3000):
            nested = [nested]
        for value in [HUGE, nested, Table([]), object()]:
            for name, attributes in CLASSES:
                error = getattr(errors, name)(*[value for _ in attributes])
                self.assertIs(getattr(error, attributes[0]), value)
