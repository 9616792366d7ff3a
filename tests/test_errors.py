import copy
import pickle
import unittest

from millpath.errors import BadRow, Bites, Cuts, Meets, MillError, NoTool, NoWay, Round


class Errors(unittest.TestCase):
    def test_all_stand_straight_under_mill_error(self):
        self.assertEqual(MillError.__bases__, (ValueError,))
        for kind in (NoTool, NoWay, Round, Meets, Bites, Cuts, BadRow):
            self.assertEqual(kind.__bases__, (MillError,))

    def test_made_with_words(self):
        for kind in (MillError, NoTool, NoWay, Round):
            with self.assertRaises(kind) as caught:
                raise kind("words of its own")
            self.assertEqual(str(caught.exception), "words of its own")

    def test_fields(self):
        for kind in (Meets, Bites):
            self.assertEqual(kind((3, -4)).spot, (3, -4))
            self.assertEqual(kind(spot=(3, -4)).spot, (3, -4))
        told = Cuts(2, (5, 6, 3))
        self.assertEqual((told.layer, told.quarter), (2, (5, 6, 3)))
        told = Cuts(quarter=(5, 6, 3), layer=0)
        self.assertEqual((told.layer, told.quarter), (0, (5, 6, 3)))
        self.assertEqual(BadRow(0).row, 0)
        self.assertEqual(BadRow(row=17).row, 17)

    def test_a_list_that_was_handed_in_is_not_kept(self):
        spot, quarter = [1, 2], [3, 4, 0]
        errors = [Meets(spot), Bites(spot), Cuts(1, quarter)]
        spot[0] = quarter[0] = 9
        self.assertEqual([error.spot for error in errors[:2]], [(1, 2)] * 2)
        self.assertEqual(errors[2].quarter, (3, 4, 0))
        self.assertEqual([error.args for error in errors], [((1, 2),), ((1, 2),), (1, (3, 4, 0))])

    def test_a_copy_has_the_same_fields(self):
        for error in (Meets((1, 2)), Bites((1, 2)), Cuts(1, (3, 4, 0)), BadRow(3)):
            for other in (copy.copy(error), pickle.loads(pickle.dumps(error))):
                self.assertEqual(vars(other), vars(error))
                self.assertIs(type(other), type(error))


if __name__ == "__main__":
    unittest.main()
