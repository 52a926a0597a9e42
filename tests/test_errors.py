import unittest

from pegrise.errors import Against, Full, NoNumber, NoSighting, NoText, NoWay, PegError

KINDS = (NoSighting, Full, Against, NoNumber, NoWay, NoText)
WORDED = (NoSighting, Full, NoNumber, NoText)


class Standing(unittest.TestCase):
    def test_peg_error_is_a_value_error(self):
        self.assertTrue(issubclass(PegError, ValueError))
        self.assertIsNot(PegError, ValueError)

    def test_each_stands_under_peg_error(self):
        for kind in KINDS:
            with self.subTest(kind=kind.__name__):
                self.assertTrue(issubclass(kind, PegError))
                self.assertTrue(issubclass(kind, ValueError))
                self.assertIsNot(kind, PegError)

    def test_none_stands_under_a_fellow(self):
        for kind in KINDS:
            fellows = [fellow for fellow in KINDS if fellow.__name__ != kind.__name__]
            self.assertEqual(len(fellows), 5)
            for fellow in fellows:
                with self.subTest(kind=kind.__name__, fellow=fellow.__name__):
                    self.assertFalse(issubclass(kind, fellow))

    def test_peg_error_stands_under_none_of_them(self):
        for kind in KINDS:
            with self.subTest(kind=kind.__name__):
                self.assertFalse(issubclass(PegError, kind))

    def test_each_bears_its_name(self):
        names = [kind.__name__ for kind in KINDS]
        self.assertEqual(names, ["NoSighting", "Full", "Against", "NoNumber", "NoWay", "NoText"])


class Raising(unittest.TestCase):
    def test_those_without_a_field_are_taken_as_peg_errors(self):
        for kind in (PegError,) + WORDED:
            for above in (kind, PegError, ValueError):
                with self.subTest(kind=kind.__name__, above=above.__name__):
                    with self.assertRaises(above) as caught:
                        raise kind("words")
                    self.assertIs(type(caught.exception), kind)

    def test_against_is_taken_with_its_trail(self):
        for above in (Against, PegError, ValueError):
            with self.subTest(above=above.__name__):
                with self.assertRaises(above) as caught:
                    raise Against([(1, "a", "b", 5)])
                self.assertEqual(caught.exception.trail, [(1, "a", "b", 5)])

    def test_no_way_is_taken_with_its_near(self):
        for above in (NoWay, PegError, ValueError):
            with self.subTest(above=above.__name__):
                with self.assertRaises(above) as caught:
                    raise NoWay(["a", "b"])
                self.assertEqual(caught.exception.near, ["a", "b"])


class Fields(unittest.TestCase):
    def test_trail_is_set_when_made(self):
        for trail in ([], [(1, "a", "b", 5)], [(2, "c", "b", -7), (1, "b", "a", -5)]):
            with self.subTest(trail=trail):
                error = Against(trail)
                self.assertIsInstance(error.trail, list)
                self.assertEqual(error.trail, trail)

    def test_near_is_set_when_made(self):
        for near in (["a"], ["a", "ab", "b"]):
            with self.subTest(near=near):
                error = NoWay(near)
                self.assertIsInstance(error.near, list)
                self.assertEqual(error.near, near)

    def test_each_object_has_a_field_of_its_own(self):
        first, second = Against([(1, "a", "b", 5)]), Against([])
        self.assertEqual(first.trail, [(1, "a", "b", 5)])
        self.assertEqual(second.trail, [])
        third, fourth = NoWay(["a"]), NoWay(["b", "c"])
        self.assertEqual(third.near, ["a"])
        self.assertEqual(fourth.near, ["b", "c"])

    def test_neither_is_made_without_its_field(self):
        for kind in (Against, NoWay):
            with self.subTest(kind=kind.__name__):
                with self.assertRaises(TypeError):
                    kind()

    def test_the_list_handed_in_is_neither_kept_nor_changed(self):
        trail, near = [(1, "a", "b", 5)], ["a", "b"]
        against, no_way = Against(trail), NoWay(near)
        self.assertEqual(trail, [(1, "a", "b", 5)])
        self.assertEqual(near, ["a", "b"])
        trail.append((2, "b", "c", 1))
        near.append("c")
        self.assertEqual(against.trail, [(1, "a", "b", 5)])
        self.assertEqual(no_way.near, ["a", "b"])
        self.assertFalse(any(kept is trail for kept in against.args))
        self.assertFalse(any(kept is near for kept in no_way.args))

    def test_the_list_told_is_the_askers_own(self):
        trail, near = [(1, "a", "b", 5)], ["a", "b"]
        Against(trail).trail.clear()
        NoWay(near).near.clear()
        self.assertEqual(trail, [(1, "a", "b", 5)])
        self.assertEqual(near, ["a", "b"])


if __name__ == "__main__":
    unittest.main()
