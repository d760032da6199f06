"""How ports are chosen ([15])."""

import unittest

from meetbehind.ports import Ports
from tests.samples import any_values, Checks


class PortsTest(Checks, unittest.TestCase):

    def test_numbers(self):
        self.assert_same(Ports().numbers, ())
        self.assert_same(Ports(9, 2, 9, 10 ** 9).numbers, (9, 2, 9, 10 ** 9))
        with self.assertRaises(AttributeError):
            Ports().numbers = ()

    def test_the_first_number_that_is_not_used(self):
        ports = Ports(30, 40, 30, 5)
        self.assert_same(ports("a", ()), 30)
        self.assert_same(ports("a", (30,)), 40)
        self.assert_same(ports(gate="a", used=(30, 40)), 5)
        self.assert_same(ports("a", (40,)), 30)

    def test_then_the_least_that_is_not_used(self):
        ports = Ports(3)
        self.assert_same(ports("a", (3,)), 2)
        self.assert_same(ports("a", (2, 3)), 4)
        self.assert_same(ports("a", (2, 3, 4, 6)), 5)
        self.assert_same(Ports()("a", ()), 2)
        self.assert_same(Ports()("a", (3, 4)), 2)
        self.assert_same(Ports()("a", tuple(range(2, 500))), 500)

    def test_whatever_the_gate_is(self):
        for value in any_values():
            self.assert_same(Ports(7)(value, (2,)), 7)

    def test_nothing_is_remembered(self):
        ports = Ports(8)
        self.assert_same([ports("a", ()), ports("a", ()), ports("b", (8,)), ports("b", ())], [8, 8, 2, 8])


if __name__ == "__main__":
    unittest.main()
