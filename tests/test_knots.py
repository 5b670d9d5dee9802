"""Point 5: knots."""

import random
import unittest

from landweave.knots import knot
from tests.helper import plain_knot

# Worked out step by step by another calculator: seed, salt, i, j, and the knot.
WORKED_OUT = (
    (0, 0, 0, 0, 31582),
    (1, 0, 0, 0, 37510),
    (0, 1, 0, 0, 17552),
    (0, 0, 1, 0, 3029),
    (0, 0, 0, 1, 49404),
    (0, 0, -1, 0, 8303),
    (0, 0, 0, -1, 11722),
    (7, 3, -5, -9, 58946),
    (10 ** 9, 10 ** 9, 99999999, 99999999, 39638),
    (10 ** 9, 10 ** 9, -99999999, -99999999, 46344),
    (10 ** 9, 0, -99999999, 99999999, 55930),
    (0, 10 ** 9, 99999999, -99999999, 50657),
    (123456789, 987654321, 12345678, -87654321, 26184),
)


class Knots(unittest.TestCase):
    def test_worked_out(self):
        for seed, salt, i, j, found in WORKED_OUT:
            with self.subTest(seed=seed, salt=salt, i=i, j=j):
                self.assertEqual(knot(seed, salt, i, j), found)

    def test_by_steps(self):
        # A = 7, B = 7 * 7 + 1 = 50, C = 50 * 50 + 1 = 2501, 2501 * 2502 = 6257502.
        self.assertEqual(knot(0, 0, 0, 0), 6257502 % 65536)

    def test_many(self):
        pick = random.Random(5)
        for _ in range(2000):
            seed, salt = pick.randint(0, 10 ** 9), pick.randint(0, 10 ** 9)
            far = pick.choice((1, 1000, 99999999))
            i, j = pick.randint(-far, far), pick.randint(-far, far)
            found = knot(seed, salt, i, j)
            self.assertEqual(found, plain_knot(seed, salt, i, j))
            self.assertTrue(0 <= found <= 65535)

    def test_by_names_in_any_order(self):
        self.assertEqual(knot(j=-9, salt=3, seed=7, i=-5), 58946)
        self.assertEqual(knot(7, 3, j=-9, i=-5), 58946)

    def test_asked_again(self):
        self.assertEqual([knot(7, 3, -5, -9) for _ in range(3)], [58946] * 3)


if __name__ == "__main__":
    unittest.main()
