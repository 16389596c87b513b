"""Programs drawn by lot: all ways of running tell the same of them."""

import unittest
from collections import Counter

from tests.building import WAYS
from tests.drawing import Lot, size
from whatremains.plain import run
from whatremains.programs import MOST_PARTS, parts

HOW_MANY = 3000


class Random(unittest.TestCase):
    def test_all_ways_tell_the_same(self):
        lot = Lot(2026)
        ends = Counter()
        ways = [0, 0, 0]
        for program in lot.programs(HOW_MANY, MOST_PARTS):
            self.assertEqual(parts(program), size(program))
            fuel = lot.fuel()
            told = run(program, fuel)
            for way in WAYS:
                self.assertEqual(way(program, fuel), told, (way.__name__, program))
            ends[told[1][0]] += 1
            for left in told[2]:
                ways = [one + other for one, other in zip(ways, left)]
        # So that the lot does not go bad unseen: each end, and each way to leave a last, comes up often.
        self.assertEqual(sorted(ends), ["fault", "long", "worth"])
        self.assertGreater(min(ends.values()), 100)
        self.assertGreater(min(ways), 100)
