"""Tests that calls end soon (point 3)."""

import time
import unittest

# Each call takes a small part of a second; a slow machine may take ten times as long.
MOST_SECONDS = 5


class SoonTest(unittest.TestCase):
    def soon(self, function, *arguments):
        begun = time.perf_counter()
        result = function(*arguments)
        self.assertLess(time.perf_counter() - begun, MOST_SECONDS, function.__name__)
        return result
