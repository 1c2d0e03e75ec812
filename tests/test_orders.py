"""The orders and their papers [81]."""

import math
import random
import unittest

from pupilpairs.errors import NoOrder
from pupilpairs.orders import halve_return, is_order_paper, order_paper, others_return
from pupilpairs.scripts import Script
from tests.helpers import any_values, model_loops, model_moves, raised

MANY = (19997, 19998, 19999, 20000, 16384, 19683, 16807, 17017, 18480, 10007 * 2 - 1)
FAR_BASES = (10 ** 39, -10 ** 39 - 1, 10 ** 40 - 1, 1 - 10 ** 40, 3 * 10 ** 39 + 7)


def order_by_steps(base, modulus):
    """The order, found by multiplying step by step."""
    rest, order = base % modulus, 1
    while rest != 1 % modulus:
        rest = rest * base % modulus
        order += 1
    return order


def primes_by_trial(number):
    """The prime divisors of a number, by trying all."""
    primes = [divisor for divisor in range(2, number + 1) if number % divisor == 0]
    return [divisor for divisor in primes if all(divisor % other for other in primes if other < divisor)]


class PaperTest(unittest.TestCase):
    def check(self, base, modulus):
        """Asserts what is told of a base and a modulus."""
        if math.gcd(base, modulus) > 1:
            error = raised(self, NoOrder, order_paper, base, modulus)
            self.assertEqual([error.base, error.modulus], [base, modulus])
            for thing in ((1, []), (2, [2]), None, []):
                self.assertIs(is_order_paper(base, modulus, thing), False)
            return
        order = order_by_steps(base, modulus)
        told = order_paper(base, modulus)
        self.assertEqual(told, (order, primes_by_trial(order)), (base, modulus))
        self.assertEqual([type(told), type(told[1])], [tuple, list])
        self.assertIs(is_order_paper(base, modulus, told), True)

    def test_small_bases_and_moduli(self):
        for modulus in range(1, 61):
            for base in range(-modulus - 2, modulus + 3):
                self.check(base, modulus)

    def test_moduli_up_to_400(self):
        draw = random.Random(810)
        for modulus in range(61, 401):
            for base in (2, 3, -1, -2, modulus - 2, modulus + 1, 0, draw.choice(FAR_BASES)):
                self.check(base, modulus)

    def test_great_moduli(self):
        draw = random.Random(811)
        for modulus in MANY:
            for base in (2, 3, -1, 7, draw.randrange(10 ** 39), -draw.randrange(10 ** 39), draw.choice(FAR_BASES)):
                self.check(base, modulus)

    def test_bases_of_either_side(self):
        for base in (0, 1, -1, 5, -5, *FAR_BASES):
            for modulus in range(1, 30):
                self.check(base, modulus)
        self.assertEqual([order_paper(0, 1), order_paper(-3, 1), order_paper(10 ** 39, 1), order_paper(-1, 2)],
                         [(1, [])] * 4)
        self.assertEqual([order_paper(-1, 3), order_paper(-2, 9), order_paper(-1, 20000)],
                         [(2, [2]), (3, [3]), (2, [2])])

    def test_the_very_values_are_kept(self):
        for base, modulus in ((0, 2), (10 ** 39, 20000), (-10 ** 39, 6), (14, 21)):
            error = raised(self, NoOrder, order_paper, base, modulus)
            self.assertIs(error.base, base)
            self.assertIs(error.modulus, modulus)

    def test_told_lists_are_new(self):
        for function, arguments in ((order_paper, (2, 9)), (halve_return, (2, 3)), (others_return, (7,))):
            told = function(*arguments)
            kept = (told[0], list(told[1]))
            told[1].append(7)
            self.assertEqual(function(*arguments), kept)

    def test_the_example(self):
        self.assertEqual(order_paper(2, 9), (6, [2, 3]))


class IsPaperTest(unittest.TestCase):
    def test_near_papers(self):
        for base, modulus in ((2, 9), (2, 7), (3, 19997), (-1, 5), (2, 61), (1, 8), (0, 1), (10 ** 39, 30031)):
            order, primes = order_paper(base, modulus)
            for thing in [(2 * order, primes), (order // 2, primes), (order + 1, primes), (order - 1, primes),
                          (-order, primes), (0, primes), (order, primes + [101]), (order, [1] + primes),
                          (order, primes + [True]), (order, primes + [order]), (str(order), primes), (order,), order,
                          (order, None), (order, {}), (order, primes, []), [order, primes], (order, tuple(primes)),
                          (primes, order), (order, [str(prime) for prime in primes]), (complex(order), primes),
                          (order, [complex(prime) for prime in primes] + [7][len(primes):])]:
                if thing == (1, []) == (order, primes):
                    continue
                self.assertIs(is_order_paper(base, modulus, thing), False, (base, modulus, thing))
            for at in range(len(primes)):
                without = primes[:at] + primes[at + 1:]
                for changed in (without, primes + [primes[at]], without + [primes[at] + 1], without + [None],
                                primes[:at] + [primes[at], primes[at]] + primes[at + 1:]):
                    self.assertIs(is_order_paper(base, modulus, (order, changed)), False)
            if len(primes) > 1:
                self.assertIs(is_order_paper(base, modulus, (order, primes[::-1])), False)
            self.assertIs(is_order_paper(base, modulus, (order, list(primes))), True)

    def test_multiples_with_the_same_primes(self):
        self.assertEqual([is_order_paper(2, 9, (12, [2, 3])), is_order_paper(2, 9, (18, [2, 3])),
                          is_order_paper(4, 9, (3, [3])), is_order_paper(4, 9, (6, [2, 3]))],
                         [False, False, True, False])

    def test_true_is_not_one(self):
        for base, modulus in ((1, 2), (0, 1), (5, 4), (-10 ** 39, 1)):
            self.assertIs(is_order_paper(base, modulus, (1, [])), True)
            self.assertIs(is_order_paper(base, modulus, (True, [])), False)
            self.assertIs(is_order_paper(base, modulus, (1, ())), False)
            self.assertIs(is_order_paper(base, modulus, (1, [True])), False)

    def test_any_value(self):
        for base, modulus in ((2, 9), (1, 1), (2, 4), (0, 20000)):
            for thing in any_values():
                for value in (thing, (thing, [2, 3]), (6, thing), (6, [thing, 3]), (6, [2, thing])):
                    self.assertIs(is_order_paper(base, modulus, value), False)

    def test_nothing_that_is_passed_is_changed(self):
        thing = (6, [2, 3])
        self.assertIs(is_order_paper(2, 9, thing), True)
        self.assertEqual(thing, (6, [2, 3]))


class ReturnsTest(unittest.TestCase):
    def loops_of(self, script, rows):
        """The return of a line, by the loops of all places."""
        moves = model_moves(script, rows)
        return math.lcm(*[len(loop) for loop in model_loops(moves)])

    def test_short_lines(self):
        for rows in range(1, 62):
            for files in (2, 3):
                order = self.loops_of(Script(files, [("halve",)]), rows)
                self.assertEqual(halve_return(files, rows), (order, primes_by_trial(order)), (files, rows))
            order = self.loops_of(Script(2, [("others",)]), rows)
            self.assertEqual(others_return(rows), (order, primes_by_trial(order)), rows)

    def long_return(self, moves):
        """The return of a line whose moves are told, each place gone through once."""
        seen, lengths = set(), set()
        for first in range(len(moves)):
            length, number = 0, first
            while number not in seen:
                seen.add(number)
                number = moves[number]
                length += 1
            if length:
                lengths.add(length)
        return math.lcm(*lengths)

    def test_long_lines(self):
        for rows in (399, 400, 5999, 6000):
            for files in (2, 3):
                order = self.long_return([x % rows * files + x // rows for x in range(files * rows)])
                self.assertEqual(halve_return(files, rows), (order, primes_by_trial(order)))
            order = self.long_return([x // 2 + x % 2 * ((rows + 1) // 2) for x in range(rows)])
            self.assertEqual(others_return(rows), (order, primes_by_trial(order)))

    def test_the_examples(self):
        self.assertEqual([halve_return(2, 3), others_return(7)], [(4, [2]), (3, [3])])


if __name__ == "__main__":
    unittest.main()
