"""Orders: behind how many rounds of one open call alone all is as at first, and the primes that show it."""

from pupilpairs.errors import NoOrder
from pupilpairs.halves import odd_of, power
from pupilpairs.kinds import is_integer
from pupilpairs.whens import common_divisor


def order_paper(base, modulus):
    """The order of a base by a modulus, and the ascending list of its prime divisors."""
    if not has_order(base, modulus):
        raise NoOrder(base, modulus)
    most = totient(modulus)
    order = most
    for prime in primes_of(most):
        while order % prime == 0 and power(base, order // prime, modulus) == 1 % modulus:
            order = order // prime
    return (order, primes_of(order))


def is_order_paper(base, modulus, thing):
    """Whether a thing is what `order_paper` returns."""
    if not has_order(base, modulus) or not isinstance(thing, tuple) or len(thing) != 2:
        return False
    order, primes = thing
    if not is_integer(order) or not isinstance(primes, list):
        return False
    return all([is_integer(prime) for prime in primes]) and thing == order_paper(base, modulus)


def halve_return(files, rows):
    """The paper of the return of a line for the script with "halve" alone."""
    return order_paper(files, files * rows - 1)


def others_return(rows):
    """The paper of the return of a line for the script with "others" alone."""
    return order_paper(2, odd_of(rows))


def has_order(base, modulus):
    """Whether a base and a modulus have no common divisor greater than 1."""
    return common_divisor(base % modulus, modulus) == 1


def totient(modulus):
    """How many integers from 1 to a modulus have no common divisor with it; a multiple of all orders by it."""
    told = modulus
    for prime in primes_of(modulus):
        told = told // prime * (prime - 1)
    return told


def primes_of(number):
    """The ascending list of the prime divisors of an integer from 1 on."""
    told = []
    left = number
    divisor = 2
    while divisor * divisor <= left:
        if left % divisor == 0:
            told.append(divisor)
        while left % divisor == 0:
            left = left // divisor
        divisor += 1
    return told + [left] if left > 1 else told
