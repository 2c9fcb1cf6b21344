"""What the tests of several modules need."""

import doctest
import random
import unittest

# Values that are no integer, whatever the limits are.
NO_INTS = [True, False, None, "1", "", [1], (1,), [], {}, {"a": 1}]

# Values that are no list of octets, whatever its length.
NO_OCTETS = [
    None, True, 0, 7, "ab", "", {}, {"a": 1}, [256], [-1], [True], [0, False], (0, 256), [None], ["1"], [[1]], [(1,)],
    [2 ** 70],
]

HIGHEST_MASK = 2 ** 4096 - 1


class PointTest(unittest.TestCase):
    """A test that can ask for an error with the very value in it."""

    def assert_invalid(self, error_class, given, call, *args, **more):
        """Check that a call raises an error of just this class, with this very value."""
        with self.assertRaises(error_class) as caught:
            call(*args, **more)
        self.assertIs(type(caught.exception), error_class)
        self.assertEqual(list(vars(caught.exception)), ["given"])
        self.assertIs(caught.exception.given, given)

    def assert_octets(self, value, expected):
        """Check that a value is a tuple, and of these octets."""
        self.assertIs(type(value), tuple)
        self.assertEqual(value, tuple(expected))
        self.assertTrue(all(type(octet) is int for octet in value))

    def assert_session(self, lines):
        """Check a session of examples of the document, in which an error is told by `raises ERROR`."""
        names = {}
        for example in doctest.DocTestParser().get_examples(lines):
            self.check_example(example, names)

    def check_example(self, example, names):
        want = example.want.strip()
        if want.startswith("raises "):
            name, told = want.removeprefix("raises ").removesuffix(")").split("(", 1)
            with self.assertRaises(ValueError) as caught:
                exec(example.source, names)
            self.assertEqual(type(caught.exception).__name__, name)
            self.assertEqual([repr(value) for value in vars(caught.exception).values()], [told] if told else [])
        elif want:
            self.assertEqual(repr(eval(example.source, names)), want, example.source)
        else:
            exec(example.source, names)


def bits_of(octets):
    """Return the bits of octets as a list of 0 and 1, worked out apart from the program."""
    return [int(sign) for octet in octets for sign in format(octet, "08b")]


def octets_of(bits):
    """Return the octets with these bits."""
    return tuple(int("".join(str(bit) for bit in bits[k:k + 8]), 2) for k in range(0, len(bits), 8))


def turned(old, new, mask):
    """Return what is left of a change by a mask, told bit by bit."""
    left, due = bits_of(old), 0
    for place, bit in enumerate(bits_of(new)):
        if left[place] != bit:
            if due < 4096 and (mask // 2 ** due) % 2 == 1:
                left[place] = bit
            due += 1
    return octets_of(left)


def dice(seed):
    """Return a source of numbers that are the same at each run of the tests."""
    return random.Random(seed)


def some_octets(source, count):
    """Return so many octets, often 0 or 255."""
    return [source.choice([0, 255, source.randrange(256)]) for _ in range(count)]


def some_mask(source):
    """Return a mask, often one of the two that are at the edges."""
    return source.choice([0, HIGHEST_MASK, source.randrange(2 ** 8), source.randrange(2 ** 4096)])
