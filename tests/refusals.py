"""What all tests of refusals share: the error that comes, and what it is made with."""

import unittest


class Refusals(unittest.TestCase):
    def refused(self, error, told, call, *given):
        """That a call raises just this error, with these attributes."""
        with self.assertRaises(error) as caught:
            call(*given)
        self.assertIs(caught.exception.__class__, error, given)
        found = vars(caught.exception)
        self.assertEqual(list(found), list(told), given)
        for name, thing in told.items():
            if isinstance(thing, (tuple, str, int)) or thing is None:
                self.assertEqual((found[name], type(found[name])), (thing, type(thing)), given)
            else:
                self.assertIs(found[name], thing)

    def bad(self, error, thing, call, *given):
        """That a call raises an error of what was passed: with the very thing as given."""
        with self.assertRaises(error) as caught:
            call(*given)
        self.assertIs(caught.exception.__class__, error)
        self.assertIs(caught.exception.given, thing)

    def in_order(self, call, right, wrong):
        """That of several wrong arguments the first one is refused, whatever stands behind it.

        wrong are triples of an index, a thing that is wrong there and its error, by the index."""
        for at, (index, thing, error) in enumerate(wrong):
            given = list(right)
            given[index] = thing
            for later, other, _ in wrong[at + 1:]:
                with self.subTest(call=call.__name__, index=index, later=later):
                    both = list(given)
                    both[later] = other
                    self.assertRaises(error, call, *both)
                    given[later] = other
            self.assertRaises(error, call, *given)
