"""How the tests ask for a refusal: as its own class, as a QuayError and as a ValueError, and as no other of the six."""

import unittest

from evenquay.errors import NoFleet, NoName, NoPlan, NoRow, NoShip, NoText, QuayError

REFUSALS = (NoFleet, NoPlan, NoText, NoRow, NoName, NoShip)


class RefusalCase(unittest.TestCase):
    def assert_refused(self, refusal, asked, *told):
        for taken in (refusal, QuayError, ValueError):
            try:
                asked()
            except taken as error:
                self.assertEqual([one for one in REFUSALS if isinstance(error, one)], [refusal], told)
            else:
                self.fail(f"not refused: {told}")
