"""Pulsebook: days that come again for ever, reckoned with as wholes."""
