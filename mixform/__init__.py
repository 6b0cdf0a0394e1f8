"""Mixform: terms whose order makes no difference."""
