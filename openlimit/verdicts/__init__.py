"""Verdicts on two machines, rates and the exchange of limits."""
