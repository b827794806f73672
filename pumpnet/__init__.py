"""Pumps, valves and pipes: a net, what may be opened in it, and what its pumps do tick by tick."""
