"""Draftward: a server that writes texts with a model, and changes nothing of their chances."""
