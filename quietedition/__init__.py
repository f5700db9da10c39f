"""Quietedition: whether any client can notice a library's new edition."""
