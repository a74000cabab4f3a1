"""Roomprices: rooms given and a whole rent parted into prices that nobody envies, or a ring that bars it."""
