"""Everyroad: rounds that take each one-way road of a net just once."""
