"""Uprow: a row of numbers made rising at the least cost, and what shows that none costs less."""
