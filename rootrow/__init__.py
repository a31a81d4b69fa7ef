"""Fractions and roots as rows of whole numbers, and what is nearest to them."""
