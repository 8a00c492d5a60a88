"""Spanbook: stretches of hours, coloured, chosen, covered and nested, with what shows it."""
