"""Telltight: how much names tell of one another, by plain rules, tables and coins."""
