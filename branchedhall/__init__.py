"""Branchedhall: a hall of talk that many houses keep, without a head."""
