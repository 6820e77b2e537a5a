"""How many are back after n turns: rows of shuffles."""
