"""How much there may be of what."""

# Letters of mirrors.
MOST_LETTERS = 6

# Letters of a word.
MOST_WORD = 60

# The greatest length for which pictures are counted.
MOST_LENGTH = 200

# Words or pictures that are gone through one by one.
MOST_WORDS = 3000

# Angles that are not known.
MOST_UNKNOWN = 3

# Things that are told of the angles that are not known.
MOST_TOLD = 20
