"""The limits beyond which TooMany is raised."""

# all_rows lists at most so many rows.
MOST = 300

# The functions of small.py search lots of at most so many rows.
MOST_SEARCHED = 2000
