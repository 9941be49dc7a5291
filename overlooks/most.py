"""The limits of the package."""

# all_rows lists at most so many rows.
MOST = 300

# The functions of small.py search lots of at most so many rows.
MOST_SEARCHED = 2000

# Nobody can come to a Line that holds so many people.
MOST_PEOPLE = 16
