"""Films: lists of rows of the same people, each of which may lead to the next one."""

from overlooks.errors import Gap
from overlooks.leading import bar, check_same_people, leads, steps


def check_film(film):
    """Raise OtherPeople if some row does not consist of the same people as the first one."""
    for row in film:
        check_same_people(film[0], row)


def film_gap(film):
    """The index of the first row that does not lead to the next one; None if there is none."""
    check_film(film)
    for index in range(len(film) - 1):
        if not leads(film[index], film[index + 1]):
            return index
    return None


def film_bar(film):
    """The bar of that row and the next one; None if there is none."""
    index = film_gap(film)
    if index is None:
        return None
    return bar(film[index], film[index + 1])


def film_steps(film):
    """The sum of the steps of each row and the next one."""
    index = film_gap(film)
    if index is not None:
        raise Gap(index)
    return sum([steps(one, other) for one, other in zip(film, film[1:])])
