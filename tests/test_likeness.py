"""[19]: lists that cut alike."""

import unittest

from rankedjoins.joinlists import Joins
from rankedjoins.likeness import parting_text
from rankedjoins.plain import cut
from support import DOUBLING, EXAMPLE, Dice, Quick, all_texts, drawn_pairs, literal_cut, literal_texts, texts_up_to


def literal_pieces(alphabet, pairs, text):
    """The texts of the pieces of the cut."""
    texts = literal_texts(alphabet, pairs)
    return [texts[piece] for piece in literal_cut(alphabet, pairs, text)]


def literal_parting_text(alphabet, pairs, others):
    """[19] word for word, by cutting the text of each two pieces."""
    found = []
    for own in (pairs, others):
        texts = literal_texts(alphabet, own)
        found += texts
        for left in range(len(texts)):
            for right in range(len(texts)):
                if literal_cut(alphabet, own, texts[left] + texts[right]) == (left, right):
                    found.append(texts[left] + texts[right])
    for text in sorted(set(found), key=lambda text: (len(text), text)):
        if literal_pieces(alphabet, pairs, text) != literal_pieces(alphabet, others, text):
            return text
    return None


def reordered(dice, alphabet, pairs):
    """A proper list with the same texts of pieces in an order that is drawn, or None."""
    texts = literal_texts(alphabet, pairs)
    parts = [(texts[left], texts[right]) for left, right in pairs]
    at = dice.below(len(parts) - 1)
    parts[at], parts[at + 1] = parts[at + 1], parts[at]
    texts = list(alphabet)
    ordered = []
    for left, right in parts:
        if left not in texts or right not in texts:
            return None
        pair = (texts.index(left), texts.index(right))
        if literal_cut(alphabet, ordered, left + right) != pair:
            return None
        ordered.append(pair)
        texts.append(left + right)
    return tuple(ordered)


def couples():
    """(alphabet, pairs, others) of lists that cut alike and of lists that do not."""
    dice = Dice(83)
    found = []
    for alphabet in ("a", "ab", " |~", "abcde"):
        for many in (0, 1, 3, 6, 12):
            pairs = drawn_pairs(dice, alphabet, many)
            for others in (pairs, pairs[:-1], drawn_pairs(dice, alphabet, many), drawn_pairs(dice, alphabet, 2)):
                found.append((alphabet, pairs, others))
            for _ in range(4):
                others = reordered(dice, alphabet, pairs) if len(pairs) > 1 else None
                if others is not None:
                    found.append((alphabet, pairs, others))
    return found


class PartingText(unittest.TestCase):
    def test_a_piece_that_only_one_list_has(self):
        joins = Joins(*EXAMPLE)
        self.assertEqual(parting_text(joins, joins.first(2)), "aa")
        self.assertEqual(parting_text(joins.first(1), joins), "aa")
        self.assertEqual(parting_text(joins.first(1), joins.first(2)), "abc")

    def test_the_order_of_joins_shows_only_in_neighbors(self):
        first, second = Joins("abc", ((0, 1), (1, 2))), Joins("abc", ((1, 2), (0, 1)))
        self.assertEqual(parting_text(first, second), "abc")
        self.assertEqual(parting_text(second, first), "abc")

    def test_lists_that_cut_alike(self):
        self.assertIsNone(parting_text(Joins(*EXAMPLE), Joins(*EXAMPLE)))
        self.assertIsNone(parting_text(Joins("abcd", ((0, 1), (2, 3))), Joins("abcd", ((2, 3), (0, 1)))))
        # One piece that is made in two ways.
        self.assertIsNone(parting_text(Joins("a", DOUBLING[1][:2]), Joins("a", ((0, 0), (1, 1)))))

    def test_lists_without_joins(self):
        empty = Joins("ab", ())
        self.assertIsNone(parting_text(empty, Joins("ab", ())))
        self.assertEqual(parting_text(empty, Joins("ab", ((1, 0),))), "ba")
        self.assertEqual(parting_text(Joins("ab", ((1, 0), (0, 0))), empty), "aa")

    def test_the_shortest_comes_first_and_then_the_first_in_ascending_order(self):
        pairs = ((0, 1), (4, 2), (5, 3), (3, 2), (2, 0))
        self.assertEqual(parting_text(Joins("abcd", pairs[:1]), Joins("abcd", pairs)), "ca")
        self.assertEqual(parting_text(Joins("abcd", pairs[:1]), Joins("abcd", pairs[:4])), "dc")
        self.assertEqual(parting_text(Joins("abcd", pairs[:1]), Joins("abcd", pairs[:3])), "abc")

    def test_arguments_by_name(self):
        self.assertEqual(parting_text(other=Joins("ab", ((1, 0),)), joins=Joins("ab", ())), "ba")


class Promises(unittest.TestCase):
    def test_word_for_word(self):
        parted = 0
        for alphabet, pairs, others in couples():
            text = parting_text(Joins(alphabet, pairs), Joins(alphabet, others))
            self.assertEqual(text, literal_parting_text(alphabet, pairs, others))
            self.assertEqual(text, parting_text(Joins(alphabet, others), Joins(alphabet, pairs)))
            parted += text is not None
        self.assertGreater(parted, 20)
        self.assertGreater(len(couples()) - parted, 20)

    def test_if_there_is_none_every_text_is_cut_alike(self):
        dice = Dice(29)
        for alphabet, pairs, others in couples():
            joins, other = Joins(alphabet, pairs), Joins(alphabet, others)
            if parting_text(joins, other) is not None:
                continue
            texts = texts_up_to(alphabet, {1: 14, 2: 7, 3: 5, 5: 3}[len(alphabet)])
            texts += [dice.text(alphabet, 1 + dice.below(40)) for _ in range(30)]
            for text in texts:
                first = [joins.text_of(piece) for piece in cut(joins, text)]
                self.assertEqual(first, [other.text_of(piece) for piece in cut(other, text)])

    def test_no_shorter_text_that_is_not_cut_alike_is_a_piece(self):
        for alphabet, pairs, others in couples():
            text = parting_text(Joins(alphabet, pairs), Joins(alphabet, others))
            if text is None:
                continue
            self.assertNotEqual(literal_pieces(alphabet, pairs, text), literal_pieces(alphabet, others, text))
            for shorter in all_texts(alphabet, 2) if len(text) > 2 else []:
                self.assertEqual(literal_pieces(alphabet, pairs, shorter), literal_pieces(alphabet, others, shorter))


class Sizes(unittest.TestCase):
    def test_5_letters_and_12_joins(self):
        dice = Dice(47)
        joins = Joins("abcde", drawn_pairs(dice, "abcde", 12))
        with Quick(5):
            self.assertIsNone(parting_text(joins, joins))

    def test_pieces_of_40_letters(self):
        joins = Joins(*DOUBLING)
        with Quick(5):
            self.assertIsNone(parting_text(joins, Joins(*DOUBLING)))
            self.assertEqual(parting_text(joins, joins.first(5)), "a" * 40)


if __name__ == "__main__":
    unittest.main()
