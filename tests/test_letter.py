"""Calls 20 letter and 21 check: tokens, faults and their places, and news told by letter."""

import itertools
import random
import unittest

from tests.helper import (
    DeskTest, FAR, LAST, ask, check, close_news, counts, faults, form_of, journey, keeper, known, last, letter, news, peak, tell, way,
    would,
)

ROW = news(7, 2, 1, 5, 1, 1200, 17, 4418)
TEXT = "7.2 journey 1 passes at 5 minute 1200 found 17 left 4418;"
TOKENS = ["7", ".", "2", "journey", "1", "passes", "at", "5", "minute", "1200", "found", "17", "left", "4418", ";"]
# Where numbers stand among the tokens, and from which to which each may go.
NUMBERS = ((0, 1, 999), (2, 1, 9), (4, 1, 99), (7, 1, 9), (9, 0, LAST), (11, 0, 9999), (13, 0, 9999))
DOES = ("leaves", "passes", "arrives", "cleared", "nothing")
SIXTEEN = [journey()] * 16


def spaced(tokens):
    """The tokens with one blank between them, and the place of each."""
    places = [sum(len(token) + 1 for token in tokens[:k]) for k in range(len(tokens))]
    return " ".join(tokens), places


def changed(place, token):
    return TOKENS[:place] + [token] + TOKENS[place + 1:]


def lines_of(size, first=1):
    return form_of(*[news(first + k, minute=k) for k in range(size)])


class CheckTest(DeskTest):
    def check_fault(self, text, fault, place):
        """check tells this fault at this place, and letter and would refuse the text."""
        self.assertEqual(last(check(text)), [0, fault, place], text)
        self.check_refused([journey(), tell(news(1))], letter(text), -5)
        self.check_refused([journey(), tell(news(1))], would(text), -5)

    def check_right(self, text, *rows):
        """The text is a letter of these news."""
        self.assertEqual(last(check(text)), [0, 0, 0], text)
        found = ask(*SIXTEEN, letter(text), known())[16:]
        best = {row[0]: row for row in sorted(rows)}
        self.assertEqual(found[0], [0, len(best), len(best)], text)
        self.assertEqual(found[1], [0, len(best)] + [number for key in sorted(best) for number in best[key]], text)

    def test_the_documents_example(self):
        text = "7.2 journey 3 passes at 5 minute 1200 found 17 left 4418;"
        self.check_right(text, [7, 2, 3, 5, 1, 1200, 17, 4418])

    def test_the_empty_text(self):
        for text in ("", " ", "\n", " \n  \n", " " * 1200):
            self.check_right(text)

    def test_each_thing_told(self):
        for told, does in enumerate(DOES):
            self.check_right(TEXT.replace("passes", does), news(7, 2, 1, 5, told, 1200, 17, 4418))

    def test_blanks_and_ends_of_lines_between_all_tokens(self):
        for between in (" ", "\n", "  ", "\n\n", " \n ", "\n  \n"):
            self.check_right(between.join(TOKENS), ROW)
            self.check_right(between + between.join(TOKENS) + between, ROW)
            self.check_right(between.join(TOKENS + TOKENS + ["8"] + TOKENS[1:]), ROW, [8] + ROW[1:])

    def test_no_blank_where_none_is_needed(self):
        tight = "7.2journey1passes at5minute1200found17left4418;"
        self.check_right(tight, ROW)
        self.check_right(tight.replace("7", "8", 1) + tight, [8] + ROW[1:], ROW)
        self.check_right(tight.replace(" ", "\n"), ROW)
        for place in range(1, len(TOKENS)):
            if place != 6:
                text = " ".join(TOKENS[:place]) + " ".join(TOKENS[place:])
                self.check_right(text, ROW)

    def test_two_words_without_a_blank_are_one(self):
        for does, fault in (("passes", 2), ("leaves", 2), ("arrives", 1), ("cleared", 1), ("nothing", 1)):
            text = TEXT.replace("passes at", does + "at")
            self.check_fault(text, fault, text.index(does))

    def test_a_wrong_token_at_each_place(self):
        wrong = (
            "A", "Z", "-", "-1", "+", ",", ":", "_", "/", "@", "[", "`", "{", "~", "!", "\t", "\r", "\x00", "\x0b", "\x7f", "\x80",
            "\xa0", "\xff", "abcdefghi", "a" * 100, "12345678901", "0" * 11, "00", "01", "007", "0000000001",
        )
        for place in range(len(TOKENS)):
            for token in wrong:
                text, places = spaced(changed(place, token))
                self.assertEqual(last(check(text)), [0, 1, places[place]], text)
            self.check_fault(*self.fault_at(place, "#", 1))
            # Behind the last token of a news a next one may begin, so a wrong token is looked at there too.
            text, places = spaced(TOKENS[:place + 1] + ["?"] + TOKENS[place + 1:])
            self.check_fault(text, 1, places[place + 1])

    def fault_at(self, place, token, fault):
        text, places = spaced(changed(place, token))
        return text, fault, places[place]

    def test_every_byte_at_a_texts_beginning(self):
        for byte in range(256):
            if byte in (32, 10):
                expected = [0, 0, 0]
            elif 49 <= byte <= 57:
                expected = [0, 2, 1]
            elif byte == 48:
                expected = [0, 3, 0]
            elif 97 <= byte <= 122 or byte in (46, 59):
                expected = [0, 2, 0]
            else:
                expected = [0, 1, 0]
            self.assertEqual(last(check([byte])), expected, byte)

    def test_a_token_that_cannot_stand_there(self):
        tokens = [".", ";", "1", "journey", "at", "minute", "found", "left", "a", "zzzzzzzz", "journeys", "passe", *DOES]
        for place, right in enumerate(TOKENS):
            for token in tokens:
                text, places = spaced(changed(place, token))
                if token == right or (place == 5 and token in DOES) or (right.isdigit() and token == "1"):
                    self.assertEqual(last(check(text)), [0, 0, 0], text)
                else:
                    self.assertEqual(last(check(text)), [0, 2, places[place]], text)
            self.check_fault(*self.fault_at(place, "other", 2))

    def test_a_number_where_none_can_stand_is_not_looked_at_for_its_range(self):
        for place in (1, 3, 5, 6, 8, 10, 12, 14):
            self.check_fault(*self.fault_at(place, "9999999999", 2))

    def test_a_token_that_is_left_out_or_told_twice(self):
        for place in range(len(TOKENS)):
            text, places = spaced(TOKENS[:place] + TOKENS[place + 1:] + TOKENS)
            self.check_fault(text, 2, places[place])
            if place != 14:
                text, places = spaced(TOKENS[:place + 1] + TOKENS[place:])
                self.check_fault(text, 2, places[place + 1])
        self.check_fault(TEXT + ";", 2, len(TEXT))

    def test_the_texts_end_within_a_news(self):
        for size in range(1, len(TOKENS)):
            text = " ".join(TOKENS[:size])
            for behind in ("", " ", "\n", "  \n "):
                self.check_fault(text + behind, 2, len(text + behind))
                self.check_fault(TEXT + text + behind, 2, len(TEXT + text + behind))

    def test_the_range_of_each_number(self):
        for place, low, high in NUMBERS:
            for number in (low, high):
                text, places = spaced(changed(place, str(number)))
                self.assertEqual(last(check(text)), [0, 0, 0], text)
            for number in [high + 1, 9999999999] + ([0] if low else []):
                self.check_fault(*self.fault_at(place, str(number), 3))

    def test_what_is_told_at_the_ends_of_the_ranges(self):
        low = form_of([1, 1, 1, 1, 0, 0, 0, 0])
        self.assertEqual(low, "1.1 journey 1 leaves at 1 minute 0 found 0 left 0;")
        self.check_right(low, [1, 1, 1, 1, 0, 0, 0, 0])
        high = form_of([999, 9, 16, 9, 4, LAST, 9999, 9999])
        self.assertEqual(high, "999.9 journey 16 nothing at 9 minute 1000000000 found 9999 left 9999;")
        self.check_right(high, [999, 9, 16, 9, 4, LAST, 9999, 9999])

    def test_words_of_8_and_9_letters(self):
        self.check_fault("abcdefgh", 2, 0)
        self.check_fault("abcdefghi", 1, 0)
        for place in range(len(TOKENS)):
            self.check_fault(*self.fault_at(place, "zyxwvuts", 2))
            self.check_fault(*self.fault_at(place, "zyxwvutsr", 1))

    def test_numbers_of_10_and_11_digits(self):
        for place in range(len(TOKENS)):
            is_number = place in [number[0] for number in NUMBERS]
            self.check_fault(*self.fault_at(place, "9999999999", 3 if is_number else 2))
            self.check_fault(*self.fault_at(place, "10000000000", 1))
        self.check_fault("1" * 1200, 1, 0)
        self.check_right(TEXT.replace("1200", "1000000000"), news(7, 2, 1, 5, 1, LAST, 17, 4418))

    def test_a_0_in_front(self):
        for place, low, high in NUMBERS:
            for number in ("00", "01", "0" + TOKENS[place], "0000000001"):
                self.check_fault(*self.fault_at(place, number, 1))
        self.check_fault("0journey", 3, 0)
        self.check_fault("01journey", 1, 0)

    def test_the_first_from_the_left(self):
        for (place, token, fault), (later, other, behind) in itertools.product(
            ((0, "1000", 3), (2, "#", 1), (3, "jour", 2)), ((5, "?", 1), (7, "0", 3), (14, ".", 2)),
        ):
            tokens = changed(place, token)
            tokens[later] = other
            text, places = spaced(tokens)
            self.check_fault(text, fault, places[place])
            self.check_fault(TEXT + text, fault, len(TEXT) + places[place])

    def test_a_fault_in_a_later_news(self):
        for size in range(1, 10):
            before = lines_of(size)
            self.check_fault(before + " 7.2 journey 1 passes at 10 minute", 3, len(before) + 25)
            self.check_fault(before + "\n7,2", 1, len(before) + 2)
            self.check_fault(before + "\n7;2", 2, len(before) + 2)
            self.check_fault(before + " .", 2, len(before) + 1)

    def test_ten_news_and_an_eleventh(self):
        ten = lines_of(10)
        self.check_right(ten, *[news(1 + k, minute=k) for k in range(10)])
        self.check_right(ten + " \n ", *[news(1 + k, minute=k) for k in range(10)])
        self.check_fault(lines_of(11), 7, len(ten) + 1)
        self.check_fault(lines_of(14), 7, len(ten) + 1)
        self.check_fault(ten + "\n  11", 7, len(ten) + 3)
        self.check_fault(ten + "7", 7, len(ten))
        self.check_fault(ten + "999 and what stands behind is not looked at: #", 7, len(ten))

    def test_what_is_no_eleventh_news(self):
        ten = lines_of(10)
        for token, fault in (("#", 1), ("01", 1), ("abcdefghi", 1), (";", 2), (".", 2), ("journey", 2)):
            self.check_fault(ten + " " + token, fault, len(ten) + 1)

    def test_an_eleventh_news_whatever_its_first_number(self):
        ten = lines_of(10)
        for number in ("0", "1", "999", "1000", "1000000001", "9999999999"):
            for behind in ("", " ", ".1 journey 1 leaves at 1 minute 0 found 0 left 0;", ".0", ";", " #", "at", " 01"):
                self.check_fault(ten + number + behind, 7, len(ten))
                self.check_fault(ten + "\n " + number + behind, 7, len(ten) + 2)

    def test_up_to_the_tenth_news_a_number_is_looked_at_for_its_range(self):
        for size in range(10):
            before = lines_of(size)
            for number in ("0", "1000", "9999999999"):
                self.check_fault(before + number, 3, len(before))
        for place, low, high in NUMBERS:
            text, fault, at = self.fault_at(place, str(high + 1), 3)
            self.check_fault(lines_of(9) + text, fault, len(lines_of(9)) + at)
            self.check_fault(lines_of(9) + text + lines_of(2), fault, len(lines_of(9)) + at)

    def test_what_ends_the_tenth_news(self):
        begun = lines_of(10)[:-1]
        for token, fault in (("", 2), ("11", 2), ("1000", 2), (".", 2), ("#", 1), ("00", 1)):
            self.check_fault(begun + " " + token, fault, len(begun) + 1)

    def test_the_same_news_ten_times(self):
        self.check_right(" ".join([TEXT] * 10), *[ROW] * 10)
        self.check_fault(" ".join([TEXT] * 11), 7, 10 * len(TEXT) + 10)

    def test_a_letter_of_1200_bytes(self):
        text = lines_of(10)
        self.check_right(text + " " * (1200 - len(text)), *[news(1 + k, minute=k) for k in range(10)])
        self.check_right("\n" * (1200 - len(text)) + text, *[news(1 + k, minute=k) for k in range(10)])
        self.check_fault(" " * 1199 + "?", 1, 1199)
        self.check_fault(" " * 1199 + "7", 2, 1200)
        self.check_fault("a" * 1200, 1, 0)
        self.check_fault(";" * 1200, 2, 0)
        self.check_fault("7." * 600, 2, 3)
        self.check_fault([255] * 1200, 1, 0)
        self.check_fault([0] * 1200, 1, 0)

    def test_mixed_up_tokens_beside_a_plain_reading(self):
        chance = random.Random(21)
        for again in range(300):
            tokens = TOKENS * chance.randint(1, 2)
            for k in range(chance.randint(0, 2)):
                tokens[chance.randrange(len(tokens))] = chance.choice(TOKENS + ["#", "00", "1000", "0", "nothing"])
            text, places = spaced(tokens)
            expected = [0, 0, 0]
            for k, token in enumerate(tokens):
                fault = self.plain_fault(k % 15, token)
                if fault:
                    expected = [0, fault, places[k]]
                    break
            self.assertEqual(last(check(text)), expected, text)

    def plain_fault(self, place, token):
        if token in ("#", "00"):
            return 1
        ranges = {number[0]: number[1:] for number in NUMBERS}
        if place in ranges:
            if not token.isdigit():
                return 2
            return 0 if ranges[place][0] <= int(token) <= ranges[place][1] else 3
        return 0 if token == TOKENS[place] or (place == 5 and token in DOES) else 2


class TextRowsTest(DeskTest):
    def test_numbers_that_are_no_bytes(self):
        for make in (letter, check, would):
            for number in (-1, 256, FAR, -FAR):
                for row in ([number], [32] * 1199 + [number], [number] + [32] * 1199, [number] * 1200, [35, number]):
                    self.check_refused([journey(), tell(news(1))], make(row), -1)

    def test_a_text_that_is_too_long(self):
        for make in (letter, check, would):
            self.assertEqual(last(make([32] * 1200))[0], 0)
            for size in (1201, 2400):
                self.check_refused([journey(), tell(news(1))], make([32] * size), -1)

    def test_the_ends_of_a_bytes_range(self):
        for byte in (0, 255):
            self.assertEqual(last(check([byte])), [0, 1, 0])
            self.assertEqual(last(letter([byte])), [-5])
            self.assertEqual(last(would([byte])), [-5])


class LetterTest(DeskTest):
    def test_the_news_are_told_as_by_tell(self):
        told = [news(1, 1, 1, 1, 0, 5, 0, 7), news(2, 1, 1, 2, 1, 9, 7, 8), news(3, 1, 2, 4, 3, 9, 1, 2), news(1, 2, 2, 9, 4, 5, 0, 7)]
        questions = [known(), counts(), peak(1), way(1), way(2), faults(1), keeper(1, 9), keeper(2, 9)]
        for size in range(5):
            by_tell = ask(journey(), journey(), tell(*told[:size]), *questions)
            by_letter = ask(journey(), journey(), letter(form_of(*told[:size])), *questions)
            self.assertEqual(by_tell, by_letter)

    def test_counts_those_known_then_that_were_not_known_so(self):
        one = news(1, 2, minute=10)
        for told, answer in (
            ([one], [0, 0, 1]), ([news(1, 1, minute=90)], [0, 0, 1]), ([news(1, 3)], [0, 1, 1]), ([news(2)], [0, 1, 2]),
            ([news(2), news(2, 2), news(1, 3, told=4)], [0, 2, 2]), ([], [0, 0, 1]),
        ):
            for make in (lambda rows: tell(*rows), lambda rows: letter(form_of(*rows))):
                self.assertEqual(last(journey(), letter(form_of(one)), make(told)), answer)
                self.assertEqual(last(journey(), tell(one), make(told)), answer)

    def test_no_such_journey(self):
        for j in (2, 16, 17, 99):
            self.check_refused([journey(), tell(news(1))], letter(form_of(news(5, j=j))), -3)
            self.check_refused([journey()], letter(form_of(news(5), news(6, j=j))), -3)
            self.check_refused([journey()], letter(form_of(news(6, j=j, told=4), news(5))), -3)
        self.check_refused([], letter(TEXT), -3)
        self.assertEqual(last(*SIXTEEN, letter(form_of(news(5, j=16)))), [0, 1, 1])
        self.check_refused(SIXTEEN, letter(form_of(news(5, j=17))), -3)

    def test_forty_tells_and_letters_together(self):
        for forty in ([letter("")] * 40, [tell(), letter("")] * 20, [tell()] * 39 + [letter("")], [letter("")] * 39 + [tell()]):
            self.assertEqual(ask(journey(), *forty)[1:], [[0, 0, 0]] * 40)
            for one_more in (letter(""), letter(TEXT), tell(), tell(ROW)):
                self.check_refused([journey()] + forty, one_more, -6)

    def test_refused_letters_are_not_counted(self):
        refused = [letter("7"), letter([256]), letter(form_of(news(1, j=2))), check(TEXT), would(TEXT)] * 2
        self.assertEqual(ask(journey(), *refused, *[letter("")] * 41)[11:], [[0, 0, 0]] * 40 + [[-6]])

    def test_eighty_known_and_no_more(self):
        eighty = [journey()] + [letter(lines_of(10, 10 * k + 1)) for k in range(8)]
        self.assertEqual(ask(*eighty)[-1], [0, 10, 80])
        self.check_refused(eighty, letter(form_of(news(81))), -6)
        self.check_refused(eighty, letter(form_of(news(80, 9), news(999, told=4))), -6)
        self.check_refused(eighty, tell(news(81)), -6)
        self.assertEqual(last(*eighty, letter(form_of(news(80, 9), news(79, 9), news(79, 9)))), [0, 2, 80])
        nearly = eighty[:-1] + [letter(lines_of(9, 71))]
        self.assertEqual(last(*nearly, letter(form_of(news(80), news(80, 2)))), [0, 1, 80])
        self.check_refused(nearly, letter(form_of(news(80), news(81))), -6)

    def test_which_refusal_comes_first(self):
        full = [journey()] + [letter(lines_of(10, 10 * k + 1)) for k in range(8)]
        forty = [journey()] + [letter("")] * 40
        for before in ([journey()], full, forty):
            self.check_refused(before, letter([35, 256]), -1)
            self.check_refused(before, letter([ord(sign) for sign in form_of(news(900, j=2))] + [-1]), -1)
            self.check_refused(before, letter(form_of(news(900, j=2)) + "?"), -5)
            self.check_refused(before, letter(form_of(news(900, j=100))), -5)
            self.check_refused(before, letter(form_of(*[news(900 + k, j=2) for k in range(11)])), -5)
            self.check_refused(before, letter(form_of(news(900), news(901, j=2))), -3)

    def test_one_fault_refuses_all(self):
        before = [journey(), tell(news(1))]
        self.check_refused(before, letter(lines_of(9, 20) + " 5.1 journey 1 leaves at 1 minute 0 found 0 left 0"), -5)
        self.check_refused(before, letter(lines_of(11, 20)), -5)


class FirstPromiseTest(DeskTest):
    def test_the_same_is_known_by_tell_and_by_letter_in_many_orders(self):
        chance = random.Random(20)
        for again in range(60):
            told = close_news(chance, 24)
            best = {row[0]: row for row in sorted(told)}
            expected = [0, len(best)] + [number for key in sorted(best) for number in best[key]]
            for order in range(4):
                mixed = told + chance.sample(told, 6)
                chance.shuffle(mixed)
                calls = []
                while mixed:
                    size = chance.randint(1, 10)
                    calls.append(chance.choice((tell(*mixed[:size]), letter(form_of(*mixed[:size])))))
                    mixed = mixed[size:]
                found = ask(journey(), journey(), *calls, known())
                self.assertEqual(found[-1], expected)
                self.assertTrue(all(answer[0] == 0 for answer in found))


if __name__ == "__main__":
    unittest.main()
