package certify

import (
	"strconv"
	"strings"

	"criadera/api"
	"criadera/texts"
)

// The words of what is asked.
const (
	wordOfMean  = "mean"
	wordOfShare = "share"
)

// textOf writes words of several types, with single blanks between.
func textOf(words ...any) string {
	var l []string
	for _, word := range words {
		switch x := word.(type) {
		case string:
			l = append(l, x)
		case int:
			l = append(l, strconv.Itoa(x))
		case []int:
			for _, n := range x {
				l = append(l, textOf(n))
			}
		case api.Range:
			l = append(l, textOf(x.Lo, x.Hi))
		case api.CertifyAsk:
			l = append(l, textOfAsk(x))
		}
	}
	return strings.Join(l, " ")
}

func textOfAsk(a api.CertifyAsk) string {
	if a.Kind == api.CertifyShare {
		return textOf(wordOfShare, a.Age)
	}
	return wordOfMean
}

// A reader is the words of a text that are not read yet, and the most digits of numbers.
type reader struct {
	words  []string
	digits int
}

// isRead tells whether a text is such words, and puts them into the places.
func isRead(text string, digits int, places ...any) bool {
	r := reader{words: strings.Split(text, " "), digits: digits}
	for _, place := range places {
		if !r.fill(place) {
			return false
		}
	}
	return len(r.words) == 0
}

// next is the next word, if there is one.
func (r *reader) next() (string, bool) {
	if len(r.words) == 0 {
		return "", false
	}
	word := r.words[0]
	r.words = r.words[1:]
	return word, true
}

// fill reads what belongs into a place, which has one of the types of textOf; a string stands for itself.
func (r *reader) fill(place any) bool {
	ok := false
	switch x := place.(type) {
	case string:
		word, isThere := r.next()
		ok = isThere && word == x
	case *string:
		*x, ok = r.next()
	case *int:
		word, _ := r.next()
		*x, ok = texts.Signed(word, r.digits)
	case *[]int:
		*x, ok = texts.Numbers(r.words, len(r.words), r.digits)
		r.words = nil
	case *api.Range:
		ok = r.fill(&x.Lo) && r.fill(&x.Hi)
	case *api.CertifyAsk:
		ok = r.fillAsk(x)
	}
	return ok
}

func (r *reader) fillAsk(a *api.CertifyAsk) bool {
	switch word, _ := r.next(); word {
	case wordOfMean:
		*a = api.CertifyAsk{Kind: api.CertifyMean}
		return true
	case wordOfShare:
		a.Kind = api.CertifyShare
		return r.fill(&a.Age)
	}
	return false
}
