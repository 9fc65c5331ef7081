package console

import (
	"strconv"

	"nameplan/api"
)

// typeWords are the words of the types.
var typeWords = [api.Types + 1]string{"", "addr", "server", "alias", "start", "text", "anchor", "key", "next"}

// answerWords are the words of the kinds of answers.
var answerWords = [api.AnsRefused + 1]string{"", "data", "wild", "alias", "refer", "nodata", "noname", "refused"}

// clashWords are the words of the kinds of clashes.
var clashWords = [api.ClashData + 1]string{"", "anchor", "keys", "servers", "window", "data"}

// findingWords are the words of the kinds of findings.
var findingWords = [api.FindSides + 1]string{"", "lame", "glue", "noaddr", "sides"}

// verdictWords are the words of the kinds of verdicts.
var verdictWords = [api.Missing + 1]string{"", "secure", "bogus", "dark"}

// guiltWords are the words of the kinds of guilt.
var guiltWords = [api.GuiltPlan + 1]string{"none", "operator", "liar", "net", "resolver", "plan"}

const maxDigits = 8

// reading reads the word of an argument.
type reading func(word string)

// arguments reads words, as many as there are readings.
func arguments(words []string, l ...reading) {
	need(len(words) == len(l), api.ErrSyntax)
	for i, read := range l {
		read(words[i])
	}
}

func isNumber(s string) bool {
	if len(s) < 1 || len(s) > maxDigits || len(s) > 1 && s[0] == '0' {
		return false
	}
	for i := 0; i < len(s); i++ {
		if s[i] < '0' || s[i] > '9' {
			return false
		}
	}
	return true
}

// number reads a number.
func number(n *int) reading {
	return func(word string) {
		need(isNumber(word), api.ErrSyntax)
		*n, _ = strconv.Atoi(word)
	}
}

// text reads any word.
func text(s *string) reading {
	return func(word string) { *s = word }
}

// kind reads a type.
func kind(typ *int) reading {
	return func(word string) {
		for i, w := range typeWords {
			if i > 0 && w == word {
				*typ = i
				return
			}
		}
		need(false, api.ErrSyntax)
	}
}

// numbers reads words that are all numbers, of which there is at least one.
func numbers(words []string) []int {
	need(len(words) > 0, api.ErrSyntax)
	var out []int
	for _, w := range words {
		n := 0
		number(&n)(w)
		out = append(out, n)
	}
	return out
}

func decimal(n int) string { return strconv.Itoa(n) }

// sets returns the words of sets.
func sets(l []api.Signed) []string {
	var out []string
	for _, s := range l {
		out = append(out, s.Set.Name+"/"+typeWords[s.Set.Type])
	}
	return out
}

// clash returns the words of a clash.
func clash(x api.Clash) []string { return []string{clashWords[x.Kind], x.Zone} }
