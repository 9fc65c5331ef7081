package lexer_test

import (
	"slices"
	"strconv"
	"strings"
	"testing"

	"nameplan/api"
	"nameplan/lexer"
	"nameplan/sample"
)

func word(s string, at int) api.Token  { return api.Token{Kind: api.TokWord, Text: s, At: at} }
func punct(s string, at int) api.Token { return api.Token{Kind: api.TokPunct, Text: s, At: at} }
func number(n, at int) api.Token       { return api.Token{Kind: api.TokNumber, N: n, At: at} }

// P3.1: tokens of all kinds.
func TestTokens(t *testing.T) {
	for source, want := range map[string][]api.Token{
		"":                         nil,
		" \t\n# { \" \x00\n":       nil,
		"#a":                       nil,
		`zone x. { @ text "a b";}`: {word("zone", 0), word("x.", 5), punct("{", 8), punct("@", 10), word("text", 12), word(`"a b"`, 17), punct(";", 22), punct("}", 23)},
		"0a 0 10 .":                {word("0a", 0), number(0, 3), number(10, 5), word(".", 8)},
		"*.a-.b=,1000000000":       {word("*.a-.b", 0), punct("=", 6), punct(",", 7), number(1000000000, 8)},
		`a"#"1`:                    {word("a", 0), word(`"#"`, 1), number(1, 4)},
		"a#b\nc":                   {word("a", 0), word("c", 4)},
		"-":                        nil,
	} {
		l, e, at := lexer.Lex(source)
		if source == "-" {
			if e != api.ErrSyntax {
				t.Error(e)
			}
			continue
		}
		if e != api.OK || at != 0 || !slices.Equal(l, want) {
			t.Errorf("%q: %v %v %d", source, l, e, at)
		}
	}
}

// P3.1: errors, at their offsets.
func TestErrors(t *testing.T) {
	many := strings.Repeat(";", 2000)
	for _, x := range []struct {
		source string
		e      api.Errno
		at     int
	}{
		{strings.Repeat(" ", 8001), api.ErrLimit, 0},
		{"a -a", api.ErrSyntax, 2}, {".a", api.ErrSyntax, 0}, {"..", api.ErrSyntax, 0}, {"a A", api.ErrSyntax, 2}, {"a\r", api.ErrSyntax, 1}, {"é", api.ErrSyntax, 0},
		{`""`, api.ErrSyntax, 0}, {`a "b`, api.ErrSyntax, 2}, {"\"a\n\"", api.ErrSyntax, 0},
		{many + " a", api.ErrLimit, 2001}, {many + " A", api.ErrSyntax, 2001}, {many + " 01", api.ErrLimit, 2001},
		{" " + strings.Repeat("a", 61), api.ErrRange, 1}, {strings.Repeat("0", 61) + "a", api.ErrRange, 0}, {`"` + strings.Repeat("é", 20) + `a"`, api.ErrRange, 0},
		{"01", api.ErrSyntax, 0}, {"00", api.ErrSyntax, 0}, {"1000000001", api.ErrRange, 0}, {strings.Repeat("9", 70), api.ErrRange, 0}, {strings.Repeat("0", 70), api.ErrSyntax, 0},
	} {
		if l, e, at := lexer.Lex(x.source); len(l) > 0 || e != x.e || at != x.at {
			t.Errorf("%.20q: %v %v %d", x.source, len(l), e, at)
		}
	}
	for _, s := range []string{many, strings.Repeat("a", 60), `"` + strings.Repeat("é", 20) + `"`, strings.Repeat(" ", 8000)} {
		if _, e, _ := lexer.Lex(s); e != api.OK {
			t.Errorf("%.20q: %v", s, e)
		}
	}
}

var parts = []string{"a", "0", "17", "x.y", "*", ".", `"t t"`, "{", "}", ";", ",", "=", "@", "9z", "*.q", `"{"`}
var gaps = []string{" ", "\n", "\t ", "# c { \"\n", " #\n#\n"}

func source(d *sample.Dice) string {
	var b strings.Builder
	for range d.Roll(12) {
		b.WriteString(parts[d.Roll(len(parts))])
		b.WriteString(gaps[d.Roll(len(gaps))])
	}
	return b.String()
}

func text(x api.Token) string {
	if x.Kind == api.TokNumber {
		return strconv.Itoa(x.N)
	}
	return x.Text
}

func bare(l []api.Token) []api.Token {
	l = slices.Clone(l)
	for i := range l {
		l[i].At = 0
	}
	return l
}

// P3.2, P3.3, P3.4, P3.5: cover, gaps, joining, texts.
func TestLaws(t *testing.T) {
	d := sample.New(3)
	before, _, _ := lexer.Lex("q")
	old := "q"
	for range 300 {
		s := source(d)
		l, e, _ := lexer.Lex(s)
		if e != api.OK {
			t.Fatalf("%q: %v", s, e)
		}
		end := 0
		var texts []string
		for _, x := range append(slices.Clone(l), api.Token{At: len(s)}) {
			if m, e, _ := lexer.Lex(s[end:x.At]); len(m) > 0 || e != api.OK {
				t.Errorf("%q: no gap before %d", s, x.At)
			}
			if x.Kind == 0 {
				break
			}
			if !strings.HasPrefix(s[x.At:], text(x)) {
				t.Errorf("%q: %v", s, x)
			}
			end = x.At + len(text(x))
			texts = append(texts, text(x))
			gap := gaps[d.Roll(len(gaps))]
			m, e, _ := lexer.Lex(s[:x.At] + gap + s[x.At:])
			for i := range m {
				if m[i].At > x.At {
					m[i].At -= len(gap)
				}
			}
			if e != api.OK || !slices.Equal(m, l) {
				t.Errorf("%q with a gap at %d: %v", s, x.At, m)
			}
		}
		if m, e, _ := lexer.Lex(old + "\n" + s); e != api.OK || !slices.Equal(bare(m), bare(append(slices.Clone(before), l...))) {
			t.Errorf("%q and %q: %v", old, s, m)
		}
		if m, e, _ := lexer.Lex(strings.Join(texts, " ")); e != api.OK || !slices.Equal(bare(m), bare(l)) {
			t.Errorf("%q: %v", texts, m)
		}
		old, before = s, l
	}
}

// P3.6: what follows the token with an error does not matter, what precedes it changes its offset.
func TestFirstError(t *testing.T) {
	d := sample.New(4)
	for _, bad := range []string{"-a", "..", "01", "1000000001", "A", `""`, strings.Repeat("a", 61)} {
		_, want, _ := lexer.Lex(bad)
		for range 20 {
			s, r := source(d), source(d)
			if _, e, at := lexer.Lex(s + "\n" + bad + "\n" + r + bad); e != want || at != len(s)+1 {
				t.Errorf("%q behind %q: %v %d", bad, s, e, at)
			}
		}
	}
}
