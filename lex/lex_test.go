package lex_test

import (
	"math"
	"math/rand"
	"slices"
	"strconv"
	"strings"
	"testing"

	"doorward/api"
	"doorward/lex"
)

func check(t *testing.T, s string, want []api.Token, e api.Errno, at int) {
	t.Helper()
	if l, f, place := lex.Lex(s); !slices.Equal(l, want) || f != e || place != at {
		t.Errorf("Lex(%q) = %v, %d, %d", s, l, f, place)
	}
}

func word(s string, at int) api.Token   { return api.Token{Kind: api.TWord, Text: s, At: at} }
func number(s string, at int) api.Token { return api.Token{Kind: api.TNumber, Text: s, At: at} }
func sign(s string, at int) api.Token   { return api.Token{Kind: api.TSign, Text: s, At: at} }
func line(at int) api.Token             { return api.Token{Kind: api.TLine, Text: "\n", At: at} }
func end(at int) api.Token              { return api.Token{Kind: api.TEnd, At: at} }

// P14.1: numbers' texts.
func TestNumber(t *testing.T) {
	for s, want := range map[string]uint64{
		"0": 0, "1": 1, "9": 9, "10": 10, "7": 7, "4095": 4095, "18446744073709551615": math.MaxUint64, "18446744073709551609": math.MaxUint64 - 6, "9999999999999999999": 9999999999999999999,
		"0x0": 0, "0x00": 0, "0x1f": 31, "0xabcdef": 0xabcdef, "0x0123456789abcdef": 0x0123456789abcdef, "0xffffffffffffffff": math.MaxUint64, "0x0000000000000001": 1, "0x8000000000000000": 1 << 63,
	} {
		if n, ok := lex.Number(s); n != want || !ok {
			t.Errorf("Number(%q) = %d, %v", s, n, ok)
		}
	}
	for _, s := range []string{
		"", "00", "01", "007", "0123", "18446744073709551616", "18446744073709551620", "99999999999999999999", "100000000000000000000", strings.Repeat("9", 3000), "36893488147419103232",
		"0x", "0x00000000000000000", "0x10000000000000000", "0xg", "0xA", "0xF", "0X1", "0x1F", "00x1", "1x1", "x1", "x", "0x 1", "0x1 ", " 1", "1 ", "+1", "-1", "1_0", "0x1_0", "0x_1", "0b1", "0o7", "1e3", "1.0", "a", "1a", "abc", "٣", "1\x00", "0x0x1", "\n", "0x-1", "0x+1",
	} {
		if n, ok := lex.Number(s); n != 0 || ok {
			t.Errorf("Number(%q) = %d, %v", s, n, ok)
		}
	}
	r := rand.New(rand.NewSource(1))
	for range 1000 {
		n := r.Uint64() >> r.Intn(64)
		for _, s := range []string{strconv.FormatUint(n, 10), "0x" + strconv.FormatUint(n, 16)} {
			if got, ok := lex.Number(s); got != n || !ok {
				t.Errorf("Number(%q) = %d, %v", s, got, ok)
			}
		}
	}
}

// P14.2: each kind of token, its text and its place.
func TestTokens(t *testing.T) {
	check(t, "", []api.Token{end(0)}, api.OK, 0)
	check(t, " \t\r ", []api.Token{end(4)}, api.OK, 0)
	check(t, "\n", []api.Token{line(0), end(1)}, api.OK, 0)
	check(t, "\n\r\n", []api.Token{line(0), line(2), end(3)}, api.OK, 0)
	check(t, "a", []api.Token{word("a", 0), end(1)}, api.OK, 0)
	check(t, "_ z_9 x86_64 a0b", []api.Token{word("_", 0), word("z_9", 2), word("x86_64", 6), word("a0b", 13), end(16)}, api.OK, 0)
	check(t, "0 12 0xff 0x1f\t9", []api.Token{number("0", 0), number("12", 2), number("0xff", 5), number("0x1f", 10), number("9", 15), end(16)}, api.OK, 0)
	check(t, "== != <= >= < > & ( )", []api.Token{sign("==", 0), sign("!=", 3), sign("<=", 6), sign(">=", 9), sign("<", 12), sign(">", 14), sign("&", 16), sign("(", 18), sign(")", 20), end(21)}, api.OK, 0)
	check(t, "==!=<=>=<>&()", []api.Token{sign("==", 0), sign("!=", 2), sign("<=", 4), sign(">=", 6), sign("<", 8), sign(">", 9), sign("&", 10), sign("(", 11), sign(")", 12), end(13)}, api.OK, 0)
	check(t, "<<=>>===", []api.Token{sign("<", 0), sign("<=", 1), sign(">", 3), sign(">=", 4), sign("==", 6), end(8)}, api.OK, 0)
	check(t, "a<1&b", []api.Token{word("a", 0), sign("<", 1), number("1", 2), sign("&", 3), word("b", 4), end(5)}, api.OK, 0)
	check(t, "a1 1\na", []api.Token{word("a1", 0), number("1", 3), line(4), word("a", 5), end(6)}, api.OK, 0)
	check(t, "a# b == ~\nc", []api.Token{word("a", 0), line(9), word("c", 10), end(11)}, api.OK, 0)
	check(t, "#", []api.Token{end(1)}, api.OK, 0)
	check(t, "# \xff\x00~!", []api.Token{end(6)}, api.OK, 0)
	check(t, "##\n#\n", []api.Token{line(2), line(4), end(5)}, api.OK, 0)
	check(t, "a#b#c\r\nd", []api.Token{word("a", 0), line(6), word("d", 7), end(8)}, api.OK, 0)
}

// P14.2: bytes at which nothing stands.
func TestErrors(t *testing.T) {
	for _, s := range []string{"=", "!", "A", "Z", "-", "+", "|", "~", "\x00", "\x0b", "\x0c", "\x7f", "\x80", "\xff", "é", "/", ":", ";", ",", ".", "\"", "'", "`", "{", "}", "[", "]", "@", "$", "%", "^", "*", "?", "\\", "=!", "=<", "!<"} {
		for _, ahead := range []string{"", "a ", "a", "<= ", "1 \n", "# =\n"} {
			check(t, ahead+s, nil, api.ErrLex, len(ahead))
			check(t, ahead+s+" a", nil, api.ErrLex, len(ahead))
		}
	}
	for _, s := range []string{"007", "00", "0x", "0xg", "1a", "0x1g", "0x_", "12ab", "18446744073709551616", "0x10000000000000000", "1_000", "9z"} {
		check(t, s, nil, api.ErrLex, 0)
		check(t, "arg0 == "+s+" and", nil, api.ErrLex, 8)
		check(t, "\n\n"+s, nil, api.ErrLex, 2)
	}
	check(t, "1A", nil, api.ErrLex, 1)
	check(t, "0X1", nil, api.ErrLex, 1)
	check(t, "0xA", nil, api.ErrLex, 0)
	check(t, "aA", nil, api.ErrLex, 1)
	check(t, "a === b", nil, api.ErrLex, 4)
	check(t, "a =\n b", nil, api.ErrLex, 2)
	check(t, "~ 007", nil, api.ErrLex, 0)
	check(t, "007 ~", nil, api.ErrLex, 0)
}

// P14.2: ErrLong comes first.
func TestLong(t *testing.T) {
	longest := strings.Repeat("a ", 1000)
	if l, e, at := lex.Lex(longest); len(l) != 1001 || l[1000] != end(2000) || e != api.OK || at != 0 {
		t.Error(len(l), e, at)
	}
	check(t, longest+" ", nil, api.ErrLong, 0)
	check(t, "~"+longest, nil, api.ErrLong, 0)
	check(t, strings.Repeat("\n", 5000), nil, api.ErrLong, 0)
	check(t, "~"+longest[1:], nil, api.ErrLex, 0)
	check(t, longest[1:]+"~", nil, api.ErrLex, 1999)
}

// some is a random source of tokens, parted by what is handed in.
func some(r *rand.Rand, n int, between func() string) string {
	texts := []string{"a", "allow", "if", "arg0", "x86_64", "0", "12", "0x1f", "==", "!=", "<=", ">=", "<", ">", "&", "(", ")", "\n"}
	s := ""
	for range n {
		s += texts[r.Intn(len(texts))] + between()
	}
	return s
}

// P14.3: the tokens' texts stand at their places, in order, none within another one; what is put between two changes no kind and no text.
func TestTextsStandAtTheirPlaces(t *testing.T) {
	r := rand.New(rand.NewSource(2))
	for range 2000 {
		seed, n := r.Int63(), r.Intn(30)
		plain := some(rand.New(rand.NewSource(seed)), n, func() string { return " " })
		wide := some(rand.New(rand.NewSource(seed)), n, func() string { return []string{" ", "\t", "\r", "  ", " \t\r "}[r.Intn(5)] })
		l, e, _ := lex.Lex(plain)
		m, f, _ := lex.Lex(wide)
		if e != api.OK || f != api.OK || len(l) != len(m) || len(l) != n+1 {
			t.Fatalf("%q: %d, %q: %d", plain, e, wide, f)
		}
		for _, c := range []struct {
			s string
			l []api.Token
		}{{plain, l}, {wide, m}} {
			behind := 0
			for i, x := range c.l {
				if x.Kind != l[i].Kind || x.Text != l[i].Text || x.At < behind || !strings.HasPrefix(c.s[x.At:], x.Text) || (x.Text == "") != (x.Kind == api.TEnd) {
					t.Fatalf("%q: %v", c.s, x)
				}
				behind = x.At + len(x.Text)
			}
		}
	}
}

// P14.3: a remark ahead of an end of line changes nothing.
func TestRemarksChangeNothing(t *testing.T) {
	l, _, _ := lex.Lex("a == 1 \nb")
	m, e, _ := lex.Lex("a == 1 # ~ 007 if\nb")
	for i := range l {
		if e != api.OK || len(m) != len(l) || l[i].Kind != m[i].Kind || l[i].Text != m[i].Text {
			t.Fatal(l, m, e)
		}
	}
}

// P1: whatever the bytes are, nothing panics, and all is told.
func TestNothingPanics(t *testing.T) {
	r := rand.New(rand.NewSource(3))
	for range 20000 {
		b := make([]byte, r.Intn(12))
		for i := range b {
			b[i] = byte(r.Intn(256))
			if r.Intn(4) > 0 {
				b[i] = "ab_019x <>=!&()\n#\t\r"[r.Intn(19)]
			}
		}
		l, e, at := lex.Lex(string(b))
		if e == api.OK && (at != 0 || len(l) == 0 || l[len(l)-1] != end(len(b))) || e != api.OK && (e != api.ErrLex || at >= len(b) || len(l) != 0) {
			t.Fatalf("%q: %v, %d, %d", b, l, e, at)
		}
	}
}

// The chapter's examples.
func TestExamples(t *testing.T) {
	check(t, "allow read if arg0 <= 0x1f", []api.Token{word("allow", 0), word("read", 6), word("if", 11), word("arg0", 14), sign("<=", 19), number("0x1f", 22), end(26)}, api.OK, 0)
	check(t, "007", nil, api.ErrLex, 0)
}
