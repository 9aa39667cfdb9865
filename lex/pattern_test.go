package lex_test

import (
	"math/big"
	"math/rand"
	"reflect"
	"regexp"
	"strings"
	"testing"

	"ratline/api"
	"ratline/lex"
)

// A second reading of the chapter, by patterns, that Tokens is held against.
var (
	gap     = regexp.MustCompile(`^(?:[ \t\n\r]|#[^\n]*)+`)
	digits  = regexp.MustCompile(`^([0-9]+)(i?)`)
	letters = regexp.MustCompile(`^[A-Za-z_][A-Za-z_0-9]*`)
	quoted  = regexp.MustCompile(`^"((?:[^"\\\n]|\\["\\n])*)"`)
	signs   = regexp.MustCompile(`^(?:==|!=|<=|>=|&&|\|\||[(){}\[\],;=+*/%<>!-])`)
	goesOn  = regexp.MustCompile(`^[A-Za-z_0-9]`)
	keyword = regexp.MustCompile(`^(?:fn|let|if|else|while|break|continue|return|print|nil)$`)
)

// patterned is the token at the front of s, and its length; 0, if there is none.
func patterned(s string) (lex.Token, int) {
	if m := digits.FindStringSubmatch(s); m != nil {
		n, _ := new(big.Int).SetString(m[1], 10)
		if !n.IsInt64() || goesOn.MatchString(s[len(m[0]):]) {
			return lex.Token{}, 0
		}
		return lex.Token{Kind: api.TInt + len(m[2]), N: n.Int64()}, len(m[0])
	}
	if m := letters.FindString(s); len(m) > 16 {
		return lex.Token{}, 0
	} else if keyword.MatchString(m) {
		return lex.Token{Kind: api.TWord, Text: m}, len(m)
	} else if m != "" {
		return lex.Token{Kind: api.TName, Text: m}, len(m)
	}
	if m := quoted.FindStringSubmatch(s); m != nil {
		told := strings.NewReplacer(`\\`, `\`, `\"`, `"`, `\n`, "\n").Replace(m[1])
		return lex.Token{Kind: api.TText, Text: told}, len(m[0])
	}
	m := signs.FindString(s)
	return lex.Token{Kind: api.TOp, Text: m}, len(m)
}

func patternedAll(s string) (l []lex.Token, at int, e api.Errno) {
	if len(s) > 4000 {
		return nil, 0, api.ErrLong
	}
	for at < len(s) {
		if g := gap.FindString(s[at:]); g != "" {
			at += len(g)
			continue
		}
		x, n := patterned(s[at:])
		if n == 0 {
			return nil, at, api.ErrSyntax
		}
		x.At = at
		l = append(l, x)
		at += n
	}
	return l, 0, api.OK
}

// agrees holds Tokens and Name of s against the patterns.
func agrees(t *testing.T, s string) {
	t.Helper()
	l, at, e := lex.Tokens(s)
	wantL, wantAt, wantE := patternedAll(s)
	if len(l)+len(wantL) > 0 && !reflect.DeepEqual(l, wantL) || at != wantAt || e != wantE {
		t.Fatalf("%.200q: %.300v, %d, %d, want %.300v, %d, %d", s, l, at, e, wantL, wantAt, wantE)
	}
	nameAgrees(t, s)
}

func nameAgrees(t *testing.T, s string) {
	t.Helper()
	x, n := patterned(s)
	if want := n == len(s) && x.Kind == api.TName; lex.Name(s) != want {
		t.Fatalf("Name(%.200q) is %v", s, !want)
	}
}

// Every text of few signs, of those that tell most.
func TestShortTexts(t *testing.T) {
	const few = "ai_1 \n#\"\\n=!<&|(\xff"
	var from func(s string, more int)
	from = func(s string, more int) {
		agrees(t, s)
		for i := 0; more > 0 && i < len(few); i++ {
			from(s+few[i:i+1], more-1)
		}
	}
	from("", 4)
}

// Pieces of sources in any order, sound and wrong ones.
func TestPiecesTogether(t *testing.T) {
	pieces := append(words(), append(shortOps(), longOps()...)...)
	pieces = append(pieces, "x", "Main", "_1", "abcdefghijklmnop", "abcdefgh", "0", "12", "007", "9223372036854775807", "922337203685477580", "2i", "i",
		`""`, `"a\n"`, `"\\\""`, `"# b"`, "\"\xff\"", `"`, `\`, " ", "\t", "\n", "\r", "# all\n", "#", "&", "|", "$", "é", "\x00")
	r := rand.New(rand.NewSource(4))
	for range 30000 {
		var b strings.Builder
		for range r.Intn(12) {
			b.WriteString(pieces[r.Intn(len(pieces))])
			if r.Intn(2) == 0 {
				b.WriteByte(' ')
			}
		}
		agrees(t, b.String())
	}
}

// Promise 4.2 and W9: any bytes are answered, by tokens or by an error.
func TestAnyBytes(t *testing.T) {
	r := rand.New(rand.NewSource(42))
	for range 20000 {
		b := make([]byte, r.Intn(40))
		most := 1 + r.Intn(256)
		for i := range b {
			b[i] = byte(r.Intn(most))
		}
		agrees(t, string(b))
	}
	for b := range 256 {
		for _, n := range []int{2, 3, 15, 16, 17, 18, 19, 20, 3999, 4000, 4001} {
			agrees(t, strings.Repeat(string([]byte{byte(b)}), n))
		}
		long := strings.Repeat(string([]byte{byte(b)}), 1<<16)
		expectError(t, long, 0, api.ErrLong)
		nameAgrees(t, long)
	}
}

func FuzzTokens(f *testing.F) {
	for _, s := range []string{"x==2i", "fn main(){print \"a\\n\";}", "# all\n1 &", "9223372036854775808", "\"\\", "\xff"} {
		f.Add(s)
	}
	f.Fuzz(agrees)
}
