package parse_test

import (
	"math/rand"
	"slices"
	"strings"
	"testing"

	"ratline/api"
	"ratline/lex"
	"ratline/parse"
)

// A second reading of the chapter, that Program and Expr are held against: its grammar as rules, gone through from all sides at once (after Earley), which finds the first token with which no source goes on.

const rules = `
program = ; program fun
fun = fn name ( params ) block
params = ; names
names = name ; names , name
block = { statements }
statements = ; statements statement
statement = let name = expr SEMI ; name = expr SEMI ; choice ; while expr block ; break SEMI ; continue SEMI ; return SEMI ; return expr SEMI ; print expr SEMI ; expr SEMI
choice = if expr block ; if expr block else block ; if expr block else choice
expr = e1
e1 = e2 ; e1 || e2
e2 = e3 ; e2 && e3
e3 = e4 ; e4 compare e4
compare = == ; != ; < ; <= ; > ; >=
e4 = e5 ; e4 + e5 ; e4 - e5
e5 = e6 ; e5 * e6 ; e5 / e6 ; e5 % e6
e6 = e7 ; - e6 ; ! e6
e7 = e8 ; e7 [ expr ]
e8 = int ; imag ; text ; nil ; name ; name ( operands ) ; [ operands ] ; ( expr )
operands = ; exprs
exprs = expr ; exprs , expr
`

type rule struct {
	name  string
	right []string
}

type grammar map[string][]*rule

func readRules() grammar {
	g := grammar{}
	for _, line := range strings.Split(strings.TrimSpace(rules), "\n") {
		name, all, _ := strings.Cut(line, " =")
		for _, right := range strings.Split(all, " ;") {
			g[name] = append(g[name], &rule{name, strings.Fields(right)})
		}
	}
	return g
}

// item is a rule that is read up to a place, from one of the sets on.
type item struct {
	*rule
	at, from int
}

type stage struct {
	items []item
	known map[item]int
}

func (s *stage) add(i item) {
	if _, ok := s.known[i]; !ok {
		s.known[i] = 1
		s.items = append(s.items, i)
	}
}

// chart is all that tokens may be the front of.
type chart struct {
	g     grammar
	start string
	sets  []*stage
}

func newChart(g grammar, start string) *chart {
	c := &chart{g: g, start: start, sets: []*stage{{known: map[item]int{}}}}
	c.predict(c.sets[0], start, 0)
	c.close()
	return c
}

func (c *chart) predict(s *stage, name string, here int) {
	for _, r := range c.g[name] {
		s.add(item{r, 0, here})
	}
}

// empty tells whether nothing is one of those that name may be.
func (c *chart) empty(name string) bool {
	return slices.ContainsFunc(c.g[name], func(r *rule) bool { return len(r.right) == 0 })
}

func (c *chart) close() {
	here := len(c.sets) - 1
	s := c.sets[here]
	for k := 0; k < len(s.items); k++ {
		i := s.items[k]
		if i.at < len(i.right) {
			c.predict(s, i.right[i.at], here)
			if c.empty(i.right[i.at]) {
				s.add(item{i.rule, i.at + 1, i.from})
			}
			continue
		}
		for _, j := range c.sets[i.from].items {
			if j.at < len(j.right) && j.right[j.at] == i.name {
				s.add(item{j.rule, j.at + 1, j.from})
			}
		}
	}
}

// push reads a token; false, if no source goes on with it.
func (c *chart) push(word string) bool {
	s := &stage{known: map[item]int{}}
	for _, i := range c.sets[len(c.sets)-1].items {
		if i.at < len(i.right) && i.right[i.at] == word {
			s.add(item{i.rule, i.at + 1, i.from})
		}
	}
	if len(s.items) == 0 {
		return false
	}
	c.sets = append(c.sets, s)
	c.close()
	return true
}

func (c *chart) pop() {
	c.sets = c.sets[:len(c.sets)-1]
}

// whole tells whether the tokens are all of a source.
func (c *chart) whole() bool {
	return slices.ContainsFunc(c.sets[len(c.sets)-1].items, func(i item) bool { return i.name == c.start && i.from == 0 && i.at == len(i.right) })
}

// ruleWord is what the rules call a token.
func ruleWord(t lex.Token) string {
	switch t.Kind {
	case api.TName:
		return "name"
	case api.TInt:
		return "int"
	case api.TImag:
		return "imag"
	case api.TText:
		return "text"
	}
	if t.Text == ";" {
		return "SEMI"
	}
	return t.Text
}

// firstWrong is which token is the first that does not go on; how many there are, if it is the end; -1, if none is.
func firstWrong(g grammar, l []lex.Token, start string) int {
	c := newChart(g, start)
	for i, t := range l {
		if !c.push(ruleWord(t)) {
			return i
		}
	}
	if !c.whole() {
		return len(l)
	}
	return -1
}

// endsOperand tells whether an operand may end with t.
func endsOperand(t lex.Token) bool {
	return t.Kind != api.TOp && t.Kind != api.TWord || strings.Contains(" ) ] nil ", " "+t.Text+" ")
}

// firstDeep is which token is the first at which more than 24 are open, by what stands open alone; -1, if none is.
func firstDeep(l []lex.Token) int {
	var open []string
	close := func(what string) {
		for len(open) > 0 && open[len(open)-1] == "ahead" && what != "ahead" {
			open = open[:len(open)-1]
		}
		if len(open) > 0 && what != "" {
			open = open[:len(open)-1]
		}
	}
	params := false
	for i, t := range l {
		behind := i > 0 && endsOperand(l[i-1])
		bracket := i+1 < len(l) && ruleWord(l[i+1]) == "("
		header := i > 0 && ruleWord(l[i-1]) == "fn"
		switch w := ruleWord(t); {
		case header && bracket:
			params = true
		case params:
			params = w != ")"
		case w == "name" && bracket:
			open = append(open, "call")
		case w == "(" && i > 0 && l[i-1].Kind == api.TName:
			// it is the call's, and counted with it
		case w == "(", w == "[":
			open = append(open, w)
		case w == "{":
			close("")
			open = append(open, w)
		case w == ")", w == "]", w == "}":
			close(w)
		case (w == "-" || w == "!") && !behind:
			open = append(open, "ahead")
		default:
			if behind {
				close("")
			}
		}
		if len(open) > 24 {
			return i
		}
	}
	return -1
}

// tooMany counts functions and parameters of a source that is sound.
func tooMany(l []lex.Token) bool {
	funs, params := 0, 0
	for i, t := range l {
		if t.Kind == api.TWord && t.Text == "fn" {
			funs++
			params = 0
			for _, p := range l[i+3:] {
				if p.Text == ")" {
					break
				}
				if p.Kind == api.TName {
					params++
				}
			}
			if params > 8 {
				return true
			}
		}
	}
	return funs > 16
}

// ruled is what the rules say of s.
func ruled(g grammar, s, start string) (at int, e api.Errno) {
	l, at, e := lex.Tokens(s)
	if e != api.OK {
		return at, e
	}
	place := func(i int) int {
		if i < len(l) {
			return l[i].At
		}
		return len(s)
	}
	wrong, deep := firstWrong(g, l, start), firstDeep(l)
	switch {
	case deep >= 0 && (wrong < 0 || deep < wrong):
		return place(deep), api.ErrDeep
	case wrong >= 0:
		return place(wrong), api.ErrSyntax
	case start == "program" && tooMany(l):
		return 0, api.ErrMany
	}
	return 0, api.OK
}

// agrees holds Expr and Program of s against the rules; and asks that what they read is told by a text that is read as the same.
func agrees(t *testing.T, g grammar, s string) {
	t.Helper()
	exprAgrees(t, g, s)
	l, at, e := parse.Program(s)
	wantAt, wantE := ruled(g, s, "program")
	if at != wantAt || e != wantE || e != api.OK && l != nil {
		t.Fatalf("Program(%.300q): %s, %d, %d, want %d, %d", s, short(l), at, e, wantAt, wantE)
	}
	if e == api.OK {
		printsBack(t, l)
	}
}

func exprAgrees(t *testing.T, g grammar, s string) {
	t.Helper()
	n, at, e := parse.Expr(s)
	wantAt, wantE := ruled(g, s, "expr")
	if at != wantAt || e != wantE || e != api.OK && !isZeroTree(n) {
		t.Fatalf("Expr(%.300q): %s, %d, %d, want %d, %d", s, short(n), at, e, wantAt, wantE)
	}
	if e == api.OK {
		showsBack(t, n)
	}
}

// Every row of a few tokens. What stands behind a token that does not go on does not matter.
func TestShortSources(t *testing.T) {
	g := readRules()
	for start, words := range map[string][]string{
		"expr":    {"a", "1", "\"t\"", "nil", "(", ")", "[", "]", ",", "-", "!", "*", "==", "<", "&&", "||", "=", ";", "if"},
		"program": {"fn", "f", "(", ")", "{", "}", ";", ",", "=", "==", "-", "if", "else", "while", "let", "return", "break", "print", "1"},
	} {
		front := map[string]string{"expr": "", "program": "fn f ( a ) { if a { } "}[start]
		c := newChart(g, start)
		tokens, _, _ := lex.Tokens(front)
		for _, x := range tokens {
			c.push(ruleWord(x))
		}
		var from func(s string, more int)
		from = func(s string, more int) {
			if c.whole() {
				shortAgrees(t, start, s, 0, api.OK)
			} else {
				shortAgrees(t, start, s, len(s), api.ErrSyntax)
			}
			for i := 0; more > 0 && i < len(words); i++ {
				x, _, _ := lex.Tokens(words[i])
				if !c.push(ruleWord(x[0])) {
					shortAgrees(t, start, s+words[i]+" ) ;", len(s), api.ErrSyntax)
					continue
				}
				from(s+words[i]+" ", more-1)
				c.pop()
			}
		}
		from(front, 5)
	}
}

func shortAgrees(t *testing.T, start, s string, wantAt int, wantE api.Errno) {
	t.Helper()
	var at int
	var e api.Errno
	if start == "expr" {
		_, at, e = parse.Expr(s)
	} else {
		_, at, e = parse.Program(s)
	}
	if at != wantAt || e != wantE {
		t.Fatalf("%s %q: %d, %d, want %d, %d", start, s, at, e, wantAt, wantE)
	}
}

func pieces() []string {
	return []string{
		"fn", "let", "if", "else", "while", "break", "continue", "return", "print", "nil", "a", "f", "abcdefghijklmnop", "0", "12", "2i", `"x"`, `"\n"`,
		"(", ")", "{", "}", "[", "]", ",", ";", "=", "+", "-", "*", "/", "%", "<", ">", "!", "==", "!=", "<=", ">=", "&&", "||",
	}
}

// pushAll reads the tokens of s; false, and none is read, if no source goes on with them.
func (c *chart) pushAll(s string) bool {
	l, _, _ := lex.Tokens(s)
	for i, x := range l {
		if !c.push(ruleWord(x)) {
			c.sets = c.sets[:len(c.sets)-i]
			return false
		}
	}
	return true
}

// grown is pieces that go on, n of them if such are found.
func (c *chart) grown(r *rand.Rand, words []string, n int) string {
	var b strings.Builder
	for tries := 0; n > 0 && tries < 50*n; tries++ {
		if w := words[r.Intn(len(words))]; c.pushAll(w) {
			b.WriteString(w + []string{" ", "  ", "\n", "#\n"}[r.Intn(4)])
			n--
		}
	}
	return b.String()
}

// ended is pieces that end what is open.
func (c *chart) ended(r *rand.Rand) string {
	words := []string{")", "]", ";", "}", "a", "{", "f", "(", "="}
	s := ""
	for tries := 0; !c.whole() && tries < 5000; tries++ {
		if w := words[min(r.Intn(len(words)), r.Intn(len(words)))]; c.pushAll(w) {
			s += w + " "
		}
	}
	return s
}

// Tokens in any order, such that go on, and then one that may not: so that long sources come about, and all kinds of faults.
func TestTokensTogether(t *testing.T) {
	g := readRules()
	r := rand.New(rand.NewSource(51))
	words := pieces()
	for range 1000 {
		c := newChart(g, []string{"expr", "program"}[r.Intn(2)])
		s := c.grown(r, words, r.Intn(50))
		agrees(t, g, s)
		agrees(t, g, s+words[r.Intn(len(words))]+" a ;")
		agrees(t, g, s+c.ended(r))
	}
}

// Deep ones: what opens is drawn more often than what ends.
func TestDeepTogether(t *testing.T) {
	g := readRules()
	r := rand.New(rand.NewSource(52))
	openings := []string{"(", "[", "-", "!", "f (", "a [", "f ( a ,", "[ 1 ,", "1 + (", "a * -", "a &&", "a == (", "f ( )", "[ ]", "a [ 0 ]", "- a [", "( a ) [", "! a +", ")", "]", ","}
	blocks := []string{"if a {", "while a {", "if a { } else {", "if a { } else if b {", "if a { x ; } else if - b { } else {", "}", "else {", "else if a {", "x ;"}
	for range 500 {
		c := newChart(g, "expr")
		s := ""
		if r.Intn(2) == 0 {
			c = newChart(g, "program")
			c.pushAll("fn f ( a , b ) {")
			s = "fn f ( a , b ) {" + c.grown(r, blocks, r.Intn(40))
			s += c.grown(r, []string{"print", "x =", "let x =", "return", "if", "while"}, 1)
		}
		s += c.grown(r, openings, r.Intn(50))
		agrees(t, g, s)
		agrees(t, g, s+c.ended(r))
	}
}

// Sound programs with a token left out, put in, or changed.
func TestBrokenPrograms(t *testing.T) {
	g := readRules()
	r := rand.New(rand.NewSource(53))
	words := pieces()
	for range 1000 {
		s, ok := parse.Print(anyProgram(r))
		if !ok {
			continue
		}
		agrees(t, g, s)
		l := strings.Split(s, " ")
		at := r.Intn(len(l))
		switch r.Intn(3) {
		case 0:
			l = slices.Delete(l, at, at+1)
		case 1:
			l = slices.Insert(l, at, words[r.Intn(len(words))])
		default:
			l[at] = words[r.Intn(len(words))]
		}
		agrees(t, g, strings.Join(l, " "))
	}
}

// Promise 5.5 and W9: any bytes are answered, by a tree or by an error.
func TestAnyBytes(t *testing.T) {
	g := readRules()
	r := rand.New(rand.NewSource(54))
	for range 5000 {
		b := make([]byte, r.Intn(40))
		most := 1 + r.Intn(256)
		for i := range b {
			b[i] = byte(r.Intn(most))
		}
		agrees(t, g, string(b))
	}
	for b := range 256 {
		for _, n := range []int{1, 2, 16, 17, 24, 25, 26, 4001, 1 << 16} {
			agrees(t, g, strings.Repeat(string([]byte{byte(b)}), n))
		}
	}
}

func FuzzProgram(f *testing.F) {
	for _, s := range []string{"a+b*2<3", "fn main(){print f(1,2i)[0];}", "fn f(a){if !a{}else if a==1{x=1;}else{return;}}", "((((((((((((((((((((((((((", "- - -a[0]", "# all\n1 &"} {
		f.Add(s)
	}
	g := readRules()
	f.Fuzz(func(t *testing.T, s string) { agrees(t, g, s) })
}
