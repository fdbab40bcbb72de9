package qparse_test

import (
	"math/big"
	"math/rand"
	"slices"
	"strings"
	"testing"

	"recension/api"
	"recension/fault"
	"recension/qlex"
)

// The chapter's words told a second way: a recognizer of any grammar tells, from the chapter's rules as they stand, the first token that can't stand; brackets are counted for the depth and the arguments; and the tree of what is right is had by splitting the tokens at the operator that is taken last.

// grammar is the chapter's, with a line for each choice, of each symbol first one that leads to an end; ' is ahead of the text of a token.
const grammar = `
Expr Or
Or And
Or Or 'or And
And Eq
And And 'and Eq
Eq Rel
Eq Eq '= Rel
Eq Eq '!= Rel
Rel Add
Rel Rel '< Add
Rel Rel '<= Add
Rel Rel '> Add
Rel Rel '>= Add
Add Mul
Add Add '+ Mul
Add Add '- Mul
Mul Neg
Mul Mul '* Neg
Mul Mul 'div Neg
Mul Mul 'mod Neg
Neg Union
Neg '- Neg
Union Path
Union Union '| Path
Path Steps
Path Filter
Path Filter Slash Steps
Path '/
Path '/ Steps
Path '// Steps
Slash '/
Slash '//
Steps Step
Steps Steps Slash Step
Filter Primary Preds
Preds
Preds Preds Pred
Pred '[ Expr ']
Primary text
Primary '( Expr ')
Primary number
Primary variable
Primary function '( Args ')
Args
Args List
List Expr
List List ', Expr
Step '.
Step '..
Step Way Test Preds
Way
Way axis '::
Way '@
Test name
Test type '( ')
Test instruction '( ')
Test instruction '( text ')
`

// rule is a line of the grammar: a symbol, and what it may be.
type rule struct {
	symbol string
	choice []string
}

// lines are the grammar's rules, the numbers of those of each symbol, and the symbols that may be nothing.
func lines() ([]rule, map[string][]int, map[string]bool) {
	var list []rule
	numbers, empty := map[string][]int{}, map[string]bool{}
	for n, line := range strings.Split(strings.TrimSpace(grammar), "\n") {
		words := strings.Fields(line)
		list = append(list, rule{words[0], words[1:]})
		numbers[words[0]] = append(numbers[words[0]], n)
		if len(words) == 1 {
			empty[words[0]] = true
		}
	}
	return list, numbers, empty
}

var rules, choices, empty = lines()

// terminal is what a token is to the grammar.
func terminal(k api.QTok) string {
	switch k.Kind {
	case api.QName:
		return "name"
	case api.QFunc:
		return "function"
	case api.QType:
		if k.Text == "processing-instruction" {
			return "instruction"
		}
		return "type"
	case api.QAxis:
		if slices.Contains(strings.Fields("ancestor ancestor-or-self attribute child descendant descendant-or-self following following-sibling namespace parent preceding preceding-sibling self"), k.Text) {
			return "axis"
		}
		return "no axis"
	case api.QText:
		return "text"
	case api.QNum:
		return "number"
	case api.QVar:
		return "variable"
	}
	return "'" + k.Text
}

// item is a rule of whose choice some symbols have been seen, since a place.
type item struct{ rule, seen, since int }

// next is the symbol that an item waits for; empty, if it has all.
func (i item) next() string {
	choice := rules[i.rule].choice
	if i.seen == len(choice) {
		return ""
	}
	return choice[i.seen]
}

// recognizer is, for each place ahead of a token, the items that there are.
type recognizer struct{ sets [][]item }

// begun is a recognizer ahead of the first token.
func begun() *recognizer {
	r := &recognizer{sets: [][]item{nil}}
	r.predict("Expr")
	r.close()
	return r
}

// add puts an item into the last set, if it isn't there.
func (r *recognizer) add(i item) {
	last := len(r.sets) - 1
	if !slices.Contains(r.sets[last], i) {
		r.sets[last] = append(r.sets[last], i)
	}
}

func (r *recognizer) predict(symbol string) {
	for _, n := range choices[symbol] {
		r.add(item{n, 0, len(r.sets) - 1})
	}
}

// close does all that can be done without a token.
func (r *recognizer) close() {
	last := len(r.sets) - 1
	for n := 0; n < len(r.sets[last]); n++ {
		i := r.sets[last][n]
		symbol := i.next()
		if symbol == "" {
			for _, j := range r.sets[i.since] {
				if j.next() == rules[i.rule].symbol {
					j.seen++
					r.add(j)
				}
			}
			continue
		}
		r.predict(symbol)
		if empty[symbol] {
			i.seen++
			r.add(i)
		}
	}
}

// step goes behind a token, and tells whether it can stand there.
func (r *recognizer) step(token string) bool {
	var found []item
	for _, i := range r.sets[len(r.sets)-1] {
		if i.next() == token {
			i.seen++
			found = append(found, i)
		}
	}
	r.sets = append(r.sets, found)
	r.close()
	return len(found) > 0
}

// done: whether the tokens may end here.
func (r *recognizer) done() bool {
	for _, i := range r.sets[len(r.sets)-1] {
		if rules[i.rule].symbol == "Expr" && i.since == 0 && i.next() == "" {
			return true
		}
	}
	return false
}

// open is a bracket that isn't closed: the function whose it is (empty, if it is of none), where that stands, how many commas there have been, and whether Exprs lie in it.
type open struct {
	function string
	at       int
	commas   int
	exprs    bool
}

// plainNumber is a number's value, cut off behind six places.
func plainNumber(text string) *big.Int {
	ahead, behind, _ := strings.Cut(text, ".")
	n, _ := new(big.Int).SetString("0"+ahead+(behind + "000000")[:6], 10)
	return n
}

// secondError is the code and the place of what is wrong with tokens, layer 20 having told them.
func secondError(tokens []api.QTok, length int) (api.Code, int) {
	r, opened, begins := begun(), []open(nil), true
	for n, k := range tokens {
		word := terminal(k)
		deep := 0
		for _, o := range opened {
			if o.exprs {
				deep++
			}
		}
		switch {
		case !r.step(word):
			return api.QueryForm, k.At
		case word == "variable":
			return api.NoVariable, k.At
		case word == "function" && functions[k.Text] == [2]int{} && !slices.Contains([]string{"last", "position", "true", "false", "version"}, k.Text):
			return api.NoFunction, k.At
		case word == "number" && plainNumber(k.Text).Cmp(big.NewInt(api.MaxNum)) > 0:
			return api.Range, k.At
		case begins && word != "')" && deep > 24:
			return api.TooDeep, k.At
		}
		begins = word == "'(" || word == "'[" || word == "',"
		switch word {
		case "'(":
			o := open{exprs: true}
			if n > 0 && tokens[n-1].Kind == api.QFunc {
				o.function, o.at = tokens[n-1].Text, tokens[n-1].At
			}
			if n > 0 && tokens[n-1].Kind == api.QType {
				o.exprs, begins = false, false
			}
			opened = append(opened, o)
		case "'[":
			opened = append(opened, open{exprs: true})
		case "',":
			opened[len(opened)-1].commas++
		case "')", "']":
			o := opened[len(opened)-1]
			opened = opened[:len(opened)-1]
			if o.function == "" {
				break
			}
			had := o.commas + 1
			if terminal(tokens[n-1]) == "'(" && tokens[n-1].At >= o.at && tokens[n-2].At == o.at {
				had = 0
			}
			if had < functions[o.function][0] || had > functions[o.function][1] {
				return api.Arguments, o.at
			}
		}
	}
	if !r.done() {
		return api.QueryForm, length
	}
	return api.OK, 0
}

// tops are the places of tokens that lie in no bracket and are as asked for.
func tops(tokens []api.QTok, asked func(n int) bool) []int {
	var list []int
	deep := 0
	for n, k := range tokens {
		if k.Kind == api.QMark && (k.Text == ")" || k.Text == "]") {
			deep--
		}
		if deep == 0 && asked(n) {
			list = append(list, n)
		}
		if k.Kind == api.QMark && (k.Text == "(" || k.Text == "[") {
			deep++
		}
	}
	return list
}

// split is the tree of tokens that are an Expr.
func split(tokens []api.QTok) api.Expr {
	for level := 1; level <= 6; level++ {
		found := tops(tokens, func(n int) bool {
			k := tokens[n]
			if k.Kind == api.QOp && k.Text == "-" && (n == 0 || tokens[n-1].Kind == api.QOp && tokens[n-1].Text != "/") {
				return false // nothing is ahead of it
			}
			return k.Kind == api.QOp && tight[k.Text] == level
		})
		if len(found) > 0 {
			n := found[len(found)-1]
			return operation(tokens[n].Text, split(tokens[:n]), split(tokens[n+1:]))
		}
	}
	if tokens[0].Kind == api.QOp && tokens[0].Text == "-" {
		return neg(split(tokens[1:]))
	}
	if found := tops(tokens, func(n int) bool { return tokens[n].Kind == api.QOp && tokens[n].Text == "|" }); len(found) > 0 {
		n := found[len(found)-1]
		return operation("|", split(tokens[:n]), split(tokens[n+1:]))
	}
	return splitPath(tokens)
}

// splitPath is the tree of tokens that are a Path.
func splitPath(tokens []api.QTok) api.Expr {
	found := tops(tokens, func(n int) bool { return tokens[n].Kind == api.QOp })
	e := api.Expr{Op: "path"}
	ends := append(found, len(tokens))
	head := tokens[:ends[0]]
	switch {
	case len(head) == 0:
		e.Abs = true
	case head[0].Kind == api.QText, head[0].Kind == api.QNum, head[0].Kind == api.QFunc, head[0].Kind == api.QMark && head[0].Text == "(":
		primary, preds := boxes(head)
		f := splitPrimary(primary)
		if len(preds) > 0 {
			f = filter(append([]api.Expr{f}, preds...)...)
		}
		if len(found) == 0 {
			return f
		}
		e.Args = []api.Expr{f}
	default:
		e.Steps = append(e.Steps, splitStep(head))
	}
	for i, n := range found {
		if tokens[n].Text == "//" {
			e.Steps = append(e.Steps, below())
		}
		if s := tokens[n+1 : ends[i+1]]; len(s) > 0 {
			e.Steps = append(e.Steps, splitStep(s))
		}
	}
	return e
}

// boxes cuts the predicates off at the end of tokens.
func boxes(tokens []api.QTok) ([]api.QTok, []api.Expr) {
	begin := tops(tokens, func(n int) bool { return tokens[n].Kind == api.QMark && tokens[n].Text == "[" })
	ends := append(begin, len(tokens))
	var preds []api.Expr
	for i, n := range begin {
		preds = append(preds, split(tokens[n+1:ends[i+1]-1]))
	}
	return tokens[:ends[0]], preds
}

func splitPrimary(tokens []api.QTok) api.Expr {
	inner := tokens[1:max(1, len(tokens)-1)]
	switch k := tokens[0]; k.Kind {
	case api.QText:
		return lit(k.Text)
	case api.QNum:
		return num(plainNumber(k.Text).Int64())
	case api.QFunc:
		inner = inner[1:]
		var args []api.Expr
		from := 0
		for _, n := range append(tops(inner, func(n int) bool { return inner[n].Kind == api.QMark && inner[n].Text == "," }), len(inner)) {
			if n > from {
				args = append(args, split(inner[from:n]))
			}
			from = n + 1
		}
		return call(k.Text, args...)
	}
	return split(inner)
}

func splitStep(tokens []api.QTok) api.QStep {
	axis := "child"
	switch k := tokens[0]; {
	case k.Kind == api.QMark && k.Text == ".":
		return tested("self", "node")
	case k.Kind == api.QMark && k.Text == "..":
		return tested("parent", "node")
	case k.Kind == api.QMark:
		axis, tokens = "attribute", tokens[1:]
	case k.Kind == api.QAxis:
		axis, tokens = k.Text, tokens[2:]
	}
	test, preds := boxes(tokens)
	switch {
	case test[0].Kind == api.QName:
		return named(axis, test[0].Text, preds...)
	case test[0].Text != "processing-instruction":
		return tested(axis, test[0].Text, preds...)
	case len(test) == 4:
		return instruction(axis, test[2].Text, preds...)
	}
	return instruction(axis, "", preds...)
}

// tally is how often each code was told.
type tally map[api.Code]int

// check holds what Parse tells of a text against what the second way tells.
func (n tally) check(t *testing.T, text string) {
	t.Helper()
	got, err := parsed(t, text)
	code, at := fault.Code(err), fault.At(err)
	n[code]++
	tokens, lexed := qlex.All(text)
	if lexed != nil {
		if fault.Text(err) != fault.Text(lexed) {
			t.Fatalf("%s: %s; layer 20 tells %s", brief(text), fault.Text(err), fault.Text(lexed))
		}
		n[code]--
		return
	}
	wantCode, wantAt := secondError(tokens, len(text))
	if code != wantCode || at != wantAt {
		t.Fatalf("%s: %s; it must be code %d at %d", brief(text), fault.Text(err), wantCode, wantAt)
	}
	if err != nil {
		return
	}
	if want := split(tokens); dump(got) != dump(want) {
		t.Fatalf("%s: %s; it must be %s", brief(text), dump(got), dump(want))
	}
}

// enough: each of some codes was told so often at least.
func (n tally) enough(t *testing.T, least int, codes ...api.Code) {
	t.Helper()
	for _, code := range codes {
		if n[code] < least {
			t.Errorf("code %d was told %d times alone, of %v", code, n[code], n)
		}
	}
}

// grow calls for every row of at most so many of the parts.
func grow(head string, parts []string, most int, do func(text string)) {
	do(head)
	if most == 0 {
		return
	}
	for _, p := range parts {
		grow(head+" "+p, parts, most-1, do)
	}
}

func TestP21_1SecondWay(t *testing.T) {
	n := tally{}
	check := func(text string) { n.check(t, text) }
	all := []string{
		"(", ")", "[", "]", "@", ",", "::", ".", "..", "/", "//", "|", "+", "-", "=", "<", "*", "1", "1000000001", "'x'", "a", "$v", "and", "div", "not(", "last(", "f(", "text(", "text()", "processing-instruction(", "self::", "nowhere::",
	}
	grow("", all, 3, check)
	grow("concat(a", []string{",", ")", "(", "]", "1", "/", "-", "*", "a["}, 4, check)
	grow("", []string{"/", "//", "a", "*", "@", ".", "(", ")", "[1]"}, 4, check)
	grow("", []string{"a", "-", "|", "or", "*", "(", ")"}, 5, check)
	grow("processing-instruction(", []string{"'x'", ")", "[", "1", "]", "/"}, 4, check)
	n.enough(t, 500, api.OK, api.QueryForm, api.NoVariable, api.NoFunction, api.Range, api.Arguments)
}

// ordinary are right expressions.
var ordinary = []string{
	"/db/child::e[@id = 1.5 and not(name = \"é\")]//text() | v\n>= .5",
	"ancestor-or-self::node()[position() != last()]/../@* * 2",
	" count( //e[1] ) div -3.  mod .5 - a-b <= '\"' ",
	"processing-instruction('x')/.|comment ()|div[mod or or]",
	"(a|b)[1][2]/c[d = (e)[last()]]//@f + -concat(\"it's\",string(.),../x)",
	"translate(substring('12345', 2, 3), ., '') = //a[b][c or not(true())]",
	"id('a')/b | (/) | (//x)[-1]/self::processing-instruction()",
}

// TestP21_1SecondWayMisspelt goes over ordinary expressions that are misspelt at one place, or end there.
func TestP21_1SecondWayMisspelt(t *testing.T) {
	n := tally{}
	parts := []string{"", " ", "(", ")", "[", "]", "@", ",", "::", ".", "..", "/", "//", "|", "+", "-", "=", "*", "1", "9999999999 ", "a", "$v ", " and ", " div ", "'x'", "text()", "f(", "last()", "not(", "self::"}
	for _, text := range ordinary {
		n.check(t, text)
		for i := range len(text) {
			n.check(t, text[:i])
			for _, p := range parts {
				n.check(t, text[:i]+p+text[i:])
				n.check(t, text[:i]+p+text[i+1:])
			}
		}
	}
	n.enough(t, 100, api.OK, api.QueryForm, api.NoVariable, api.NoFunction, api.Range, api.Arguments)
}

// derived is some row of words that a symbol may be; with little left the first choices alone are taken.
func derived(r *rand.Rand, symbol string, left int) []string {
	if choices[symbol] == nil {
		return []string{spelt(r, symbol)}
	}
	n := choices[symbol][0]
	if left > 0 && (r.Intn(3) == 0 || len(symbol) > 3) { // operators less often than the rest
		n = choices[symbol][r.Intn(len(choices[symbol]))]
	}
	var words []string
	for _, s := range rules[n].choice {
		words = append(words, derived(r, s, left-1)...)
	}
	return words
}

// spelt is a word that is a terminal, or, seldom, one that is wrong there.
func spelt(r *rand.Rand, terminal string) string {
	pick := func(text string) string {
		list := strings.Fields(text)
		return list[r.Intn(len(list))]
	}
	rare := r.Intn(20) == 0
	switch {
	case terminal == "name":
		return pick("a b é * and div text last")
	case terminal == "number" && rare:
		return "1000000000.000001"
	case terminal == "number":
		return pick("0 1 2.5 .5 1000000000")
	case terminal == "text":
		return pick("'x' \"it's\" '' '\"'")
	case terminal == "variable" && r.Intn(8) > 0:
		return "1"
	case terminal == "variable":
		return "$v"
	case terminal == "function" && rare:
		return "f"
	case terminal == "function":
		return pick("last not string concat substring true count translate contains")
	case terminal == "type":
		return pick("node text comment")
	case terminal == "instruction":
		return "processing-instruction"
	case terminal == "axis" && rare:
		return "nowhere"
	case terminal == "axis":
		return pick("self child parent ancestor-or-self namespace preceding")
	}
	return terminal[1:]
}

// TestP21_1SecondWayMixed goes over rows of words that the grammar has, some of them nested deep, some with words more, less or moved.
func TestP21_1SecondWayMixed(t *testing.T) {
	n, random := tally{}, rand.New(rand.NewSource(21))
	for range 10000 {
		words := derived(random, "Expr", 20+random.Intn(20))
		if len(words) > 150 {
			continue
		}
		for range random.Intn(3) {
			i, j := random.Intn(len(words)), random.Intn(len(words))
			switch random.Intn(4) {
			case 0:
				words = slices.Delete(words, i, i+1)
			case 1:
				words = slices.Insert(words, i, words[j])
			case 2:
				words[i], words[j] = words[j], words[i]
			}
			if len(words) == 0 {
				break
			}
		}
		text := strings.Join(words, " ")
		if random.Intn(8) == 0 {
			text, _ = nested(text, 21+random.Intn(5), func(int) [2]string { return brackets[random.Intn(len(brackets))] })
		}
		n.check(t, text)
	}
	n.enough(t, 30, api.OK, api.QueryForm, api.NoVariable, api.NoFunction, api.Range, api.Arguments, api.TooDeep)
}
