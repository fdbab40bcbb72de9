package xtree_test

import (
	"math/rand"
	"slices"
	"strings"
	"testing"

	"recension/api"
	"recension/fault"
	"recension/xlex"
	"recension/xtree"
)

// The chapter's words told a second way: what is open, and how many nodes there are, is reckoned anew from all tokens up to each; the tree is made of a right row of tokens from the outside inwards.

// isTag, isChars: whether a token is a start tag or an empty one; whether it is characters or a section.
func isTag(token api.Token) bool { return token.Kind == api.TokStart || token.Kind == api.TokEmpty }

func isChars(token api.Token) bool { return token.Kind == api.TokText || token.Kind == api.TokData }

// levels tells of each token how many elements are open ahead of it, if all end tags close something.
func levels(tokens []api.Token) []int {
	list := make([]int, len(tokens)+1)
	for i, token := range tokens {
		list[i+1] = list[i]
		switch token.Kind {
		case api.TokStart:
			list[i+1]++
		case api.TokEnd:
			list[i+1]--
		}
	}
	return list
}

// opener is the place of the start tag of the element in which a token stands; -1, if it stands in none.
func opener(tokens []api.Token, level []int, i int) int {
	for k := i - 1; k >= 0; k-- {
		if tokens[k].Kind == api.TokStart && level[k] == level[i]-1 {
			return k
		}
	}
	return -1
}

// makes is how many nodes a token makes.
func makes(tokens []api.Token, level []int, i int) int {
	token := tokens[i]
	switch {
	case isTag(token):
		return 1 + len(token.Attrs)
	case token.Kind == api.TokEnd:
		return 0
	case !isChars(token):
		return 1
	}
	if level[i] == 0 || token.Text == "" {
		return 0
	}
	for k := i - 1; isChars(tokens[k]); k-- { // a start tag is ahead at least
		if tokens[k].Text != "" {
			return 0
		}
	}
	return 1
}

// outside: whether a token may not stand outside of the root.
func outside(tokens []api.Token, i int) bool {
	token := tokens[i]
	switch {
	case token.Kind == api.TokData:
		return true
	case token.Kind == api.TokText:
		return strings.Trim(token.Text, "\t\n\r ") != ""
	}
	return isTag(token) && slices.ContainsFunc(tokens[:i], isTag)
}

// secondError is the code and the place of what is wrong with tokens.
func secondError(tokens []api.Token, size int) (api.Code, int) {
	level := levels(tokens)
	nodes := 0
	for i, token := range tokens {
		open := opener(tokens, level, i)
		nodes += makes(tokens, level, i)
		switch {
		case isTag(token) && level[i]+1 > 32:
			return api.TooDeep, token.At
		case nodes > 4096:
			return api.TooLong, token.At
		case token.Kind == api.TokEnd && (open < 0 || tokens[open].Name != token.Name):
			return api.BadTag, token.At
		case level[i] == 0 && outside(tokens, i):
			return api.BadForm, token.At
		}
	}
	if level[len(tokens)] > 0 || !slices.ContainsFunc(tokens, isTag) {
		return api.BadEnd, size
	}
	return api.OK, 0
}

// secondList is the nodes of a right row of tokens.
func secondList(tokens []api.Token) []api.Node {
	var list []api.Node
	for i := 0; i < len(tokens); {
		token, next := tokens[i], i+1
		switch token.Kind {
		case api.TokComment:
			list = append(list, comment(token.Text))
		case api.TokPI:
			list = append(list, pi(token.Name, token.Text))
		case api.TokEmpty:
			list = append(list, api.Node{Kind: api.Element, Name: token.Name, Attrs: token.Attrs})
		case api.TokStart:
			end := i + slices.Index(levels(tokens[i:])[1:], 0) // behind it as many are open as ahead of the start tag
			list = append(list, api.Node{Kind: api.Element, Name: token.Name, Attrs: token.Attrs, Kids: secondList(tokens[i+1 : end])})
			next = end + 1
		default:
			whole := ""
			for next = i; next < len(tokens) && isChars(tokens[next]); next++ {
				whole += tokens[next].Text
			}
			if whole != "" {
				list = append(list, text(whole))
			}
		}
		i = next
	}
	return list
}

// second is a document's tree, or the code and the place of the error.
func second(doc string) (api.Doc, api.Code, int) {
	tokens, err := xlex.All([]byte(doc))
	if err != nil {
		return api.Doc{}, fault.Code(err), fault.At(err)
	}
	if code, at := secondError(tokens, len(doc)); code != api.OK {
		return api.Doc{}, code, at
	}
	var tree api.Doc
	for _, n := range secondList(tokens) {
		switch {
		case n.Kind == api.Element:
			tree.Root = n
		case n.Kind == api.Text: // blanks
		case tree.Root.Kind == 0:
			tree.Before = append(tree.Before, n)
		default:
			tree.After = append(tree.After, n)
		}
	}
	return tree, api.OK, 0
}

// checkSecond holds what Parse tells of a document against what the second way tells, and tells whether it is a right one.
func checkSecond(t *testing.T, doc string) bool {
	t.Helper()
	got, err := xtree.Parse([]byte(doc))
	want, code, at := second(doc)
	if fault.Code(err) != code || fault.At(err) != at || !alikeDocs(got, want) {
		t.Fatalf("%s: %s, %s; it must be %s, code %d at %d", brief(doc), brief(got), fault.Text(err), brief(want), code, at)
	}
	return err == nil
}

// rows calls for every row of at most so many of the parts, behind a head and with an end behind.
func rows(head string, parts []string, most int, end string, do func(doc string)) {
	do(head + end)
	if most == 0 {
		return
	}
	for _, p := range parts {
		rows(head+p, parts, most-1, end, do)
	}
}

func TestP10_1SecondWay(t *testing.T) {
	seen := 0
	check := func(doc string) {
		if checkSecond(t, doc) {
			seen++
		}
	}
	all := []string{"<a>", "</a>", "<b>", "</b>", "<c x='1' y='2'/>", "<!--d-->", "<?p q?>", "t", " ", "&#32;", "<![CDATA[]]>", "<![CDATA[u]]>"}
	rows("", all, 4, "", check)
	rows("<a>", all, 4, "</a>", check)
	rows("<a>", []string{"t", "<![CDATA[]]>", "<![CDATA[u]]>", "<!--d-->", "<b/>"}, 6, "</a>", check)
	rows("", []string{"<a>", "</a>", "<b>", "</b>"}, 8, "", check)
	rows("<?p?>", []string{"<a/>", "\n", "<!--d-->", "<?p?>", "x", "<![CDATA[]]>"}, 5, "", check)
	if seen < 20000 {
		t.Errorf("%d right documents", seen)
	}
}

// nested is a right row of nodes, some within others, that makes not many more than so many; how deep it may be is told, too.
func nested(random *rand.Rand, size, deep int) string {
	var doc strings.Builder
	for range size {
		switch k := random.Intn(10); {
		case k < 3 && deep > 0:
			name := string(rune('a' + random.Intn(3)))
			doc.WriteString("<" + name + " x='1'>" + nested(random, size/2, deep-1) + "</" + name + ">")
		case k < 4 && deep > 0:
			doc.WriteString("<e z='1' y='2'/>")
		default:
			doc.WriteString([]string{"t", "&lt;", " ", "<![CDATA[]]>", "<![CDATA[u]]>", "<!--c-->", "<?p q?>", "\r\n"}[random.Intn(8)])
		}
	}
	return doc.String()
}

// TestP10_1SecondWayGrown goes over greater documents that are right, and the same with a piece that is missing, twice or another.
func TestP10_1SecondWayGrown(t *testing.T) {
	random := rand.New(rand.NewSource(10))
	pieces := []string{"<a>", "</a>", "</b>", "<c/>", "x", "<![CDATA[]]>", "<!--d-->"}
	for range 1500 {
		doc := "<!--b--><a>" + nested(random, 1+random.Intn(16), 1+random.Intn(6)) + "</a>\n<?e?>"
		if !checkSecond(t, doc) {
			t.Fatalf("%s: it must be right", brief(doc))
		}
		tokens, _ := xlex.All([]byte(doc))
		for range 10 {
			i := random.Intn(len(tokens) - 1)
			at, end := tokens[i].At, tokens[i+1].At
			checkSecond(t, doc[:at]+doc[end:])
			checkSecond(t, doc[:end]+doc[at:])
			checkSecond(t, doc[:at]+pieces[random.Intn(len(pieces))]+doc[at:])
			checkSecond(t, doc[:at])
		}
	}
}

// TestP10_1SecondWayDeep goes over documents at the edge of how deep one may be.
func TestP10_1SecondWayDeep(t *testing.T) {
	for _, head := range []string{strings.Repeat("<a>", 30), strings.Repeat("<a>", 31), "<!--d-->" + strings.Repeat("<a>", 29) + "<b/>" + strings.Repeat("<a>", 2)} {
		rows(head, []string{"<a>", "</a>", "<b/>", "x", "</b>"}, 5, "", func(doc string) { checkSecond(t, doc) })
		rows(head, []string{"<a>", "</a>", "<b/>", "x"}, 4, strings.Repeat("</a>", 31), func(doc string) { checkSecond(t, doc) })
	}
}

// TestP10_1SecondWayMany goes over documents at the edge of how many nodes there may be.
func TestP10_1SecondWayMany(t *testing.T) {
	for _, head := range []string{"<a>" + strings.Repeat("<b/>", 4093) + "x", "<a>" + strings.Repeat("<b c='' d=''/>", 1364)} {
		rows(head, []string{"<a e=''>", "</a>", "<b/>", "x", "<![CDATA[]]>", "<!--d-->"}, 3, "", func(doc string) { checkSecond(t, doc) })
	}
}
