package keys_test

import (
	"fmt"
	"slices"
	"strings"
	"testing"

	"recension/api"
	"recension/keys"
)

// to is a path: its names with "/" between, none of an empty text.
func to(path string) []string {
	if path == "" {
		return nil
	}
	return strings.Split(path, "/")
}

// rule is the rule of a path, and keys' paths.
func rule(path string, list ...string) api.Rule { return api.Rule{Path: to(path), Keys: list} }

// rules are rules without keys, of these paths.
func rules(paths ...string) []api.Rule {
	var list []api.Rule
	for _, path := range paths {
		list = append(list, rule(path))
	}
	return list
}

// many are that many rules, which are a specification if they aren't too many: a root, and elements in it.
func many(n int) []api.Rule {
	list := rules("r")
	for i := 1; i < n; i++ {
		list = append(list, rule(fmt.Sprintf("r/e%d", i), "@id"))
	}
	return list[:n]
}

// alike: whether rules are so, a list that is nil being an empty one.
func alike(a, b api.Rule) bool { return slices.Equal(a.Path, b.Path) && slices.Equal(a.Keys, b.Keys) }

func alikeAll(a, b []api.Rule) bool { return slices.EqualFunc(a, b, alike) }

// copied are the same rules in memory of their own.
func copied(list []api.Rule) []api.Rule {
	var other []api.Rule
	for _, r := range list {
		other = append(other, api.Rule{Path: slices.Clone(r.Path), Keys: slices.Clone(r.Keys)})
	}
	return other
}

// brief is something as a text that isn't too long.
func brief(what any) string {
	long := fmt.Sprintf("%q", what)
	if len(long) <= 400 {
		return long
	}
	return long[:200] + " .. " + long[len(long)-200:]
}

// may: whether rules are a specification is this.
func may(t *testing.T, list []api.Rule, want bool) {
	t.Helper()
	if got := keys.May(list); got != want {
		t.Errorf("%s: %v; it must be %v", brief(list), got, want)
	}
}

func TestP12_1HowMany(t *testing.T) {
	may(t, nil, false)
	may(t, []api.Rule{}, false)
	for _, n := range []int{1, 2, 63, 64} {
		may(t, many(n), true)
	}
	for _, n := range []int{65, 66, 1000} {
		may(t, many(n), false)
	}
	may(t, []api.Rule{{}}, false)
}

func TestP12_1Names(t *testing.T) {
	for _, name := range []string{"a", "db", "é", "_", "a-b.c1", "xml", "\u1680", "\uFEFF", "\uFFFD", "\U00010000"} {
		may(t, []api.Rule{{Path: []string{name}}}, true)
		may(t, []api.Rule{rule("r"), {Path: []string{"r", name}}}, true)
		may(t, []api.Rule{rule("r"), {Path: []string{"r", name}, Keys: []string{name, "@" + name, name + "/" + name, name + "/@" + name}}}, true)
	}
	for _, name := range []string{"", " ", "-a", "1", ".", "@a", "a:b", "a b", " a", "a ", "a/b", "/", "/a", "a/", "a,b", "{", "a}", "#", "*", "\xFF", "a\xC3", "a\x00", "a\n", "\uFFFE"} {
		may(t, []api.Rule{{Path: []string{name}}}, false)
		may(t, []api.Rule{rule("r"), {Path: []string{"r", name}}}, false)
		may(t, []api.Rule{rule("r"), rule("r/a"), {Path: []string{"r", name}}}, false)
		may(t, []api.Rule{{Path: []string{name}}, {Path: []string{name, "r"}}}, false)
	}
	may(t, []api.Rule{{Path: []string{}}}, false)
	may(t, []api.Rule{rule("r"), {Path: []string{}}}, false)
	may(t, []api.Rule{rule("r"), {}, rule("r/a")}, false)
}

func TestP12_1RootWithoutKeys(t *testing.T) {
	for _, key := range []string{".", "a", "@a", "a/b", ""} {
		may(t, []api.Rule{rule("r", key)}, false)
		may(t, []api.Rule{rule("r", key), rule("r/a")}, false)
	}
	may(t, []api.Rule{{Path: to("r"), Keys: []string{}}}, true)
}

// fair: whether a rule with these keys' paths is one is this.
func fair(t *testing.T, want bool, list ...string) {
	t.Helper()
	may(t, []api.Rule{rule("r"), rule("r/e", list...)}, want)
	may(t, []api.Rule{rule("r"), rule("r/a"), rule("r/a/b"), rule("r/a/b/c", list...), rule("r/b", "@x")}, want)
}

func TestP12_1Keys(t *testing.T) {
	for _, key := range []string{".", "a", "@a", "a/b", "a/@b", "a/b/c", "a/b/@c", "a/a", "a/a/@a", "é/ü", strings.Repeat("a/", 1000) + "@b"} {
		fair(t, true, key)
		fair(t, true, "other", key)
		fair(t, false, key, key)
		fair(t, false, key, "other", key)
		fair(t, false, "other", "other", key)
	}
	for _, key := range []string{
		"", "@", "@@", "@@a", "@a/b", "a/@b/c", "a/@", "@/a", "a@b", "a@", "a/b@", "a/@@b", "@a/@b", "@.", "..", "./a", "a/.", "a/./b", "/", "/a", "a/", "a//b", "//", "@/", "/@a", "a//@b",
		" ", " a", "a ", "a /b", "a/ b", "@ a", " .", ". ", "a,b", "a{", "a}", "-a", "a/-b", "1", "@1", "a:b", "@a:b", "*", "@*", "text()", "\xFF", "a/\xFF", "\x00", "\n",
	} {
		fair(t, false, key)
		fair(t, false, "other", key)
		fair(t, false, key, "other")
	}
	fair(t, true)
	fair(t, true, ".", "a", "@a", "a/b", "a/@b", "b", "@b", "b/a")
	fair(t, false, ".", "a", "@a", "a/b", "a/@b", "b", "@b", "b/a", "a/b")
}

func TestP12_1ManyKeys(t *testing.T) {
	var list []string
	for i := range 100000 {
		list = append(list, fmt.Sprintf("a/@k%d", i))
	}
	fair(t, true, list...)
	list[len(list)-1] = list[0]
	fair(t, false, list...)
}

func TestP12_1Places(t *testing.T) {
	for _, paths := range [][]string{
		{"a"},
		{"a", "a/a"},
		{"a", "a/b", "a/c", "a/d"},
		{"a", "a/b", "a/b/c", "a/b/c/d", "a/c"},
		{"a", "a/b", "a/c", "a/b/c", "a/c/b", "a/d"},
		{"a", "a/a", "a/a/a", "a/a/a/a"},
		{"db", "db/emp", "db/emp/tel", "db/dept", "db/dept/emp"},
	} {
		may(t, rules(paths...), true)
	}
	for _, paths := range [][]string{
		{"a/b"},                        // the first rule is of more names
		{"a/b", "a"},                   // behind it
		{"a", "b"},                     // a second rule of one name
		{"a", "a/b", "b"},              //
		{"a", "b", "b/c"},              //
		{"a", "a"},                     // twice
		{"a", "a/b", "a/b"},            //
		{"a", "a/b", "a/c", "a/b"},     //
		{"a", "a/b", "a"},              //
		{"a", "a/b", "a/b/c", "a/b/c"}, //
		{"a", "b/c"},                   // without the rule above
		{"a", "a/b/c"},                 //
		{"a", "a/b/c", "a/b"},          // which comes behind
		{"a", "a/b", "a/c/d", "a/c"},   //
		{"a", "a/b", "a/b/c/d"},        //
		{"a", "a/b", "b/b"},            //
		{"a", "a/b", "a/bb/c"},         // names that begin alike
		{"ab", "a/b"},                  //
		{"a", "ab/c"},                  //
		{"", "a"},                      // a rule without a name
		{"a", ""},                      //
	} {
		may(t, rules(paths...), false)
	}
	may(t, []api.Rule{rule("a"), rule("a/b", "c"), rule("a/b", "d")}, false)
	may(t, []api.Rule{rule("a"), {Path: []string{"a", "b"}}, {Path: []string{"a/b", "c"}}}, false)
}

func TestP12_2Text(t *testing.T) {
	for _, c := range []struct {
		list []api.Rule
		want string
	}{
		{nil, ""},
		{[]api.Rule{}, ""},
		{[]api.Rule{rule("db")}, "/db {}\n"},
		{[]api.Rule{{Path: to("db"), Keys: []string{}}}, "/db {}\n"},
		{[]api.Rule{rule("db"), rule("db/emp", "name", "@id")}, "/db {}\n/db/emp {name, @id}\n"},
		{[]api.Rule{rule("a"), rule("a/b", "."), rule("a/b/c", "d/e", "d/@e", "f"), rule("a/é")}, "/a {}\n/a/b {.}\n/a/b/c {d/e, d/@e, f}\n/a/é {}\n"},
		// what is no specification
		{[]api.Rule{{}}, "/ {}\n"},
		{[]api.Rule{rule("a/b", "c")}, "/a/b {c}\n"},
		{[]api.Rule{rule("a", "k"), rule("a", "k")}, "/a {k}\n/a {k}\n"},
		{[]api.Rule{rule("", "k")}, "/ {k}\n"},
		{[]api.Rule{{Path: []string{""}, Keys: []string{""}}}, "/ {}\n"},
		{[]api.Rule{{Path: []string{"", ""}, Keys: []string{"", ""}}}, "// {, }\n"},
		{[]api.Rule{{Path: []string{" a", "b\n"}, Keys: []string{"}", "\xFF", "@@"}}, {}}, "/ a/b\n {}, \xFF, @@}\n/ {}\n"},
	} {
		if got := keys.Text(c.list); got != c.want {
			t.Errorf("%s: %q; it must be %q", brief(c.list), got, c.want)
		}
	}
	if got := strings.Count(keys.Text(many(1000)), "\n"); got != 1000 {
		t.Errorf("%d lines of 1000 rules", got)
	}
}

// finds: the rule of that path is this one.
func finds(t *testing.T, list []api.Rule, path []string, want api.Rule) {
	t.Helper()
	if got, ok := keys.Find(list, path); !ok || !alike(got, want) {
		t.Errorf("%s, %q: %s, %v; it must be %s", brief(list), path, brief(got), ok, brief(want))
	}
}

// findsNone: no rule is of that path, and so it is no frontier.
func findsNone(t *testing.T, list []api.Rule, path []string) {
	t.Helper()
	if got, ok := keys.Find(list, path); ok || got.Path != nil || got.Keys != nil {
		t.Errorf("%s, %q: %s, %v; there is none", brief(list), path, brief(got), ok)
	}
	frontier(t, list, path, false)
}

func TestP12_2Find(t *testing.T) {
	list := []api.Rule{rule("db"), rule("db/emp", "name", "@id"), rule("db/emp/tel", "."), rule("db/dept")}
	for _, r := range list {
		finds(t, list, r.Path, r)
		findsNone(t, list, append(slices.Clone(r.Path), "x"))
		findsNone(t, list, append([]string{"db"}, r.Path...))
	}
	for _, path := range []string{"", "d", "dbe", "emp", "db/em", "db/empt", "db/x", "db/emp/te", "db/tel", "db/emp/tel/tel", "x"} {
		findsNone(t, list, to(path))
	}
	findsNone(t, list, []string{"db/emp"})
	findsNone(t, list, []string{"db", ""})
	findsNone(t, list, []string{""})
	findsNone(t, nil, nil)
	findsNone(t, nil, to("a"))
	findsNone(t, []api.Rule{}, []string{})
}

func TestP12_2FindFirst(t *testing.T) {
	list := []api.Rule{rule("a/b", "one"), rule("a", "two"), rule("a/b", "three"), {Keys: []string{"four"}}, rule("a"), {Path: []string{}, Keys: []string{"five"}}, {Path: []string{"a/b"}}}
	finds(t, list, to("a/b"), list[0])
	finds(t, list, to("a"), list[1])
	finds(t, list, nil, list[3])
	finds(t, list, []string{}, list[3])
	finds(t, list, []string{"a/b"}, list[6])
	finds(t, list[1:], to("a/b"), list[2])
	findsNone(t, list, []string{""})
}

// frontier: whether a path is a frontier is this.
func frontier(t *testing.T, list []api.Rule, path []string, want bool) {
	t.Helper()
	if got := keys.Frontier(list, path); got != want {
		t.Errorf("%s, %q: a frontier %v; it must be %v", brief(list), path, got, want)
	}
}

func TestP12_2Frontier(t *testing.T) {
	list := []api.Rule{rule("db"), rule("db/emp", "name", "@id"), rule("db/dept"), rule("db/dept/emp"), rule("db/em"), rule("db/x"), rule("db/x/y"), rule("db/x/y/z")}
	for path, want := range map[string]bool{
		"db": false, "db/emp": true, "db/dept": false, "db/dept/emp": true, "db/em": true, "db/x": false, "db/x/y": false, "db/x/y/z": true,
		"": false, "d": false, "db/e": false, "db/emp/name": false, "db/x/y/z/a": false, "emp": false, "x": false,
	} {
		frontier(t, list, to(path), want)
	}
	frontier(t, rules("a"), to("a"), true)
	frontier(t, rules("a", "ab"), to("a"), true) // names that begin alike
	frontier(t, rules("a/b", "a/bc/d"), to("a/b"), true)
}

func TestP12_2FrontierWithoutSpecification(t *testing.T) {
	frontier(t, nil, nil, false)
	frontier(t, nil, to("a"), false)
	frontier(t, rules("a/b"), to("a"), false) // a rule's beginning alone
	frontier(t, rules("a/b/c"), to("a/b"), false)
	frontier(t, rules("a/b/c", "a"), to("a"), false) // a rule ahead goes on from it, by more names than one
	frontier(t, rules("a/b/c", "a"), to("a/b/c"), true)
	frontier(t, rules("a", "a"), to("a"), true) // twice
	frontier(t, rules("a", "a/b", "a", "a/b"), to("a/b"), true)
	frontier(t, rules("a", "a/b", "a", "a/b"), to("a"), false)
	frontier(t, rules("", ""), nil, true) // rules without a name
	frontier(t, rules("", ""), []string{}, true)
	frontier(t, rules("", "a"), nil, false)
	frontier(t, rules("a", ""), nil, false)
	frontier(t, rules("a"), nil, false)
	frontier(t, rules("a", ""), to("a"), true)
	frontier(t, []api.Rule{{Path: []string{"a"}}, {Path: []string{"a/b"}}}, to("a"), true)
	frontier(t, []api.Rule{{Path: []string{"a", "b"}}}, []string{"a/b"}, false)
	frontier(t, []api.Rule{{Path: []string{""}}}, []string{""}, true)
	frontier(t, []api.Rule{{Path: []string{"", ""}}, {Path: []string{""}}}, []string{""}, false)
}
