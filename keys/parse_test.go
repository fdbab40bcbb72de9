package keys_test

import (
	"errors"
	"fmt"
	"strings"
	"testing"

	"recension/api"
	"recension/fault"
	"recension/keys"
)

// reads: a text is read as these rules.
func reads(t *testing.T, text string, want ...api.Rule) {
	t.Helper()
	got, err := keys.Parse(text)
	if err != nil || !alikeAll(got, want) {
		t.Errorf("%s: %s, %s; it must be %s", brief(text), brief(got), fault.Text(err), brief(want))
	}
}

// fails: a text is read as this code, at this line.
func fails(t *testing.T, text string, code api.Code, at int) {
	t.Helper()
	got, err := keys.Parse(text)
	if fault.Code(err) != code || fault.At(err) != at {
		t.Errorf("%s: %s, %s; it must be code %d at %d", brief(text), brief(got), fault.Text(err), code, at)
	}
	if got != nil {
		t.Errorf("%s: %s beside an error", brief(text), brief(got))
	}
	if want := fmt.Sprintf("keys: code %d at %d", code, at); fault.Text(err) != want || fault.Depth(err) != 1 || !errors.Is(err, fault.New(code, 0)) || err.Error() != want {
		t.Errorf("%s: %q, wrapped %d times; it must be %q", brief(text), fault.Text(err), fault.Depth(err), want)
	}
}

func TestP12_3Examples(t *testing.T) {
	text := "/db {}\n/db/emp {name, @id}"
	reads(t, text, rule("db"), rule("db/emp", "name", "@id"))
	list, _ := keys.Parse(text)
	frontier(t, list, to("db/emp"), true)
	frontier(t, list, to("db"), false)
	fails(t, "/db {a}", api.KeySpec, 1)
	fails(t, "/db {}\n\n/x {}", api.KeyPath, 3)
}

// A line is put behind a root's rule, as it is.
func TestP12_3Lines(t *testing.T) {
	for _, c := range []struct {
		line string
		want api.Rule
	}{
		{"/r/e {}", rule("r/e")},
		{"/r/e{}", rule("r/e")},
		{"/r/e \t  {}", rule("r/e")},
		{"/r/e\t{ }", rule("r/e")},
		{"/r/e { \t \t}", rule("r/e")},
		{" /r/e {}", rule("r/e")},
		{"\t /r/e {} \t", rule("r/e")},
		{"/r/e {a}", rule("r/e", "a")},
		{"/r/e {a,b}", rule("r/e", "a", "b")},
		{"/r/e {a, b}", rule("r/e", "a", "b")},
		{"/r/e { a , b }", rule("r/e", "a", "b")},
		{"/r/e {\ta\t,\t \tb\t}", rule("r/e", "a", "b")},
		{"/r/e {a ,b}", rule("r/e", "a", "b")},
		{"/r/e{.}", rule("r/e", ".")},
		{"/r/e{.,@a,a,a/b,a/@b , a/b/c}", rule("r/e", ".", "@a", "a", "a/b", "a/@b", "a/b/c")},
		{"/r/é {ü, @ü}", rule("r/é", "ü", "@ü")},
		{"/r/\u1680 {\u1680,\uFEFF}", rule("r/\u1680", "\u1680", "\uFEFF")}, // what is a blank elsewhere, and no layer 2's
	} {
		reads(t, "/r {}\n"+c.line, rule("r"), c.want)
		reads(t, "/r {}\n"+c.line+"\n", rule("r"), c.want)
		reads(t, "/r {}\n/r/other {}\n"+c.line+"\n/r/o{.}", rule("r"), rule("r/other"), c.want, rule("r/o", "."))
	}
}

func TestP12_3WrongLines(t *testing.T) {
	for _, line := range []string{
		"/r/e", "/r/e }", "/r/e {", "{", "}", "{}", "}{", "/", "/ {}", " {}", "/r/e ({})",
		"/r/e {} x", "/r/e {} #", "/r/e {}# remark", "/r/e {}}", "/r/e {{}", "/r/e {{}}", "/r/e {} {}", "/r/e {a}{b}", "/r/e {a} {b}", "/r/e {a}}", "/r/e {{a}", "/r/e {a{}", "/r/e }{", "/r/e }{}", "/r/e {}/r/f {}", "/r/e {},",
		"r/e {}", "r {}", "\\r {}", "/r/ {}", "//e {}", "//r/e {}", "/r//e {}", "/r/e/ {}", "/r/e// {}", "/ r/e {}", "/r /e {}", "/r/ e {}", "/r/e x {}", "/r, e {}", "/r/e, {}", "/r/@e {}", "/r/. {}", "/r/-e {}", "/r/1 {}", "/r/e:f {}", "/./e {}", "/@r {}",
		"/r/e {,}", "/r/e {a,}", "/r/e {,a}", "/r/e {a,,b}", "/r/e {a, ,b}", "/r/e { , }", "/r/e {a b}", "/r/e {a;b}", "/r/e {a/}", "/r/e {/a}", "/r/e {a//b}", "/r/e {@}", "/r/e {@ a}", "/r/e {@@a}", "/r/e {@a/b}", "/r/e {a/@b/c}", "/r/e {..}", "/r/e {./a}", "/r/e {a /b}", "/r/e {-a}", "/r/e {a:b}", "/r/e {*}",
		"/r/e {a,a}", "/r/e {a, b, a}", "/r/e {., .}", "/r/e {@a,@a}", "/r/e {a/b , a/b}",
		"/r/e\xFF {}", "/r/e {\xFF}", "\xFF", "/r/e\x00 {}", "/r/e {}\x00", "\uFEFF/r/e {}", "\u00A0/r/e {}", "/r/e\u1680{}\u1680", "/r/e {}\v", "/r/e\f{}", "/r/e\u0085{}", "/r/e\u2028{}",
		"x", "* {}", "a # b", "; /r/e {}", "// remark", "/r/e {a #}",
	} {
		fails(t, "/r {}\n"+line, api.KeySpec, 2)
		fails(t, "/r {}\n"+line+"\n/r/o {}\n", api.KeySpec, 2)
		fails(t, line, api.KeySpec, 1)
		fails(t, "\n#\n \t\n"+line+"\n", api.KeySpec, 4)
	}
}

func TestP12_3RootWithKeys(t *testing.T) {
	for _, line := range []string{"/r {a}", "/r {.}", "/r{@a}", "/r { a, b }", "/r {,}"} {
		fails(t, line, api.KeySpec, 1)
		fails(t, "/r {}\n/r/e {}\n"+line, api.KeySpec, 3) // and not KeyPath
	}
	reads(t, "/r {  }", rule("r"))
}

func TestP12_3WhatCountsForNothing(t *testing.T) {
	for _, line := range []string{"", " ", "\t", " \t \t ", "#", "##", "# remark", "  # remark", "\t#", "#/r/e {}", "# \xFF\x00", "#{}", "#\uFEFF"} {
		for _, end := range []string{"\n", "\r\n", "\r"} {
			reads(t, line+end+"/r {}"+end+line+end+line+end+"/r/e {@a}"+end+line, rule("r"), rule("r/e", "@a"))
			fails(t, line+end+"/r {}"+end+line+end+line+end+"/r {}"+end+line, api.KeyPath, 5)
			fails(t, line+end+line+end+"x"+end+line, api.KeySpec, 3)
			fails(t, line, api.KeySpec, 0)
			fails(t, strings.Repeat(line+end, 5), api.KeySpec, 0)
		}
	}
}

func TestP12_3NoRule(t *testing.T) {
	for _, text := range []string{"", "\n", "\r", "\r\n", "\n\n\n", "# remark", "# one\n# two\n", " \t", "\n \n\t#\n"} {
		fails(t, text, api.KeySpec, 0)
	}
}

func TestP12_3EndsOfLines(t *testing.T) {
	want := []api.Rule{rule("a"), rule("a/b"), rule("a/c", "."), rule("a/d")}
	reads(t, "/a {}\n/a/b {}\r\n/a/c {.}\r/a/d {}", want...)
	reads(t, "/a {}\r/a/b {}\n\r/a/c {.}\r\r/a/d {}\r\n\r\n", want...)
	fails(t, "/a {}\r\n\r\n/a {}", api.KeyPath, 3)
	fails(t, "/a {}\r\r/a {}", api.KeyPath, 3)
	fails(t, "/a {}\n\r/a {}", api.KeyPath, 3)
	fails(t, "/a {}\r\n\n/a {}", api.KeyPath, 3)
	fails(t, "/a {}\r\r\n/a {}", api.KeyPath, 3)
	fails(t, "/a\n{}", api.KeySpec, 1)
	fails(t, "/a {\n}", api.KeySpec, 1)
	fails(t, "/a {}\n/a/b {x,\ny}", api.KeySpec, 2)
}

func TestP12_3Places(t *testing.T) {
	for _, c := range []struct {
		text string
		at   int
	}{
		{"/a/b {}", 1},
		{"/a/b {}\n/a {}", 1},
		{"/a {}\n/b {}", 2},
		{"/a {}\n/b/c {}", 2},
		{"/a {}\n/a {}", 2},
		{"/a {}\n/a/b {}\n/a/b {x}", 3},
		{"/a {}\n/a/b {}\n/a/c {}\n/a/b {}", 4},
		{"/a {}\n/a/b {}\n/b {}", 3},
		{"/a {}\n/a/b {}\n/a {}", 3},
		{"/a {}\n/a/b/c {}\n/a/b {}", 2},
		{"/a {}\n/a/b {}\n/a/c/d {x}", 3},
		{"/ab {}\n/a/b {}", 2},
		{"# r\n\n/a {}\n  \n/ab/c {}\n#", 5},
	} {
		fails(t, c.text, api.KeyPath, c.at)
		fails(t, c.text+"\nx {}", api.KeyPath, c.at) // what comes behind isn't asked
		fails(t, c.text+"\n/a {}\n/a {}", api.KeyPath, c.at)
	}
	fails(t, "/a {}\n/b {x}", api.KeySpec, 2) // no rule, and not there either
	fails(t, "/a {}\n/b/c {x,x}", api.KeySpec, 2)
	fails(t, "/a/b {x\n/a {}", api.KeySpec, 1)
	fails(t, "/a {}\nx\n/a {}", api.KeySpec, 2)
	fails(t, "/a {}\n/a {}\nx", api.KeyPath, 2)
}

func TestP12_3MaxRules(t *testing.T) {
	for _, n := range []int{1, 2, 63, 64} {
		reads(t, keys.Text(many(n)), many(n)...)
		reads(t, "\n#\n"+strings.ReplaceAll(keys.Text(many(n)), "\n", "\n \n#\n"), many(n)...)
	}
	full := keys.Text(many(64))
	for _, line := range []string{"/r/x {}", "/r/x {a}", "/r {}", "/r/e1 {}", "/x {}", "/x/y {}", "x", "/r {a}", "{", "/r/x {a,a}"} {
		fails(t, full+line, api.KeySpec, 65)
		fails(t, full+line+"\n/r/y {}\n", api.KeySpec, 65)
		fails(t, "# r\n"+full+"\n \n"+line+"\n", api.KeySpec, 68)
	}
	fails(t, keys.Text(many(65)), api.KeySpec, 65)
	fails(t, keys.Text(many(200)), api.KeySpec, 65)
	reads(t, full+"\n\n# r\n \t\n", many(64)...)
	fails(t, keys.Text(many(63))+"/r {}\n/r/x {}", api.KeyPath, 64)
	fails(t, keys.Text(many(63))+"/r\n/r/x {}", api.KeySpec, 64)
}

func TestP12_3Long(t *testing.T) {
	reads(t, strings.Repeat("\n", 100000)+"/r {}"+strings.Repeat("\r\n#", 100000), rule("r"))
	fails(t, strings.Repeat("\r\n", 100000)+"x", api.KeySpec, 100001)
	fails(t, "/r {}"+strings.Repeat("\r# r\n", 100000)+"/r {}", api.KeyPath, 200001)
	path, text := "", ""
	var list []api.Rule
	for range 64 {
		path += "/" + strings.Repeat("n", 1000)
		text += path + strings.Repeat(" ", 1000) + "{}\n"
		list = append(list, rule(path[1:]))
	}
	reads(t, text, list...)
	reads(t, "/r{}\n/r/e{"+strings.Repeat("a/", 10000)+"@b,"+strings.Repeat(" ", 10000)+"c}", rule("r"), rule("r/e", strings.Repeat("a/", 10000)+"@b", "c"))
}
