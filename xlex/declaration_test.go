package xlex_test

import (
	"strings"
	"testing"

	"recension/api"
)

// every calls for each row of one part out of each list.
func every(lists [][]string, do func(parts []string)) {
	parts := make([]string, len(lists))
	var pick func(n int)
	pick = func(n int) {
		if n == len(lists) {
			do(parts)
			return
		}
		for _, p := range lists[n] {
			parts[n] = p
			pick(n + 1)
		}
	}
	pick(0)
}

func TestP9_1DeclarationForms(t *testing.T) {
	blanks := []string{" ", "\t\r\n  "}
	equals := []string{"=", "\t =", "= ", "\r\n=\n"}
	lists := [][]string{blanks, equals, {`"1.0"`, `'1.0'`}, {"", " encoding", "\nencoding"}, equals, {`"utf-8"`, `'UTF-8'`, `"Utf-8"`, `'utF-8'`}, {"", " standalone", "\r\tstandalone"}, equals, {`"yes"`, `'no'`}, {"", " ", "\r\n\t"}}
	every(lists, func(p []string) {
		doc := "<?xml" + p[0] + "version" + p[1] + p[2]
		if p[3] != "" {
			doc += p[3] + p[4] + p[5]
		} else if p[4]+p[5] != "="+`"utf-8"` { // told already
			return
		}
		if p[6] != "" {
			doc += p[6] + p[7] + p[8]
		} else if p[7]+p[8] != "="+`"yes"` {
			return
		}
		doc += p[9] + "?>"
		if t.Failed() {
			return
		}
		right(t, doc)
		right(t, doc+"<a/>", empty(len(doc), "a"))
	})
}

func TestP9_1DeclarationIsNoToken(t *testing.T) {
	right(t, `<?xml version="1.0"?>`)
	right(t, `<?xml version="1.0"?>a&lt;<b/>`, chars(21, "a<"), empty(26, "b"))
	right(t, `<?xml version="1.0"?>?>`, chars(21, "?>"))
	right(t, `<?xml version="1.0"?><?p version="1.0"?>`, pi(21, "p", `version="1.0"`))
	right(t, "<?xml version='1.0'?>\r\n<!---->", chars(21, "\n"), comment(23, ""))
}

// declarations are wrong ones: what stands between <?xml and ?>.
var declarations = []string{
	" ", "  \n", ` x`, ` 1.0`, ` "1.0"`, ` ="1.0"`, ` version`, ` version=`, ` version "1.0"`, ` version"1.0"`, ` version=1.0`, ` version="1.0`, ` version=1.0"`, ` version='1.0"`, ` version="1.0'`, ` version=""`, ` version="`, ` version=''`, ` version=&quot;1.0&quot;`,
	` version="1.1"`, ` version="2.0"`, ` version="1"`, ` version="1."`, ` version="1.00"`, ` version="01.0"`, ` version=" 1.0"`, ` version="1.0 "`, ` version="1,0"`, ` version="1 0"`, ` version="&#49;.0"`, ` version="'1.0'"`, ` version=" version="1.0"`,
	` Version="1.0"`, ` VERSION="1.0"`, ` versio="1.0"`, ` versions="1.0"`, ` ersion="1.0"`, ` version-="1.0"`, ` verſion="1.0"`, ` ver sion="1.0"`, ` version=="1.0"`, ` version:"1.0"`, ` version="1.0"?`, ` version="1.0"/`, ` version="1.0">`, ` version="1.0";`, ` version="1.0""`, ` version="1.0" x`, ` version="1.0" x="y"`, ` ?version="1.0"`, ` <version="1.0"`,
	" \u00A0version=\"1.0\"", " version\u00A0=\"1.0\"", " version=\"1.0\"\u00A0", " version=\u201C1.0\u201D",
	` version="1.0" version="1.0"`, ` version="1.0"version="1.0"`, ` encoding="utf-8"`, ` standalone="yes"`, ` encoding="utf-8" version="1.0"`, ` standalone="yes" version="1.0"`, ` encoding="utf-8" standalone="yes"`, ` encoding="utf-8" standalone="yes" version="1.0"`,
	` version="1.0"encoding="utf-8"`, ` version="1.0"standalone="yes"`, ` version="1.0" encoding="utf-8"standalone="yes"`, ` version="1.0" standalone="yes" encoding="utf-8"`, ` version="1.0" standalone="yes"encoding="utf-8"`,
	` version="1.0" encoding="utf-8" encoding="utf-8"`, ` version="1.0" standalone="yes" standalone="no"`, ` version="1.0" standalone="yes" standalone="yes"`, ` version="1.0" encoding="utf-8" standalone="yes" encoding="utf-8"`, ` version="1.0" encoding="utf-8" version="1.0"`, ` version="1.0" encoding="utf-8" standalone="yes" version="1.0"`,
	` version="1.0" encoding`, ` version="1.0" encoding=`, ` version="1.0" encoding "utf-8"`, ` version="1.0" encoding=utf-8`, ` version="1.0" encoding="utf-8`, ` version="1.0" encoding="utf-8'`, ` version="1.0" encoding=""`, ` version="1.0" ="utf-8"`, ` version="1.0" "utf-8"`, ` version="1.0" utf-8`,
	` version="1.0" encoding="utf8"`, ` version="1.0" encoding="utf-16"`, ` version="1.0" encoding="utf-88"`, ` version="1.0" encoding="utf_8"`, ` version="1.0" encoding="ISO-8859-1"`, ` version="1.0" encoding="us-ascii"`, ` version="1.0" encoding=" utf-8"`, ` version="1.0" encoding="utf-8 "`, " version=\"1.0\" encoding=\"utf\u20108\"",
	` version="1.0" Encoding="utf-8"`, ` version="1.0" ENCODING="utf-8"`, ` version="1.0" encodin="utf-8"`, ` version="1.0" encodings="utf-8"`,
	` version="1.0" standalone`, ` version="1.0" standalone=`, ` version="1.0" standalone "yes"`, ` version="1.0" standalone=yes`, ` version="1.0" standalone="yes`, ` version="1.0" standalone='yes"`, ` version="1.0" standalone=""`, ` version="1.0" yes`,
	` version="1.0" standalone="YES"`, ` version="1.0" standalone="Yes"`, ` version="1.0" standalone="NO"`, ` version="1.0" standalone="No"`, ` version="1.0" standalone="true"`, ` version="1.0" standalone="1"`, ` version="1.0" standalone="y"`, ` version="1.0" standalone=" yes"`, ` version="1.0" standalone="no "`, ` version="1.0" standalone="yesno"`,
	` version="1.0" Standalone="yes"`, ` version="1.0" STANDALONE="yes"`, ` version="1.0" standalon="yes"`, ` version="1.0" stand-alone="yes"`, ` version="1.0" encoding="utf-8" standalone="yes" x`, ` version="1.0" encoding="utf-8" standalone="yes"/`, ` version="1.0" encoding="utf-8" standalone="yes""`,
}

func TestP9_1DeclarationWrong(t *testing.T) {
	for _, text := range declarations {
		wrong(t, "<?xml"+text+"?>", api.BadForm, 0)
		wrong(t, "<?xml"+text+"?><a/>", api.BadForm, 0)
		wrong(t, "<?xml"+text+"?>&x;]]>", api.BadForm, 0)
		wrong(t, "<?xml"+text+"?>?>\"?>", api.BadForm, 0)
	}
}

// TestP9_1DeclarationBegins: without a blank behind <?xml it is no declaration, but an instruction.
func TestP9_1DeclarationBegins(t *testing.T) {
	wrong(t, `<?xml?>`, api.BadForm, 2)
	wrong(t, `<?xml="1.0"?>`, api.BadForm, 2)
	wrong(t, `<?xml"1.0"?>`, api.BadForm, 2)
	wrong(t, "<?xml\u00A0version=\"1.0\"?>", api.BadForm, 2) // a blank elsewhere, not here
	wrong(t, `<?xmlversion="1.0"?>`, api.BadForm, 12)
	wrong(t, `<? xml version="1.0"?>`, api.BadForm, 2)
	wrong(t, `<xml version="1.0"?>`, api.BadForm, 18)
	wrong(t, `<?XML version="1.0"?>`, api.BadForm, 2)
	wrong(t, `<?xml`, api.BadEnd, 5)
	wrong(t, `<?xml?`, api.BadForm, 2)
	wrong(t, `<?xml `, api.BadEnd, 6)
}

// TestP9_1DeclarationUpToTheFirstEnd: its end is the first ?>, within quotes too.
func TestP9_1DeclarationUpToTheFirstEnd(t *testing.T) {
	wrong(t, `<?xml version="1.0?>"?>`, api.BadForm, 0)
	wrong(t, `<?xml version="1.0" encoding="?>utf-8"?>`, api.BadForm, 0)
	wrong(t, `<?xml version="1.0"><a/><?p ?>`, api.BadForm, 0)
	wrong(t, `<?xml <?p ?>`, api.BadForm, 0)
}

// TestP9_1DeclarationWithoutEnd: what it says isn't there before its end is, so that it may be wrong only then.
func TestP9_1DeclarationWithoutEnd(t *testing.T) {
	for _, text := range append([]string{` version="1.0"`, ` version="1.0" encoding="utf-8" standalone="no"  `}, declarations...) {
		for _, tail := range []string{"", ">", "?", "? >", "><a/>", "/>", "&x;<!"} {
			doc := "<?xml" + text + tail
			if !strings.Contains(doc, "?>") {
				wrong(t, doc, api.BadEnd, len(doc))
			}
		}
	}
}

// TestP9_1DeclarationElsewhere: behind the place 0 it is an instruction of a name that none may have.
func TestP9_1DeclarationElsewhere(t *testing.T) {
	const doc = `<?xml version="1.0"?>`
	for _, head := range []string{" ", "\n", "\uFEFF", "a", "<a/>", "<a>", "<!---->", "<![CDATA[]]>", "<?p?>", doc, doc + "\n", doc + "<a/>é"} {
		wrong(t, head+doc, api.BadForm, len(head)+2)
		wrong(t, head+doc+"<a/>", api.BadForm, len(head)+2)
		for _, text := range declarations {
			wrong(t, head+"<?xml"+text+"?>", api.BadForm, len(head)+2)
		}
	}
}
