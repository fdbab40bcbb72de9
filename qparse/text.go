package qparse

import (
	"slices"
	"strings"

	"recension/api"
	"recension/deci"
)

// Text: a tree written out.
func Text(e api.Expr) string {
	switch e.Op {
	case "neg":
		return "(-" + row(e.Args, "") + ")"
	case "num":
		return deci.Text(e.Num)
	case "lit":
		return quoted(e.Text)
	case "call":
		return e.Text + "(" + row(e.Args, ", ") + ")"
	case "filter":
		return filtered(e)
	case "path":
		return located(e)
	}
	return "(" + row(e.Args, " "+e.Op+" ") + ")"
}

// row is trees written out, with a text between.
func row(list []api.Expr, between string) string {
	var texts []string
	for _, e := range list {
		texts = append(texts, Text(e))
	}
	return strings.Join(texts, between)
}

// quoted is a text in quotes that it doesn't have.
func quoted(text string) string {
	if strings.Contains(text, `"`) {
		return "'" + text + "'"
	}
	return `"` + text + `"`
}

// filtered is a primary in brackets, and its predicates, if the tree is a filter.
func filtered(e api.Expr) string {
	if e.Op != "filter" {
		return "(" + Text(e) + ")"
	}
	text := ""
	for i, part := range e.Args {
		if i == 0 {
			text = "(" + Text(part) + ")"
			continue
		}
		text += predicate(part)
	}
	return text
}

// predicate is a predicate written out.
func predicate(e api.Expr) string { return "[" + Text(e) + "]" }

// located is a path written out.
func located(e api.Expr) string {
	if e.Abs && len(e.Steps) == 0 {
		return "(/)" // a * behind a / by itself would be a name
	}
	var parts []string
	if e.Abs {
		parts = []string{""}
	}
	for _, head := range e.Args {
		parts = append(parts, filtered(head))
	}
	for _, s := range e.Steps {
		parts = append(parts, step(s))
	}
	return strings.Join(parts, "/")
}

// step is a step written out.
func step(s api.QStep) string {
	text := s.Axis + "::" + test(s)
	for _, p := range s.Preds {
		text += predicate(p)
	}
	return text
}

// test is a step's test written out.
func test(s api.QStep) string {
	switch {
	case s.Test == "name":
		return s.Name
	case s.Test != "pi":
		return s.Test + "()"
	case s.Name == "":
		return "processing-instruction()"
	}
	return "processing-instruction(" + quoted(s.Name) + ")"
}

// Same: whether trees are alike.
func Same(a, b api.Expr) bool {
	return a.Op == b.Op && a.Text == b.Text && a.Num == b.Num && a.Abs == b.Abs &&
		slices.EqualFunc(a.Args, b.Args, Same) && slices.EqualFunc(a.Steps, b.Steps, sameStep)
}

// sameStep: whether steps are alike.
func sameStep(a, b api.QStep) bool {
	return a.Axis == b.Axis && a.Test == b.Test && a.Name == b.Name && slices.EqualFunc(a.Preds, b.Preds, Same)
}
