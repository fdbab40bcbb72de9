package qparse

import "recension/api"

// axis: whether there is an axis of a name.
func axis(name string) bool {
	switch name {
	case "ancestor", "ancestor-or-self", "attribute", "child", "descendant", "descendant-or-self", "following",
		"following-sibling", "namespace", "parent", "preceding", "preceding-sibling", "self":
		return true
	}
	return false
}

// function: whether there is a function of a name.
func function(name string) bool {
	_, most := arguments(name)
	return most >= 0
}

// arguments is how many arguments a function has, at least and at most; at most -1, if there is no such function.
func arguments(name string) (int, int) {
	switch name {
	case "last", "position", "true", "false", "version":
		return 0, 0
	case "local-name", "namespace-uri", "name", "string", "string-length", "normalize-space", "number":
		return 0, 1
	case "count", "id", "boolean", "not", "lang", "sum", "floor", "ceiling", "round":
		return 1, 1
	case "starts-with", "contains", "substring-before", "substring-after":
		return 2, 2
	case "substring":
		return 2, 3
	case "translate":
		return 3, 3
	case "concat":
		return 2, api.MaxQuery
	}
	return 0, -1
}
