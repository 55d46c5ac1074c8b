package rules

import (
	"fleuron/api"
	"fleuron/points"
)

func white(n api.Node) bool     { return n.Token.Kind == api.White }
func atWord(n api.Node) bool    { return n.Token.Kind == api.AtWord }
func ident(n api.Node) bool     { return n.Token.Kind == api.Ident }
func colon(n api.Node) bool     { return n.Token.Kind == api.Colon }
func semicolon(n api.Node) bool { return n.Token.Kind == api.Semicolon }

// block tells whether n is what declarations are in: other brackets are none.
func block(n api.Node) bool { return n.Token.Kind == api.Open && n.Token.Text == "{" }

// endsAtRule tells whether an at rule is at its end, or at its block.
func endsAtRule(n api.Node) bool { return semicolon(n) || block(n) }

// partsDecls tells whether n may stand between declarations.
func partsDecls(n api.Node) bool { return white(n) || semicolon(n) }

// partsRules tells whether n may stand between rules.
func partsRules(n api.Node) bool {
	return partsDecls(n) || n.Token.Kind == api.CDO || n.Token.Kind == api.CDC
}

// exclamation tells whether n is the sign ahead of important.
func exclamation(n api.Node) bool { return n.Token.Kind == api.Delim && n.Token.Text == "!" }

// importantWord tells whether n is the word behind it.
func importantWord(n api.Node) bool { return ident(n) && points.Lower(n.Token.Text) == "important" }

// spoils tells whether a value may not have n.
func spoils(n api.Node) bool {
	switch n.Token.Kind {
	case api.BadString, api.BadURL, api.Close:
		return true
	}
	return exclamation(n)
}
