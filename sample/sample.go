// Package sample makes descriptions for the tests of the layers; no layer calls it.
package sample

import (
	"slices"

	"scantling/api"
	"scantling/node"
)

// Empty is an Empty.
func Empty() api.Desc { return node.Leaf(api.Node{Kind: api.Empty}) }

// Bytes is a Bytes of the class.
func Bytes(a api.Class) api.Desc { return node.Leaf(api.Node{Kind: api.Bytes, Class: a}) }

// Text is a Text of the text.
func Text(s string) api.Desc { return node.Leaf(api.Node{Kind: api.Text, Text: s}) }

// Seq is a, and then b.
func Seq(a, b api.Desc) api.Desc { return node.Pair(api.Seq, a, b) }

// Or is a, or b.
func Or(a, b api.Desc) api.Desc { return node.Pair(api.Or, a, b) }

// Star is a Star of the description.
func Star(a api.Desc) api.Desc { return node.Wrap(api.Star, 0, 0, a) }

// Rep is a Rep of the description.
func Rep(lo, hi int, a api.Desc) api.Desc { return node.Wrap(api.Rep, lo, hi, a) }

// Frame is a Frame of the description.
func Frame(a api.Desc) api.Desc { return node.Wrap(api.Frame, 0, 0, a) }

// Wide is a Wide of the description.
func Wide(a api.Desc) api.Desc { return node.Wrap(api.Wide, 0, 0, a) }

// All are all descriptions of n nodes, of these leaves, and of repeats of these bounds.
func All(n int, leaves []api.Desc, bounds ...[2]int) []api.Desc {
	if n <= 1 {
		return leaves
	}
	var list []api.Desc
	for _, a := range All(n-1, leaves, bounds...) {
		list = append(list, Star(a), Frame(a), Wide(a))
		for _, b := range bounds {
			list = append(list, Rep(b[0], b[1], a))
		}
	}
	for k := 1; k < n-1; k++ {
		seconds := All(n-1-k, leaves, bounds...)
		for _, a := range All(k, leaves, bounds...) {
			for _, b := range seconds {
				list = append(list, Seq(a, b), Or(a, b))
			}
		}
	}
	return list
}

// AllTo are all descriptions of up to n nodes, of these leaves, and of repeats of these bounds.
func AllTo(n int, leaves []api.Desc, bounds ...[2]int) []api.Desc {
	var list []api.Desc
	for k := 1; k <= n; k++ {
		list = append(list, All(k, leaves, bounds...)...)
	}
	return list
}

// Chain is the leaf in so many nodes like whole, each the last part of the next one; a Seq's or an Or's first part is the leaf too. It is laid at once: to wrap it step by step would copy all its nodes at each.
func Chain(steps int, leaf, whole api.Node) api.Desc {
	if whole.Kind != api.Seq && whole.Kind != api.Or {
		list := []api.Node{leaf}
		for i := range steps {
			whole.A = i
			list = append(list, whole)
		}
		return api.Desc{Nodes: list}
	}
	list := slices.Repeat([]api.Node{leaf}, steps+1)
	for i := range steps {
		whole.A, whole.B = steps-1-i, steps+i
		list = append(list, whole)
	}
	return api.Desc{Nodes: list}
}
