package sample_test

import (
	"testing"

	"scantling/api"
	"scantling/node"
	"scantling/sample"
)

// All descriptions that are made have their form, their number of nodes, and no two are the same.
func TestAll(t *testing.T) {
	leaves := []api.Desc{sample.Empty(), sample.Text("a")}
	for n, want := range []int{0, 2, 10, 58, 370} {
		list := sample.All(n, leaves, [2]int{0, 0}, [2]int{1, 2})
		if n == 0 {
			continue
		}
		if len(list) != want {
			t.Errorf("%d of %d nodes, want %d", len(list), n, want)
		}
		for i, d := range list {
			if len(d.Nodes) != n || !node.Form(d) {
				t.Fatalf("%v has no form, or not %d nodes", d, n)
			}
			for _, e := range list[:i] {
				if node.Same(d, e) {
					t.Fatalf("%v is there twice", d)
				}
			}
		}
	}
	if len(sample.AllTo(3, leaves, [2]int{0, 0}, [2]int{1, 2})) != 2+10+58 {
		t.Error("AllTo")
	}
}

// Chains are what they would be if they were made step by step.
func TestChain(t *testing.T) {
	leaf := api.Node{Kind: api.Bytes, Class: api.Class{7}}
	for kind := api.Seq; kind <= api.Kinds; kind++ {
		want := node.Leaf(leaf)
		for steps := range 5 {
			if got := sample.Chain(steps, leaf, api.Node{Kind: kind}); !node.Same(got, want) {
				t.Errorf("Chain(%d, %d) = %v, want %v", steps, kind, got, want)
			}
			if kind == api.Seq || kind == api.Or {
				want = node.Pair(kind, node.Leaf(leaf), want)
			} else {
				want = node.Wrap(kind, 0, 0, want)
			}
		}
	}
}
