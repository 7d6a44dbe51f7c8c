package tests

import (
	"testing"

	"roundtable/api"
	"roundtable/complex"
	"roundtable/execution"
	"roundtable/library"
	"roundtable/protocol"
	"roundtable/simplex"
	"roundtable/simplicial"
)

// P28.1: Complex, Case, Simplex and Project.
func TestProtocolComplexes(t *testing.T) {
	s := exampleSystem(t)
	want(t, "complex", sketchComplex(protocol.Complex(s)), "0/21/3 0/21/6 0/41/3 0/71/6 ")
	want(t, "case", sketchComplex(protocol.Case(s, 0)), "0/21/3 0/41/3 ")
	want(t, "case", all(protocol.Case(s, 2)), all(api.Complex{}, api.ErrNone))
	want(t, "case", all(protocol.Case(s, -1)), all(api.Complex{}, api.ErrNone))
	want(t, "simplex", all(protocol.Simplex(s, 3)), "[[{0 7} {1 6}] 0]")
	want(t, "simplex", all(protocol.Simplex(s, 4)), "[[] 6]")
	faulty := systemOf(t, consensusOf(t, 0), adversaryOf(t, 2, "0 01 !01 > 1, 01 01 !1 > 1", "0 1 !01"), 1)
	want(t, "simplex", all(protocol.Simplex(faulty, 0)), "[[] 16]")
	want(t, "simplex", all(protocol.Simplex(faulty, 1)), "[[{0 4}] 0]")
	want(t, "complex", sketchComplex(protocol.Complex(faulty)), "0/4 ")
	want(t, "project", all(protocol.Project(s)), "[{[{0 2} {0 4} {0 7} {1 3} {1 6}] [{0 0} {0 0} {0 0} {1 0} {1 1}]} 0]")
	ones := systemOf(t, consensusOf(t, 3), adversaryOf(t, 2, "01 01"), 2)
	want(t, "project", all(protocol.Project(ones)), "[{[{0 4} {1 5}] [{0 1} {1 1}]} 0]")
	for _, x := range badSystems(t) {
		want(t, "complex", all(protocol.Complex(x.s)), all(api.Complex{}, x.e))
		want(t, "case", all(protocol.Case(x.s, -1)), all(api.Complex{}, x.e))
		want(t, "simplex", all(protocol.Simplex(x.s, -1)), all([]int{}, x.e))
		want(t, "project", all(protocol.Project(x.s)), all(api.Map{}, x.e))
		want(t, "cases", all(protocol.Cases(x.s, nil)), all([]int{}, x.e))
	}
}

// P28.2: Inputs, Outputs, Image and Cases.
func TestProtocolTasks(t *testing.T) {
	s := exampleSystem(t)
	want(t, "inputs", sketchComplex(protocol.Inputs(calmTask())), "01 01/1 0/11/1 ")
	want(t, "outputs", sketchComplex(protocol.Outputs(calmTask())), "01 0/11/1 ")
	want(t, "image", sketchComplex(protocol.Image(calmTask(), 1)), "01 0/11/1 ")
	want(t, "image", sketchComplex(protocol.Image(calmTask(), 2)), "0/11/1 ")
	want(t, "image", sketchComplex(protocol.Image(calmTask(), 0)), "01 ")
	want(t, "image", all(protocol.Image(calmTask(), -1)), all(api.Complex{}, api.ErrNone))
	want(t, "image", all(protocol.Image(calmTask(), 3)), all(api.Complex{}, api.ErrNone))
	var many api.Task
	many.N, many.Ins, many.Outs = 5, 5, 8
	for i := range 5 {
		c := api.Case{In: []int{i, 0, 0, 0, 0}}
		for k := range 1024 {
			c.Out = append(c.Out, []int{i, k >> 9 & 7, k >> 6 & 7, k >> 3 & 7, k & 7})
		}
		many.Cases = append(many.Cases, c)
	}
	want(t, "many", all(protocol.Outputs(many)), all(api.Complex{}, api.ErrMany))
	many.Cases = many.Cases[:4]
	c, e := protocol.Outputs(many)
	want(t, "not many", all(len(c.Facets), e), "[4096 0]")
	want(t, "cases", all(protocol.Cases(s, []api.Vertex{{Color: 0, Label: 2}})), "[[0 1] 0]")
	want(t, "cases", all(protocol.Cases(s, []api.Vertex{{Color: 0, Label: 4}, {Color: 1, Label: 3}})), "[[0] 0]")
	want(t, "cases", all(protocol.Cases(s, []api.Vertex{{Color: 0, Label: 3}})), "[[] 0]")
	want(t, "cases", all(protocol.Cases(s, nil)), "[[] 16]")
	for _, x := range badTasks() {
		want(t, "inputs", all(protocol.Inputs(x.t)), all(api.Complex{}, x.e))
		want(t, "outputs", all(protocol.Outputs(x.t)), all(api.Complex{}, x.e))
		want(t, "image", all(protocol.Image(x.t, -1)), all(api.Complex{}, x.e))
	}
}

// P28.3: consequences.
func TestProtocolLaws(t *testing.T) {
	x, _ := library.Consensus(3, 2)
	s := systemOf(t, x, crashSystem(t, 0).Problem.Adversary, 1)
	c, e := protocol.Complex(s)
	good(t, "complex", e)
	v, _ := complex.Vertices(c)
	relevant, _ := execution.Relevant(s)
	want(t, "vertices", len(v), len(relevant))
	var union api.Complex
	m, _ := protocol.Project(s)
	inputs, _ := protocol.Inputs(x)
	for i := range x.Cases {
		part, _ := protocol.Case(s, i)
		union, _ = complex.Union(union, part)
		image, e := simplicial.Image(m, part)
		if e == api.OK {
			for _, f := range image.Facets {
				want(t, "projection", all(simplex.Face(f, inputs.Facets[i])), "[true 0]")
			}
		}
	}
	want(t, "union", sketchComplex(union, api.OK), sketchComplex(c, api.OK))
	for _, f := range c.Facets {
		want(t, "chromatic", all(simplex.Chromatic(f)), "[true 0]")
	}
}
