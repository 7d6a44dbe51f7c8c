package tests

import (
	"testing"

	"roundtable/api"
	"roundtable/views"
)

// first is a view before the first round, later one of a later round.
func first(p, input int) api.View {
	return api.View{Proc: p, Input: input, Heard: [5]int{-1, -1, -1, -1, -1}}
}

func later(p, k int, heard ...int) api.View {
	v := api.View{Proc: p, Round: k, Heard: [5]int{-1, -1, -1, -1, -1}}
	copy(v.Heard[:], heard)
	return v
}

func exampleTable() api.Table {
	return api.Table{N: 2, Views: []api.View{first(0, 1), first(1, 0), later(0, 1, 0, 1), later(1, 1, -1, 1)}}
}

type badView struct {
	v api.View
	e api.Errno
}

// badViews are views that are wrong behind those of the example, with a further view 4 of process 0, and a view 5 that heard it.
func badViews() []badView {
	return []badView{
		{first(2, 0), api.ErrRange}, {first(-1, 0), api.ErrRange}, {later(0, 7, 0), api.ErrRange}, {api.View{Round: -1}, api.ErrRange}, {first(0, 8), api.ErrRange}, {first(0, -1), api.ErrRange}, {api.View{Round: 1, Input: 1}, api.ErrForm},
		{api.View{}, api.ErrForm}, {later(0, 0, 0), api.ErrForm}, {later(0, 1, 0, 1, 1), api.ErrForm}, {later(0, 1, 0, 6), api.ErrNone}, {later(0, 1, 0, -2), api.ErrNone}, {later(0, 1, 1, 9), api.ErrMismatch}, {later(0, 2, 0, 1), api.ErrMismatch},
		{later(1, 1, 0, -1), api.ErrGap}, {later(0, 1), api.ErrGap}, {later(0, 2, 2, 5), api.ErrMismatch},
	}
}

func widerTable() api.Table {
	t := exampleTable()
	t.Views = append(t.Views, first(0, 0), later(1, 1, 4, 1))
	return t
}

// P22.1: Check, Add and Find.
func TestViewsTables(t *testing.T) {
	x := widerTable()
	want(t, "check", views.Check(x), api.OK)
	want(t, "check", views.Check(api.Table{N: 1}), api.OK)
	want(t, "check", views.Check(api.Table{}), api.ErrArg)
	want(t, "check", views.Check(api.Table{N: 6, Views: make([]api.View, 8193)}), api.ErrArg)
	want(t, "check", views.Check(api.Table{N: 1, Views: make([]api.View, 8193)}), api.ErrMany)
	want(t, "twice", views.Check(api.Table{N: 2, Views: append(x.Views, x.Views[2])}), api.ErrTwice)
	for _, y := range badViews() {
		bad := api.Table{N: 2, Views: append(widerTable().Views, y.v)}
		want(t, "check", views.Check(bad), y.e)
		want(t, "add", all(views.Add(x, y.v)), all(api.Table{}, 0, y.e))
		want(t, "find", all(views.Find(x, y.v)), "[0 false 0]")
		want(t, "add", all(views.Add(bad, api.View{})), all(api.Table{}, 0, y.e))
		want(t, "find", all(views.Find(bad, api.View{})), all(0, false, y.e))
		want(t, "own", all(views.Own(bad, -1)), all(0, y.e))
		want(t, "continues", all(views.Continues(bad, -1, 0)), all(false, y.e))
		want(t, "past", all(views.Past(bad, -1)), all([]int{}, y.e))
		want(t, "inputs", all(views.Inputs(bad, -1)), all([]int{}, y.e))
		want(t, "text", all(views.Text(bad, -1)), all("", y.e))
	}
	more, i, e := views.Add(x, later(0, 1, 4))
	want(t, "add", all(len(more.Views), more.Views[6], i, e), all(7, later(0, 1, 4), 6, api.OK))
	want(t, "add", all(views.Add(x, x.Views[3])), all(x, 3, api.OK))
	want(t, "find", all(views.Find(x, x.Views[3])), "[3 true 0]")
	full := api.Table{N: 5}
	for p := range 5 {
		for v := range 8 {
			full.Views = append(full.Views, first(p, v))
		}
	}
	for i := 0; len(full.Views) < api.MaxViews; i++ {
		full.Views = append(full.Views, later(0, 1, i&7, 8+i>>3&7, 16+i>>6&7, 24+i>>9&7, 32+i>>12&7))
	}
	want(t, "full", views.Check(full), api.OK)
	want(t, "limit", all(views.Add(full, later(0, 1, 0))), all(api.Table{}, 0, api.ErrLimit))
	_, i, e = views.Add(full, full.Views[8000])
	want(t, "no limit", all(i, e), "[8000 0]")
}

// P22.2: Own, Continues, Past, Inputs and Text.
func TestViewsPasts(t *testing.T) {
	x := exampleTable()
	x.Views = append(x.Views, later(0, 2, 2, 3))
	want(t, "own", all(views.Own(x, 4)), "[2 0]")
	want(t, "own", all(views.Own(x, 1)), "[0 16]")
	want(t, "own", all(views.Own(x, 5)), "[0 6]")
	want(t, "continues", all(views.Continues(x, 0, 2)), "[true 0]")
	want(t, "continues", all(views.Continues(x, 0, 4)), "[true 0]")
	want(t, "continues", all(views.Continues(x, 1, 2)), "[false 0]")
	want(t, "continues", all(views.Continues(x, 2, 0)), "[false 0]")
	want(t, "continues", all(views.Continues(x, 3, 3)), "[true 0]")
	want(t, "continues", all(views.Continues(x, 0, -1)), "[false 6]")
	want(t, "past", all(views.Past(x, 2)), "[[0 1 2] 0]")
	want(t, "past", all(views.Past(x, 3)), "[[1 3] 0]")
	want(t, "past", all(views.Past(x, 4)), "[[0 1 2 3 4] 0]")
	want(t, "past", all(views.Past(x, 9)), "[[] 6]")
	want(t, "inputs", all(views.Inputs(x, 2)), "[[1 0] 0]")
	want(t, "inputs", all(views.Inputs(x, 3)), "[[-1 0] 0]")
	want(t, "inputs", all(views.Inputs(x, 9)), "[[] 6]")
	for i, text := range []string{"0:1", "1:0", "0(0:1,1:0)", "1(1:0)", "0(0(0:1,1:0),1(1:0))"} {
		want(t, "text", all(views.Text(x, i)), all(text, api.OK))
	}
	want(t, "text", all(views.Text(x, -1)), "[ 6]")
	deep := api.Table{N: 5}
	for p := range 5 {
		deep.Views = append(deep.Views, first(p, 0))
	}
	for k := 1; k <= 6; k++ {
		for p := range 5 {
			b := 5 * (k - 1)
			deep.Views = append(deep.Views, later(p, k, b, b+1, b+2, b+3, b+4))
		}
	}
	text, e := views.Text(deep, 29)
	want(t, "deep", all(len(text), e), "[14842 0]")
	want(t, "long", all(views.Text(deep, 30)), "[ 13]")
}

// P22.3: consequences.
func TestViewsLaws(t *testing.T) {
	x := widerTable()
	for _, v := range []api.View{later(0, 1, 4), later(0, 2, 2, 3), later(1, 2, 2, 3), later(0, 3, 7, 8)} {
		var e api.Errno
		x, _, e = views.Add(x, v)
		good(t, "add", e)
	}
	texts := map[string]bool{}
	for i, v := range x.Views {
		same, k, _ := views.Add(x, v)
		want(t, "again", all(len(same.Views), k), all(len(x.Views), i))
		text, _ := views.Text(x, i)
		texts[text] = true
		past, _ := views.Past(x, i)
		union := map[int]bool{i: true}
		for _, h := range v.Heard {
			if h >= 0 {
				l, _ := views.Past(x, h)
				for _, p := range l {
					union[p] = true
				}
			}
		}
		want(t, "past", len(past), len(union))
		for k := range x.Views {
			if ok, _ := views.Continues(x, k, i); ok {
				a, _ := views.Inputs(x, k)
				b, _ := views.Inputs(x, i)
				for p := range a {
					want(t, "inputs", a[p] == -1 || a[p] == b[p], true)
				}
			}
		}
	}
	want(t, "texts", len(texts), len(x.Views))
}
