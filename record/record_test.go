package record_test

import (
	"fmt"
	"math"
	"reflect"
	"slices"
	"strings"
	"testing"

	"ratline/api"
	"ratline/record"
	"ratline/val"
)

func values(l ...api.Value) []api.Value { return l }

func TestFuel(t *testing.T) {
	for _, c := range []struct{ fuel, told int }{{math.MinInt, 0}, {-1, 0}, {0, 0}, {1, 1}, {2, 2}, {3, 3}, {99999, 99999}, {100000, 100000}, {100001, 100000}, {math.MaxInt, 100000}} {
		ticks, outs := record.With(c.fuel), record.With(c.fuel)
		for n := range c.told {
			if ticks.Tick(n) != api.ROK || outs.Out(val.Int(int64(n))) != api.ROK {
				t.Fatal(c, n)
			}
		}
		for range 3 { // what there is no fuel for is not told, however often it is asked
			if ticks.Tick(7) != api.RFuel || ticks.Out(val.Nil()) != api.RFuel || outs.Tick(7) != api.RFuel || outs.Out(val.Nil()) != api.RFuel {
				t.Fatal(c)
			}
		}
		for n, e := range ticks.Ended(api.RFuel).Events {
			if !reflect.DeepEqual(e, api.Event{Kind: api.ETick, N: n}) {
				t.Fatal(c, e)
			}
		}
		for n, e := range outs.Ended(api.RFuel).Events {
			if !reflect.DeepEqual(e, api.Event{Kind: api.EOut, V: val.Int(int64(n))}) {
				t.Fatal(c, e)
			}
		}
		if len(ticks.Ended(api.RFuel).Events) != c.told || len(outs.Ended(api.RFuel).Events) != c.told {
			t.Error(c)
		}
	}
}

func TestTraces(t *testing.T) {
	r := record.With(9)
	r.Tick(3)
	r.Out(val.Text("a"))
	events := []api.Event{{Kind: api.ETick, N: 3}, {Kind: api.EOut, V: val.Text("a")}}
	if got, want := r.Returned(val.Int(5)), (api.Trace{Events: events, V: val.Int(5)}); !reflect.DeepEqual(got, want) {
		t.Error(got)
	}
	if got, want := r.Ended(api.RZero), (api.Trace{Events: events, E: api.RZero}); !reflect.DeepEqual(got, want) {
		t.Error(got)
	}
}

// What is told shares no list with what was handed in, nor with anything else that is told.
func TestWhatIsToldIsNew(t *testing.T) {
	v := val.List(values(val.List(values(val.Int(1)))))
	r := record.With(9)
	r.Out(v)
	r.Out(v)
	x := r.Returned(v)
	v.L[0].L[0] = val.Int(2)
	x.Events[0].V.L[0].L[0] = val.Int(3)
	if got := fmt.Sprint(val.Show(x.Events[0].V), val.Show(x.Events[1].V), val.Show(x.V)); got != "[[3]][[1]][[1]]" {
		t.Error(got)
	}
}

func TestList(t *testing.T) {
	one, long, deep := val.Int(1), val.Text(strings.Repeat("x", 998)), val.List(nil)
	for range 22 {
		deep = val.List(values(deep))
	}
	deepest := val.List(values(deep))
	for _, c := range []struct {
		l []*api.Value
		e api.Run
	}{
		{nil, api.ROK}, {[]*api.Value{&one, &one}, api.ROK}, {[]*api.Value{&long}, api.ROK}, {[]*api.Value{&long, &one}, api.RBig}, {[]*api.Value{&one, &deep}, api.ROK}, {[]*api.Value{&deepest}, api.RBig},
		{slices.Repeat([]*api.Value{&one}, 999), api.ROK}, {slices.Repeat([]*api.Value{&one}, 1000), api.RBig},
	} {
		want := val.Nil()
		if c.e == api.ROK {
			want.Kind = api.VList
			for _, v := range c.l {
				want.L = append(want.L, *v)
			}
		}
		v, e := record.List(c.l)
		if e != c.e || !reflect.DeepEqual(v, want) {
			t.Error(len(c.l), v.Kind, e)
		}
	}
	inner := val.List(values(one))
	v, _ := record.List([]*api.Value{&inner})
	inner.L[0] = val.Int(2)
	if val.Show(v) != "[[1]]" {
		t.Error(val.Show(v))
	}
}
