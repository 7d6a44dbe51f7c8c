package tests

import (
	"strings"
	"testing"

	"roundtable/api"
	"roundtable/decide"
	"roundtable/machine"
	"roundtable/wire"
)

// sealed puts a checksum behind bytes.
func sealed(b string) string {
	sum := wire.Checksum(b)
	return b + string([]byte{byte(sum >> 8), byte(sum)})
}

// P55.1: Checksum, Encode, Decode and Length.
func TestWireMessages(t *testing.T) {
	want(t, "checksum", wire.Checksum("\x01\x02\x03"), 17)
	want(t, "checksum", wire.Checksum(""), 0)
	want(t, "checksum", wire.Checksum(strings.Repeat("\xff", 65521)), (65521+255*(65521%65521))%65521)
	want(t, "checksum", wire.Checksum(strings.Repeat("\xff", 300)), (300+255*300*301/2)%65521)
	m := exampleMachine(t)
	want(t, "encode", all(wire.Encode(m, 0, 1, 0, 1)), all("\x00\x01\x00\x00\x00\x06", api.OK))
	m.Symbols[0][1][0][1] = 300
	long := sealed("\x00\x01\x00\xac\x02")
	want(t, "encode", all(wire.Encode(m, 0, 1, 0, 1)), all(long, api.OK))
	want(t, "length", all(wire.Length(m, 0, 1, 0)), "[7 0]")
	want(t, "length", all(wire.Length(m, 0, 0, 1)), "[6 0]")
	want(t, "decode", all(wire.Decode(m, 0, 1, 0, long)), "[300 0]")
	for symbol, bytes := range map[int]string{0: "\x00", 127: "\x7f", 128: "\x80\x01", 16383: "\xff\x7f", 16384: "\x80\x80\x01", api.MaxNumber: "\x80\x80\x40"} {
		m.Symbols[0][0][1][0] = symbol
		want(t, "encode", all(wire.Encode(m, 0, 0, 1, 0)), all(sealed("\x00\x00\x01"+bytes), api.OK))
		want(t, "decode", all(wire.Decode(m, 0, 0, 1, sealed("\x00\x00\x01"+bytes))), all(symbol, api.OK))
	}
	m.Symbols[0][0][1][0] = 0
	want(t, "encode", all(wire.Encode(m, 0, 1, 0, 2)), "[ 6]")
	want(t, "encode", all(wire.Encode(m, 0, 1, 0, -1)), "[ 6]")
	for _, x := range []struct {
		b string
		e api.Errno
	}{
		{"", api.ErrCorrupt}, {sealed("\x00\x01\x00"), api.ErrCorrupt}, {"\x00\x01\x00\x00\x00\x07", api.ErrCorrupt}, {sealed("\x00\x01\x00\x00\x00"), api.ErrForm}, {sealed("\x00\x01\x00\x80"), api.ErrForm}, {sealed("\x00\x01\x00\x80\x00"), api.ErrForm},
		{sealed("\x00\x01\x00\x81\x80\x40"), api.ErrForm}, {sealed("\x00\x01\x00\x80\x80\x40"), api.ErrNone}, {sealed("\x00\x00\x01\x80\x80\x80\x80\x80\x80\x80\x80\x80\x80\x01"), api.ErrForm}, {sealed("\x00\x00\x01\x00"), api.ErrMismatch}, {sealed("\x00\x01\x00\x07"), api.ErrNone},
	} {
		want(t, "decode", all(wire.Decode(m, 0, 1, 0, x.b)), all(0, x.e))
	}
	empty := api.Machine{N: 2, Rounds: 1, Ins: 1, Outs: 1, First: [][]int{{-1}, {-1}}, Symbols: [][][][]int{{{nil, nil}, {nil, nil}}}, Out: [][][]int{{nil, nil}, {nil, nil}}}
	want(t, "length", all(wire.Length(empty, 0, 1, 0)), "[0 0]")
	for _, x := range []struct {
		round, from, to int
		e               api.Errno
	}{{1, 0, 0, api.ErrRange}, {-1, 0, 1, api.ErrRange}, {0, 2, 2, api.ErrRange}, {0, 0, -1, api.ErrRange}, {0, 1, 1, api.ErrUse}} {
		want(t, "place", all(wire.Encode(m, x.round, x.from, x.to, 9)), all("", x.e))
		want(t, "place", all(wire.Decode(m, x.round, x.from, x.to, "")), all(0, x.e))
		want(t, "place", all(wire.Length(m, x.round, x.from, x.to)), all(0, x.e))
	}
	for _, x := range badMachines(t) {
		want(t, "bad", all(wire.Encode(x.m, -1, 0, 0, 0)), all("", x.e))
		want(t, "bad", all(wire.Decode(x.m, -1, 0, 0, "")), all(0, x.e))
		want(t, "bad", all(wire.Length(x.m, -1, 0, 0)), all(0, x.e))
		want(t, "bad", all(wire.Machine(x.m)), all("", x.e))
	}
}

// P55.2: Machine and Parse.
func TestWireMachines(t *testing.T) {
	m := exampleMachine(t)
	b, e := wire.Machine(m)
	good(t, "machine", e)
	want(t, "bytes", []byte(b[:len(b)-2]), []byte("RTM\x01\x02\x01\x02\x02"+"\x01\x00\x01\x02"+"\x01\x00\x02\x00\x00\x01\x00\x02\x00\x02"+"\x00\x00\x00"+"\x04"+"\x00\x00\x01\x00\x00"+"\x00\x00\x01\x01\x00"+"\x00\x01\x01\x01\x00"+"\x00\x01\x01\x02\x01"))
	want(t, "sealed", b, sealed(b[:len(b)-2]))
	want(t, "parse", all(wire.Parse(b)), all(m, api.OK))
	for _, x := range []struct {
		b string
		e api.Errno
	}{
		{strings.Repeat("x", api.MaxText+1), api.ErrLong}, {"", api.ErrCorrupt}, {b[:len(b)-1], api.ErrCorrupt}, {sealed("RTM"), api.ErrCorrupt}, {sealed("RTM\x01"), api.ErrForm}, {sealed("RTM\x02" + b[4:len(b)-2]), api.ErrForm}, {sealed(b[:len(b)-2] + "\x00"), api.ErrForm},
		{sealed(b[:len(b)-3]), api.ErrForm}, {sealed("RTM\x01\x82\x00" + b[5:len(b)-2]), api.ErrForm}, {sealed("RTM\x01\x02\x01\x02\x02\xff\xff\xff\xff\x7f"), api.ErrForm}, {sealed("RTM\x01\x06\x00\x01\x01"), api.ErrForm},
	} {
		want(t, "parse", all(wire.Parse(x.b)), all(api.Machine{}, x.e))
	}
	wide := api.Machine{N: 2, Rounds: 1, Ins: 1, Outs: 1, First: [][]int{{0}, {-1}}, Out: [][][]int{{make([]int, 8000), nil}, {{0}, nil}}, Symbols: [][][][]int{{{nil, make([]int, 8000)}, {nil, nil}}}}
	for i := range 8000 {
		wide.Steps = append(wide.Steps, api.Step{Heard: [5]int{i, -1, -1, -1, -1}})
		wide.Symbols[0][0][1][i] = api.MaxNumber
	}
	good(t, "wide", machine.Check(wide))
	want(t, "long", all(wire.Machine(wide)), "[ 13]")
}

// P55.3: consequences.
func TestWireLaws(t *testing.T) {
	m := exampleMachine(t)
	for from := range 2 {
		for state := range len(m.Out[0][from]) {
			b, e := wire.Encode(m, 0, from, 1-from, state)
			good(t, "encode", e)
			want(t, "decode", all(wire.Decode(m, 0, from, 1-from, b)), all(m.Symbols[0][from][1-from][state], api.OK))
			for i := range b {
				for c := range 256 {
					if damaged := b[:i] + string([]byte{byte(c)}) + b[i+1:]; damaged != b {
						want(t, "damaged", all(wire.Decode(m, 0, from, 1-from, damaged)), all(0, api.ErrCorrupt))
					}
				}
				if i > 0 && i < len(b)-2 && b[i] != b[i-1] {
					swapped := b[:i-1] + b[i:i+1] + b[i-1:i] + b[i+1:]
					want(t, "swapped", all(wire.Decode(m, 0, from, 1-from, swapped)), all(0, api.ErrCorrupt))
				}
			}
		}
	}
	texts := map[string]bool{}
	for _, s := range []api.System{exampleSystem(t), crashSystem(t, 1), crashSystem(t, 2), lossySystem(t)} {
		r := nobody(s)
		if verdict, early, _, _ := decide.Decide(s.Problem); verdict == api.VerdictYes {
			r = early
		}
		m, _ := machine.Synthesize(s, r)
		b, e := wire.Machine(m)
		good(t, "machine", e)
		back, e := wire.Parse(b)
		want(t, "parse", all(machine.Same(back, m), e), "[true 0]")
		texts[b] = true
	}
	want(t, "different", len(texts), 4)
}
