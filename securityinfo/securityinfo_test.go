package securityinfo

import (
	"math"
	"math/rand"
	"slices"
	"testing"

	"traveldoc/api"
)

// far are numbers that are no protocol, no version, no params, no element and no number of a key.
var far = []int{math.MinInt, math.MinInt + 1, -1 << 32, -1 << 16, -256, 1 << 32, 1<<32 + 2, 1<<32 + 4, 1 << 40, math.MaxInt - 1, math.MaxInt}

// defect makes an info one that is not valid.
type defect struct {
	name string
	want api.Errno
	make func(x *api.Info)
}

// defects are of each kind that P14.1 names for an info by itself. All of them can be made of the same info, whatever was made of it before.
var defects = []defect{
	{"a protocol beyond them", api.ErrInvalid, func(x *api.Info) { x.Protocol = 7 }},
	{"basic access", api.ErrInvalid, func(x *api.Info) { x.Protocol = api.ProtoBasic }},
	{"no version", api.ErrRange, func(x *api.Info) { x.Version = 0 }},
	{"a version of two bytes", api.ErrRange, func(x *api.Info) { x.Version = 256 }},
	{"params beyond them", api.ErrRange, func(x *api.Info) { x.Params = 32 }},
	{"negative params", api.ErrRange, func(x *api.Info) { x.Params = -1 }},
	{"a key number of two bytes", api.ErrRange, func(x *api.Info) { x.KeyID = 256 }},
	{"a negative key number", api.ErrRange, func(x *api.Info) { x.KeyID = -1 }},
	{"another key", api.ErrGroup, func(x *api.Info) { x.Key = 2 }},
}

// one returns an info of each protocol.
func one() []api.Info {
	return []api.Info{generic(), integrated(), chip(3, 7), terminal(), active()}
}

// expect compares what Valid returns with the error that is to be, and with the definitions.
func expect(t *testing.T, name string, l []api.Info, want api.Errno) {
	t.Helper()
	if defined := definedError(l); defined != want {
		t.Errorf("%s, %+v: the definitions say %d, not %d", name, l, defined, want)
	}
	if e := Valid(l); e != want {
		t.Errorf("%s, %+v: %d, not %d", name, l, e, want)
	}
}

// P14.1

func TestValid(t *testing.T) {
	expect(t, "nil", nil, api.OK)
	expect(t, "no info", []api.Info{}, api.OK)
	expect(t, "one of each", one(), api.OK)
	for _, x := range one() {
		expect(t, "one alone", []api.Info{x}, api.OK)
	}
	expect(t, "the zero info", []api.Info{{}}, api.ErrInvalid)
}

func TestValidOfNumbersOfInfos(t *testing.T) {
	expect(t, "full", full(), api.OK)
	expect(t, "one less", full()[1:], api.OK)
	keys := func(n int) []api.Info {
		var l []api.Info
		for id := range n {
			l = append(l, chip(1, id))
		}
		return l
	}
	for n := range 40 {
		want := api.OK
		if n > 16 {
			want = api.ErrSize
		}
		expect(t, "keys", keys(n), want)
	}
	// The number comes ahead of all errors of the infos.
	expect(t, "17 zero infos", make([]api.Info, 17), api.ErrSize)
	expect(t, "16 zero infos", make([]api.Info, 16), api.ErrInvalid)
	expect(t, "many zero infos", make([]api.Info, 1000), api.ErrSize)
	expect(t, "full, and one more", append(full(), active()), api.ErrSize)
}

func TestValidOfProtocols(t *testing.T) {
	numbers := slices.Clone(far)
	for n := -3; n <= 300; n++ {
		numbers = append(numbers, n)
	}
	for _, n := range numbers {
		want := api.ErrInvalid
		switch n {
		case 2, 3, 5, 6:
			want = api.OK
		case 4:
			want = api.ErrGroup // there is no key
		}
		expect(t, "protocol", []api.Info{{Protocol: n, Version: 1}}, want)
	}
	expect(t, "basic access is no info", []api.Info{{Protocol: api.ProtoBasic, Version: 1}}, api.ErrInvalid)
}

func TestValidOfVersions(t *testing.T) {
	for _, x := range one() {
		for _, n := range append([]int{-2, -1, 0, 1, 2, 31, 32, 127, 128, 254, 255, 256, 257, 511}, far...) {
			want := api.ErrRange
			if n >= 1 && n <= 255 {
				want = api.OK
			}
			x.Version = n
			expect(t, "version", []api.Info{x}, want)
		}
	}
}

func TestValidOfParams(t *testing.T) {
	for _, x := range one() {
		for _, n := range append([]int{-32, -2, -1, 0, 1, 2, 15, 16, 30, 31, 32, 33, 255, 256}, far...) {
			want := api.ErrRange
			if n == 0 || n > 0 && n <= 31 && x.Protocol <= api.ProtoIntegrated {
				want = api.OK
			}
			x.Params = n
			expect(t, "params", []api.Info{x}, want)
		}
	}
}

func TestValidOfKeyIDs(t *testing.T) {
	for _, x := range one() {
		for _, n := range append([]int{-255, -2, -1, 0, 1, 2, 31, 32, 127, 128, 254, 255, 256, 257, 511}, far...) {
			want := api.ErrRange
			if n == 0 || n > 0 && n <= 255 && x.Protocol == api.ProtoChip {
				want = api.OK
			}
			x.KeyID = n
			expect(t, "key number", []api.Info{x}, want)
		}
	}
}

func TestValidOfKeys(t *testing.T) {
	elements := []int{3, 4, 5, 9, 16, 255, 256, 65536, key, 0x10203040, api.GroupPrime - 2}
	others := []int{-4, -3, -1, 1, 2, 8, 128, 0x00ff00ff, api.GroupPrime - 4, api.GroupPrime - 1, api.GroupPrime, api.GroupPrime + 3, api.GroupPrime + 4, math.MaxUint32}
	for _, x := range one() {
		x.Key = 0
		want := api.OK
		if x.Protocol == api.ProtoChip {
			want = api.ErrGroup
		}
		expect(t, "no key", []api.Info{x}, want)
		for _, n := range elements {
			want := api.ErrGroup
			if x.Protocol == api.ProtoChip {
				want = api.OK
			}
			x.Key = n
			expect(t, "an element", []api.Info{x}, want)
		}
		for _, n := range append(others, far...) {
			x.Key = n
			expect(t, "no element", []api.Info{x}, api.ErrGroup)
		}
	}
}

func TestValidOfOrders(t *testing.T) {
	all := one()
	for i, x := range all {
		for j, y := range all {
			want := api.ErrOrder
			if i < j {
				want = api.OK
			}
			expect(t, "two protocols", []api.Info{x, y}, want)
		}
	}
	ids := []int{0, 1, 2, 127, 128, 254, 255}
	for _, a := range ids {
		for _, b := range ids {
			want := api.ErrOrder
			if a < b {
				want = api.OK
			}
			expect(t, "two keys", []api.Info{chip(1, a), chip(1, b)}, want)
			expect(t, "two keys in the middle", []api.Info{generic(), chip(1, a), chip(1, b), active()}, want)
		}
	}
	// The numbers of keys are those of one protocol only, and the other fields have no order.
	expect(t, "a smaller number behind another protocol", []api.Info{chip(9, 255), terminal()}, api.OK)
	expect(t, "a smaller version", []api.Info{chip(9, 1), chip(8, 2)}, api.OK)
	expect(t, "a greater version", []api.Info{chip(8, 1), chip(9, 1)}, api.ErrOrder)
	other := chip(1, 2)
	other.Key = 3
	expect(t, "a smaller key", []api.Info{chip(1, 1), other}, api.OK)
	expect(t, "another key with the same number", []api.Info{chip(1, 2), other}, api.ErrOrder)
	more := generic()
	more.Params, more.Version = 20, 9
	expect(t, "the same protocol with others", []api.Info{generic(), more}, api.ErrOrder)
}

func TestValidAtEachPlace(t *testing.T) {
	for at := range full() {
		for _, d := range defects {
			l := full()
			d.make(&l[at])
			expect(t, d.name, l, d.want)
		}
		l := full()
		if at > 0 {
			l[at] = l[at-1]
			expect(t, "the same again", l, api.ErrOrder)
			l = full()
			l[at], l[at-1] = l[at-1], l[at]
			expect(t, "exchanged", l, api.ErrOrder)
		}
	}
}

func TestValidOrderOfErrors(t *testing.T) {
	for set := range 1 << len(defects) {
		for _, x := range one() {
			want := api.OK
			// They are made from the last to the first, so that the first one decides.
			for i := len(defects) - 1; i >= 0; i-- {
				if set>>i&1 == 1 {
					defects[i].make(&x)
					want = defects[i].want
				}
			}
			expect(t, "alone", []api.Info{x}, want)
			// It is not behind the one before either, which is the last of its errors.
			if want == api.OK {
				want = api.ErrOrder
			}
			expect(t, "behind the last", []api.Info{chip(1, 1), active(), x}, want)
			// The errors of a later one do not count.
			for _, d := range defects {
				y := active()
				d.make(&y)
				expect(t, d.name, []api.Info{active(), x, y}, want)
			}
		}
	}
	// The order of an info is an error of its own, ahead of those of the next one.
	for _, d := range defects {
		x := active()
		d.make(&x)
		expect(t, d.name, []api.Info{terminal(), terminal(), x}, api.ErrOrder)
		expect(t, d.name, []api.Info{terminal(), x, terminal()}, d.want)
		expect(t, d.name, []api.Info{x, terminal(), generic()}, d.want)
	}
}

func TestValidOfRandomInfos(t *testing.T) {
	r := rand.New(rand.NewSource(1))
	seen := map[api.Errno]int{}
	for range 20000 {
		l := spoil(r, randomInfos(r))
		want := definedError(l)
		if e := Valid(l); e != want {
			t.Fatalf("%+v: %d, not %d", l, e, want)
		}
		seen[want]++
	}
	for _, e := range []api.Errno{api.OK, api.ErrInvalid, api.ErrRange, api.ErrGroup, api.ErrOrder} {
		if seen[e] < 500 {
			t.Errorf("the error %d occurred %d times only", e, seen[e])
		}
	}
}

// P14.3

// choose compares what Choose returns with what is to be, and with the definitions.
func choose(t *testing.T, l []api.Info, order []int, want api.Info, wanted api.Errno) {
	t.Helper()
	if x, e := definedChoose(l, order); x != want || e != wanted {
		t.Errorf("%v of %+v: the definitions say %+v and %d", order, l, x, e)
	}
	if x, e := Choose(l, order); x != want || e != wanted {
		t.Errorf("%v of %+v: %+v and %d", order, l, x, e)
	}
}

func TestChoose(t *testing.T) {
	for _, x := range one() {
		choose(t, one(), []int{x.Protocol}, x, api.OK)
		choose(t, []api.Info{x}, []int{x.Protocol}, x, api.OK)
		choose(t, []api.Info{x}, []int{6, 5, 4, 3, 2}, x, api.OK)
		choose(t, []api.Info{x}, []int{x.Protocol, x.Protocol, 0}, x, api.OK)
		for _, y := range one() {
			choose(t, one(), []int{x.Protocol, y.Protocol}, x, api.OK)
			// The one that is not there is passed over.
			if x != y {
				choose(t, []api.Info{y}, []int{x.Protocol, y.Protocol}, y, api.OK)
				choose(t, []api.Info{y}, []int{x.Protocol}, api.Info{}, api.ErrMissing)
			}
		}
	}
	// Neither a greater version nor the place in the list matters between protocols.
	choose(t, one(), []int{api.ProtoActive, api.ProtoTerminal}, active(), api.OK)
	choose(t, one(), []int{api.ProtoIntegrated, api.ProtoTerminal, api.ProtoGeneric}, integrated(), api.OK)
}

func TestChooseOfNone(t *testing.T) {
	for _, order := range [][]int{nil, {}, {0}, {api.ProtoBasic}, {7}, {-1}, {0, 1, 7, -2, 8, 0}, far} {
		choose(t, one(), order, api.Info{}, api.ErrMissing)
		choose(t, nil, order, api.Info{}, api.ErrMissing)
	}
	choose(t, nil, []int{2, 3, 4, 5, 6}, api.Info{}, api.ErrMissing)
	choose(t, one(), append(slices.Clone(far), 0, 1, 7, api.ProtoTerminal, 2), terminal(), api.OK)
	choose(t, full(), append(make([]int, 5000), api.ProtoActive), active(), api.OK)
}

func TestChooseOfSeveralVersions(t *testing.T) {
	for _, x := range []struct {
		versions []int
		want     int
	}{
		{[]int{1}, 0}, {[]int{1, 2}, 1}, {[]int{2, 1}, 0}, {[]int{2, 2}, 0},
		{[]int{1, 2, 3}, 2}, {[]int{3, 2, 1}, 0}, {[]int{1, 3, 2}, 1}, {[]int{2, 3, 3}, 1}, {[]int{3, 2, 3}, 0}, {[]int{1, 1, 1}, 0},
		{[]int{1, 1, 2, 2, 1}, 2}, {[]int{254, 255, 1, 255}, 1}, {[]int{127, 128}, 1}, {[]int{128, 127}, 0},
	} {
		var keys []api.Info
		for i, version := range x.versions {
			keys = append(keys, chip(version, 3*i))
		}
		for _, l := range [][]api.Info{keys, append([]api.Info{generic()}, keys...), append(slices.Clone(keys), terminal(), active())} {
			choose(t, l, []int{api.ProtoChip}, keys[x.want], api.OK)
			choose(t, l, []int{9, api.ProtoIntegrated, api.ProtoChip, api.ProtoTerminal}, keys[x.want], api.OK)
		}
	}
	// All fields are those of the chosen one.
	l := []api.Info{chip(1, 0), {Protocol: api.ProtoChip, Version: 2, Key: 9, KeyID: 200}}
	choose(t, l, []int{api.ProtoChip}, l[1], api.OK)
}

func TestChooseOrderOfErrors(t *testing.T) {
	for _, d := range defects {
		for at := range one() {
			l := one()
			d.make(&l[at])
			// The error comes also where another info would be chosen, or none.
			for _, order := range [][]int{nil, {2}, {3}, {4}, {5}, {6}, {7}, {l[at].Protocol}} {
				choose(t, l, order, api.Info{}, d.want)
			}
		}
	}
	choose(t, append(full(), active()), []int{2}, api.Info{}, api.ErrSize)
	choose(t, append(full(), active()), nil, api.Info{}, api.ErrSize)
	choose(t, []api.Info{active(), generic()}, []int{2}, api.Info{}, api.ErrOrder)
	choose(t, []api.Info{active(), generic()}, []int{1}, api.Info{}, api.ErrOrder)
}

func TestChooseOfRandomInfos(t *testing.T) {
	r := rand.New(rand.NewSource(2))
	seen := map[api.Errno]int{}
	for range 10000 {
		l := randomInfos(r)
		if r.Intn(4) == 0 {
			l = spoil(r, l)
		}
		if r.Intn(2) == 0 {
			// Few versions, so that several are equal.
			for i := range l {
				l[i].Version = 1 + l[i].Version%3
			}
		}
		order := make([]int, r.Intn(5))
		for i := range order {
			order[i] = r.Intn(9)
		}
		want, wanted := definedChoose(l, order)
		choose(t, l, order, want, wanted)
		seen[wanted]++
	}
	for _, e := range []api.Errno{api.OK, api.ErrInvalid, api.ErrRange, api.ErrGroup, api.ErrOrder, api.ErrMissing} {
		if seen[e] < 50 {
			t.Errorf("the error %d occurred %d times only", e, seen[e])
		}
	}
}

// missing compares what Missing returns with what is to be, and with the definitions.
func missing(t *testing.T, access, signed, want []api.Info) {
	t.Helper()
	if got := definedMissing(access, signed); !slices.Equal(got, want) {
		t.Errorf("%+v of %+v: the definitions say %+v", access, signed, got)
	}
	if got := Missing(access, signed); !slices.Equal(got, want) {
		t.Errorf("%+v of %+v: %+v", access, signed, got)
	}
}

func TestMissing(t *testing.T) {
	both := []api.Info{generic(), integrated()}
	missing(t, nil, nil, nil)
	missing(t, []api.Info{}, []api.Info{}, nil)
	missing(t, one(), nil, nil)
	missing(t, nil, one(), both)
	missing(t, one(), one(), nil)
	missing(t, both, one(), nil)
	missing(t, one(), both, nil)
	missing(t, []api.Info{generic()}, one(), both[1:])
	missing(t, []api.Info{integrated()}, one(), both[:1])
	missing(t, []api.Info{chip(3, 7), terminal(), active()}, one(), both)
	missing(t, []api.Info{integrated(), generic()}, both, nil)
	// What is offered and not signed is nothing that is missing.
	missing(t, both, both[:1], nil)
	missing(t, both[:1], both[1:], both[1:])
}

func TestMissingOfOtherProtocols(t *testing.T) {
	missing(t, nil, []api.Info{chip(3, 7), terminal(), active()}, nil)
	for _, protocol := range append([]int{-2, -1, 0, 1, 4, 5, 6, 7, 8, 258, 259}, far...) {
		missing(t, nil, []api.Info{{Protocol: protocol, Version: 1}}, nil)
		missing(t, nil, []api.Info{{Protocol: protocol, Version: 1, Params: 5}, generic()}, []api.Info{generic()})
	}
}

func TestMissingOfInfosThatDifferInOneField(t *testing.T) {
	for _, change := range []func(x *api.Info, by int){
		func(x *api.Info, by int) { x.Protocol += by },
		func(x *api.Info, by int) { x.Version += by },
		func(x *api.Info, by int) { x.Params += by },
		func(x *api.Info, by int) { x.Key += by },
		func(x *api.Info, by int) { x.KeyID += by },
	} {
		for _, by := range []int{1, -1, 256, 1 << 16, 1 << 32} {
			for _, x := range []api.Info{generic(), integrated()} {
				other := x
				change(&other, by)
				missing(t, []api.Info{other}, []api.Info{x}, []api.Info{x})
				missing(t, []api.Info{other, x}, []api.Info{x}, nil)
				missing(t, []api.Info{active(), other}, []api.Info{generic(), integrated()}, definedMissing([]api.Info{other}, []api.Info{generic(), integrated()}))
			}
		}
	}
}

// The lists need not be valid, and have no limit; their order is kept, and what occurs twice is missing twice.
func TestMissingOfListsThatAreNotValid(t *testing.T) {
	spoiled := api.Info{Protocol: api.ProtoIntegrated, Version: -4, Params: 900, Key: 2, KeyID: -1}
	signed := []api.Info{integrated(), active(), generic(), spoiled, generic(), {}, integrated()}
	missing(t, nil, signed, []api.Info{integrated(), generic(), spoiled, generic(), integrated()})
	missing(t, []api.Info{generic(), {}, generic()}, signed, []api.Info{integrated(), spoiled, integrated()})
	missing(t, []api.Info{spoiled, integrated()}, signed, []api.Info{generic(), generic()})
	missing(t, []api.Info{active(), {}}, slices.Repeat(signed, 30), slices.Repeat([]api.Info{integrated(), generic(), spoiled, generic(), integrated()}, 30))
	missing(t, slices.Repeat([]api.Info{{}, integrated(), spoiled}, 30), signed, []api.Info{generic(), generic()})
}

func TestMissingOfRandomInfos(t *testing.T) {
	r := rand.New(rand.NewSource(3))
	count := 0
	for range 10000 {
		signed := spoil(r, randomInfos(r))
		access := spoil(r, slices.Clone(signed))
		want := definedMissing(access, signed)
		missing(t, access, signed, want)
		count += len(want)
	}
	if count < 1000 {
		t.Error("hardly anything was missing:", count)
	}
}

// If nothing is missing, each password protocol that was signed was offered.
func TestConsequenceOfMissing(t *testing.T) {
	r := rand.New(rand.NewSource(4))
	none := 0
	for range 10000 {
		signed := randomInfos(r)
		access := spoil(r, slices.Clone(signed))
		if len(Missing(access, signed)) > 0 {
			continue
		}
		none++
		for _, x := range signed {
			if x.Protocol <= api.ProtoIntegrated && !slices.Contains(access, x) {
				t.Errorf("%+v of %+v was taken away", x, signed)
			}
		}
	}
	if none < 1000 {
		t.Error("hardly ever was nothing missing:", none)
	}
}

// R2

// room returns infos with more of them behind, which nothing may reach.
func room(l []api.Info) []api.Info {
	return append(slices.Clone(l), slices.Repeat([]api.Info{{Protocol: 99}}, 20)...)[:len(l)]
}

func TestArgumentsStay(t *testing.T) {
	for _, l := range [][]api.Info{one(), full(), {active(), generic(), {}}} {
		a, b, order := room(l), room(l[1:]), []int{9, 6, 3}
		Valid(a)
		Choose(a, order)
		Missing(a, b)
		Missing(b, a)
		for _, x := range []struct{ got, want []api.Info }{{a, room(l)}, {b, room(l[1:])}} {
			if !slices.Equal(x.got[:cap(x.got)][:len(x.want)+20], x.want[:len(x.want)+20]) {
				t.Error("the infos are others now", x.got)
			}
		}
		if !slices.Equal(order, []int{9, 6, 3}) {
			t.Error("the order is another one now", order)
		}
	}
}

func TestMissingSharesNothing(t *testing.T) {
	signed := []api.Info{generic(), integrated()}
	access := []api.Info{active()}
	first, second := Missing(access, signed), Missing(access, signed)
	for i := range first[:cap(first)] {
		first[:cap(first)][i] = api.Info{Protocol: -9}
	}
	if !slices.Equal(signed, []api.Info{generic(), integrated()}) || !slices.Equal(access, []api.Info{active()}) {
		t.Error("the result shares memory with the arguments")
	}
	signed[0], signed[1], access[0] = api.Info{}, api.Info{}, api.Info{}
	if !slices.Equal(second, []api.Info{generic(), integrated()}) {
		t.Error("the result shares memory with the arguments, or with another result", second)
	}
}

// The examples at the chapter's end.
func TestExamples(t *testing.T) {
	if b, e := Encode(nil); e != api.OK || len(b) != 2 || b[0] != 0x31 || b[1] != 0 {
		t.Error(b, e)
	}
	order := []int{api.ProtoIntegrated, api.ProtoGeneric}
	choose(t, []api.Info{generic(), integrated()}, order, integrated(), api.OK)
	choose(t, []api.Info{generic()}, order, generic(), api.OK)
	missing(t, nil, []api.Info{generic(), chip(1, 0)}, []api.Info{generic()})
}
