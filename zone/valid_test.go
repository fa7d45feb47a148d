package zone

import (
	"math/rand"
	"strings"
	"testing"

	"traveldoc/api"
)

// noZone is a zone that is not valid, with its error.
type noZone struct {
	zone api.Zone
	e    api.Errno
}

// change is one other value of a field, and whether it is permitted there.
type change struct {
	set func(z *api.Zone, s string)
	s   string
	e   api.Errno
}

func setKind(z *api.Zone, s string)     { z.Kind = s }
func setState(z *api.Zone, s string)    { z.State = s }
func setSurname(z *api.Zone, s string)  { z.Surname = s }
func setGiven(z *api.Zone, s string)    { z.Given = s }
func setNumber(z *api.Zone, s string)   { z.Number = s }
func setNation(z *api.Zone, s string)   { z.Nation = s }
func setBirth(z *api.Zone, s string)    { z.Birth = s }
func setSex(z *api.Zone, s string)      { z.Sex = s }
func setExpiry(z *api.Zone, s string)   { z.Expiry = s }
func setOptional(z *api.Zone, s string) { z.Optional = s }
func setSecond(z *api.Zone, s string)   { z.Second = s }

// changes returns the changes of a field to texts with the same result.
func changes(set func(*api.Zone, string), e api.Errno, texts ...string) []change {
	var all []change
	for _, s := range texts {
		all = append(all, change{set, s, e})
	}
	return all
}

// changesOfAll are those that have the same result in each format.
func changesOfAll() []change {
	var all []change
	for _, set := range []func(*api.Zone, string){setKind, setState, setNation} {
		all = append(all, changes(set, api.OK, "A", "Z", "AZ")...)
		all = append(all, changes(set, api.ErrInvalid, "", "a", "1", "<", " ", "A<", "<A", "A ", " A", "A1", "É", "\xff", "A\x00", "ABCD", strings.Repeat("A", 1000))...)
	}
	all = append(all, changes(setKind, api.ErrInvalid, "ABC", "A B")...)
	for _, set := range []func(*api.Zone, string){setState, setNation} {
		all = append(all, changes(set, api.OK, "ABC", "UTO")...)
		all = append(all, changes(set, api.ErrInvalid, "A B", "A<B", "AB1", "ABc", "A<<")...)
	}
	for _, set := range []func(*api.Zone, string){setSurname, setGiven} {
		all = append(all, changes(set, api.OK, "A", "A B", "VAN DER MUELLEN", strings.Repeat("A", 30), strings.Repeat("A", 64), strings.Repeat("A B ", 1000)+"C")...)
		all = append(all, changes(set, api.ErrInvalid, " ", " A", "A ", "A  B", "a", "A<B", "A1", "A-B", "É", "<", "\xff")...)
	}
	all = append(all, changes(setSurname, api.ErrInvalid, "")...)
	all = append(all, changes(setGiven, api.OK, "")...)
	all = append(all, changes(setNumber, api.OK, "1", "A", "Z9", "123456789", "ABCDEFGHI")...)
	all = append(all, changes(setNumber, api.ErrInvalid, "", "<", "A<", "<A", "A<B", "A ", " A", "a", "A-B", "É", "\xff", "12345678<", "\x00", strings.Repeat("A", 21)+"<", strings.Repeat("a", 21))...)
	all = append(all, changes(setNumber, api.ErrSize, strings.Repeat("1", 21), strings.Repeat("A", 1000))...)
	all = append(all, changes(setBirth, api.OK, "690806", "000101", "991231", "<<<<<<", "<<0101", "00<<01", "0001<<", "<<<<01", "<<01<<", "00<<<<", "<<1231", "<<<<31", "990131", "990231", "990230", "990431", "000229", "010229", "001001", "001201", "000110", "000120", "000130")...)
	all = append(all, changes(setBirth, api.ErrDate, "", "0", "69080", "6908060", "<<<<<", "<<<<<<<", "000001", "001301", "009901", "000100", "000132", "000199", "000000", "6<0806", "<60806", "69<806", "690<06", "69080<", "6908<6", "<<<806", "<<0<06", "<<<<<1", "<<<<1<", "1<<<<<", "<1<<<<", "<<1<<<", "<<<1<<",
		"a90806", "6A0806", "69O806", "69080A", "69 806", "69-806", "+90806", "69080\xff", "69080é", "<<00<<", "<<13<<", "<<<<00", "<<<<32", "\x00\x00\x00\x00\x00\x00")...)
	all = append(all, changes(setSex, api.OK, "M", "F", "<")...)
	all = append(all, changes(setSex, api.ErrInvalid, "", "X", "m", "f", "0", " ", "MF", "M<", "<M", "<<", "É", "\xff", "\x00")...)
	all = append(all, changes(setExpiry, api.OK, "000101", "991231", "000229", "040229", "960229", "240229", "991130", "940623")...)
	all = append(all, changes(setExpiry, api.ErrDate, "", "0", "00010", "0001010", "010229", "990229", "000230", "000231", "000431", "000631", "000931", "001131", "000001", "001301", "000100", "000132", "000000", "999999", "<<<<<<", "00<<01", "0001<<", "<<0101", "00010<", "00010a", "00010 ", "+00101", "é0101", "\xff00101")...)
	for _, set := range []func(*api.Zone, string){setOptional, setSecond} {
		all = append(all, changes(set, api.OK, "")...)
		all = append(all, changes(set, api.ErrInvalid, "<", "<<", "<A", "A<", "<A<", "<1", "1<", " ", "a", "A b", "A-B", "É", "\xff", "\x00", strings.Repeat("<", 14), strings.Repeat("A", 1000)+"<", "<"+strings.Repeat("A", 1000), strings.Repeat("a", 1000))...)
	}
	return append(all, changes(setOptional, api.ErrSize, strings.Repeat("A", 16), strings.Repeat("A", 1000))...)
}

// changesOf are those whose result depends on the format and on whether the number is long.
func changesOf(z api.Zone) []change {
	at := spans(z.Format)
	room := at["Optional"].size
	if len(z.Number) > 9 {
		room -= len(z.Number) - 9 + 2
	}
	all := changes(setOptional, api.OK, strings.Repeat("A", room), strings.Repeat("9", min(room, 1)))
	all = append(all, changes(setOptional, api.ErrSize, strings.Repeat("A", room+1), strings.Repeat("9", room+2))...)
	if room >= 3 {
		all = append(all, changes(setOptional, api.OK, "A<B", "1<2", "A"+strings.Repeat("<", room-2)+"B")...)
		all = append(all, changes(setOptional, api.ErrSize, "A"+strings.Repeat("<", room-1)+"B")...)
	}
	if z.Format == api.FormatCard {
		all = append(all, changes(setSecond, api.OK, "A", "1", "A<B", "A<<<<<<<<<B", strings.Repeat("A", 11))...)
		return append(all, changes(setSecond, api.ErrSize, strings.Repeat("A", 12), "A<<<<<<<<<<B", strings.Repeat("A", 1000))...)
	}
	return append(all, changes(setSecond, api.ErrInvalid, "A", "1", "A<B", strings.Repeat("A", 11), strings.Repeat("A", 12), strings.Repeat("A", 1000))...)
}

// noZones returns zones with just one error.
func noZones() []noZone {
	var all []noZone
	for _, base := range []api.Zone{book(), small(), smallLong(), card(), cardLong()} {
		for _, format := range []int{0, -1, 4, 5, 1 << 32, 1<<32 + 3, -3} {
			z := base
			z.Format = format
			all = append(all, noZone{z, api.ErrInvalid})
		}
		for _, x := range append(changesOfAll(), changesOf(base)...) {
			z := base
			if x.set(&z, x.s); x.e != api.OK {
				all = append(all, noZone{z, x.e})
			}
		}
	}
	return append(all, noZone{api.Zone{}, api.ErrInvalid})
}

// P11.1

func TestValid(t *testing.T) {
	for _, x := range samples() {
		if e := Valid(x.zone); e != api.OK {
			t.Errorf("Valid(%+v) = %d", x.zone, e)
		}
	}
	for _, base := range []api.Zone{book(), small(), smallLong(), card(), cardLong()} {
		for _, x := range append(changesOfAll(), changesOf(base)...) {
			z := base
			if x.set(&z, x.s); x.e == api.OK && Valid(z) != api.OK {
				t.Errorf("Valid(%+v) = %d", z, Valid(z))
			}
		}
	}
}

func TestValidRefuses(t *testing.T) {
	for _, x := range noZones() {
		if e := Valid(x.zone); e != x.e {
			t.Errorf("Valid(%+v) = %d, want %d", x.zone, e, x.e)
		}
	}
}

func TestValidOfNumbersOfEveryLength(t *testing.T) {
	for _, x := range []struct {
		zone api.Zone
		most int
	}{{book(), 9}, {small(), 14}, {card(), 20}} {
		for n := range 40 {
			z := x.zone
			z.Number, z.Optional = strings.Repeat("7", n), ""
			want := api.OK
			if n == 0 {
				want = api.ErrInvalid
			} else if n > x.most {
				want = api.ErrSize
			}
			if e := Valid(z); e != want {
				t.Errorf("format %d with a number of %d characters: %d, want %d", z.Format, n, e, want)
			}
		}
	}
}

// The room of Optional for each length of Number and of Optional, as the chapter's fields have it.
func TestValidOfOptionalBehindNumbersOfEveryLength(t *testing.T) {
	for _, x := range []struct {
		zone       api.Zone
		most, room int
	}{{book(), 9, 14}, {small(), 14, 7}, {card(), 20, 15}} {
		for n := 1; n <= x.most; n++ {
			for size := range 20 {
				z := x.zone
				z.Number, z.Optional = strings.Repeat("7", n), strings.Repeat("A", size)
				used := size
				if n > 9 {
					used = n - 9 + 1 + 1 + size
				}
				want := api.OK
				if used > x.room {
					want = api.ErrSize
				}
				if e := Valid(z); e != want {
					t.Errorf("format %d with a number of %d characters and %d more: %d, want %d", z.Format, n, size, e, want)
				}
			}
		}
	}
}

// Each byte in each place of each value, so that nothing but what the chapter names is permitted.
func TestValidOfEveryByte(t *testing.T) {
	for _, base := range []api.Zone{book(), small(), smallLong(), card(), cardLong()} {
		for _, set := range []func(*api.Zone, string){setKind, setState, setSurname, setGiven, setNumber, setNation, setBirth, setSex, setExpiry, setOptional, setSecond} {
			for c := range 256 {
				for _, frame := range []string{"?", "A?", "?A", "A?A", "?90806", "6?0806", "69?806", "690?06", "6908?6", "69080?", "<?<<<<", "<<?<<<", "<<<<?<", "<<<<<?"} {
					z := base
					set(&z, strings.Replace(frame, "?", string([]byte{byte(c)}), 1))
					if e := Valid(z); e != definedValid(z) {
						t.Fatalf("Valid(%+v) = %d, want %d", z, e, definedValid(z))
					}
				}
			}
		}
	}
}

func TestValidOfEveryBirthAndExpiry(t *testing.T) {
	z := book()
	for _, year := range []string{"00", "01", "04", "99", "<<"} {
		for month := range 100 {
			for day := range 100 {
				two := string([]byte{'0' + byte(month/10), '0' + byte(month%10), '0' + byte(day/10), '0' + byte(day%10)})
				z.Birth, z.Expiry = year+two, "300101"
				if e, want := Valid(z), definedValid(z); e != want {
					t.Fatalf("the birth %q: %d, want %d", z.Birth, e, want)
				}
				z.Birth, z.Expiry = "<<<<<<", year+two
				if e, want := Valid(z), definedValid(z); e != want {
					t.Fatalf("the expiry %q: %d, want %d", z.Expiry, e, want)
				}
			}
		}
	}
}

// defect makes an error; several can be made of one zone, in any order.
type defect struct {
	e     api.Errno
	spoil func(z *api.Zone)
}

// defects returns those of a format, in the order in which their errors come.
func defects(format int) []defect {
	all := []defect{
		{api.ErrInvalid, func(z *api.Zone) { z.Format = 9 }},
		{api.ErrInvalid, func(z *api.Zone) { z.Kind += "1" }},
		{api.ErrInvalid, func(z *api.Zone) { z.State = "" }},
		{api.ErrInvalid, func(z *api.Zone) { z.Surname = "" }},
		{api.ErrInvalid, func(z *api.Zone) { z.Given += " " }},
		{api.ErrInvalid, func(z *api.Zone) { z.Number += "<" }},
		{api.ErrSize, func(z *api.Zone) { z.Number += strings.Repeat("1", 20) }},
		{api.ErrInvalid, func(z *api.Zone) { z.Nation += "ABC" }},
		{api.ErrDate, func(z *api.Zone) { z.Birth = "691306" }},
		{api.ErrInvalid, func(z *api.Zone) { z.Sex = "X" }},
		{api.ErrDate, func(z *api.Zone) { z.Expiry = "010229" }},
		{api.ErrInvalid, func(z *api.Zone) { z.Optional += "a" }},
		{api.ErrInvalid, func(z *api.Zone) { z.Second = "<" + z.Second }},
	}
	if format != api.FormatCard {
		return append(all, defect{api.ErrInvalid, func(z *api.Zone) { z.Second += "A" }}, defect{api.ErrSize, func(z *api.Zone) { z.Optional += strings.Repeat("A", 15) }})
	}
	return append(all, defect{api.ErrSize, func(z *api.Zone) { z.Optional += strings.Repeat("A", 15) }}, defect{api.ErrSize, func(z *api.Zone) { z.Second += strings.Repeat("A", 12) }})
}

func TestValidReturnsTheFirstError(t *testing.T) {
	for _, base := range []api.Zone{book(), small(), card(), cardLong()} {
		all := defects(base.Format)
		for set := 1; set < 1<<len(all); set++ {
			z, want := base, api.OK
			for i := len(all) - 1; i >= 0; i-- {
				if set>>i&1 == 1 {
					all[i].spoil(&z)
					want = all[i].e
				}
			}
			if e := Valid(z); e != want {
				t.Fatalf("Valid(%+v) = %d, want %d", z, e, want)
			}
		}
	}
}

func TestValidAsDefined(t *testing.T) {
	r := rand.New(rand.NewSource(15))
	set := []func(*api.Zone, string){setKind, setState, setSurname, setGiven, setNumber, setNation, setBirth, setSex, setExpiry, setOptional, setSecond}
	results := map[api.Errno]int{}
	for range 50000 {
		z := randomZone(r)
		z.Format += r.Intn(12) / 11
		for range r.Intn(3) {
			set[r.Intn(len(set))](&z, text(r, pick(r, "01<", "AB<", "A", "7", "< ", characters), 0, pickSize(r)))
		}
		e := Valid(z)
		if e != definedValid(z) {
			t.Fatalf("Valid(%+v) = %d, want %d", z, e, definedValid(z))
		}
		results[e]++
	}
	for _, e := range []api.Errno{api.OK, api.ErrInvalid, api.ErrSize, api.ErrDate} {
		if results[e] < 100 {
			t.Errorf("there are %d zones with the error %d", results[e], e)
		}
	}
}

// pickSize returns a length, more often a small one.
func pickSize(r *rand.Rand) int { return []int{1, 2, 3, 6, 10, 16, 24}[r.Intn(7)] }
