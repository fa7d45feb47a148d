package datagroups

import (
	"slices"
	"strings"
	"testing"

	"traveldoc/api"
	"traveldoc/zone"
)

// P15.4

// printed is a zone with its lines.
type printed struct {
	zone  api.Zone
	lines []string
}

// zones are zones of all formats. Those of ERIKSSON are the published ones.
func zones() []printed {
	return []printed{
		{
			api.Zone{Format: api.FormatBook, Kind: "P", State: "UTO", Surname: "ERIKSSON", Given: "ANNA MARIA", Number: "L898902C", Nation: "UTO", Birth: "690806", Sex: "F", Expiry: "940623", Optional: "ZE184226B"},
			[]string{"P<UTOERIKSSON<<ANNA<MARIA<<<<<<<<<<<<<<<<<<<", "L898902C<3UTO6908061F9406236ZE184226B<<<<<14"},
		},
		{
			api.Zone{Format: api.FormatBook, Kind: "PD", State: "D", Surname: "MUELLER WEISS", Number: "7", Nation: "D", Birth: "<<<<<<", Sex: "<", Expiry: "000229"},
			[]string{"PDD<<MUELLER<WEISS<<<<<<<<<<<<<<<<<<<<<<<<<<", "7<<<<<<<<9D<<<<<<<<0<0002299<<<<<<<<<<<<<<<4"},
		},
		{
			api.Zone{Format: api.FormatSmall, Kind: "I", State: "UTO", Surname: "ERIKSSON", Given: "ANNA MARIA", Number: "D23145890", Nation: "UTO", Birth: "740812", Sex: "F", Expiry: "120415"},
			[]string{"I<UTOERIKSSON<<ANNA<MARIA<<<<<<<<<<<", "D231458907UTO7408122F1204159<<<<<<<6"},
		},
		{
			api.Zone{Format: api.FormatSmall, Kind: "ID", State: "F", Surname: "A", Number: "Z", Nation: "F", Birth: "00<<<<", Sex: "<", Expiry: "500101", Optional: "1A<<<Z9"},
			[]string{"IDF<<A<<<<<<<<<<<<<<<<<<<<<<<<<<<<<<", "Z<<<<<<<<5F<<00<<<<0<50010131A<<<Z97"},
		},
		{
			api.Zone{Format: api.FormatCard, Kind: "I", State: "UTO", Surname: "ERIKSSON", Given: "ANNA MARIA", Number: "D23145890", Nation: "UTO", Birth: "740812", Sex: "F", Expiry: "120415"},
			[]string{"I<UTOD231458907<<<<<<<<<<<<<<<", "7408122F1204159UTO<<<<<<<<<<<6", "ERIKSSON<<ANNA<MARIA<<<<<<<<<<"},
		},
		{
			api.Zone{Format: api.FormatCard, Kind: "C", State: "AUT", Surname: "SCHMIDT", Given: "T", Number: "ABCDEFGHI1234567890Z", Nation: "AUT", Birth: "000101", Sex: "<", Expiry: "000101", Optional: "Q8", Second: "12<45678<01"},
			[]string{"C<AUTABCDEFGHI<1234567890Z6<Q8", "0001018<0001018AUT12<45678<014", "SCHMIDT<<T<<<<<<<<<<<<<<<<<<<<"},
		},
	}
}

// linesText returns the bytes of lines as text.
func linesText(lines ...string) string { return textOf([]byte(strings.Join(lines, ""))) }

// zoneFile returns group 1 with this text in its object.
func zoneFile(text string) []byte { return fileOf(1, leaf(0x5f1f, []byte(text)...)) }

func TestZone(t *testing.T) {
	heads := map[int]string{api.FormatBook: "61 5b 5f1f 58", api.FormatSmall: "61 4b 5f1f 48", api.FormatCard: "61 5d 5f1f 5a"}
	for _, x := range zones() {
		b, e := Zone(x.zone)
		written(t, x.zone.Surname, b, e, heads[x.zone.Format]+linesText(x.lines...), api.OK)
		expect(t, "a zone", b, api.OK)
		if back, e := OpenZone(b); e != api.OK || back != x.zone {
			t.Errorf("%+v came back as %+v: %d", x.zone, back, e)
		}
	}
}

func TestZoneOfZonesThatAreRefused(t *testing.T) {
	for _, x := range []struct {
		want api.Errno
		make func(z *api.Zone)
	}{
		{api.ErrInvalid, func(z *api.Zone) { *z = api.Zone{} }},
		{api.ErrInvalid, func(z *api.Zone) { z.Format = 0 }},
		{api.ErrInvalid, func(z *api.Zone) { z.Format = 4 }},
		{api.ErrInvalid, func(z *api.Zone) { z.Kind = "" }},
		{api.ErrInvalid, func(z *api.Zone) { z.State = "utop" }},
		{api.ErrInvalid, func(z *api.Zone) { z.Surname = "" }},
		{api.ErrInvalid, func(z *api.Zone) { z.Given = "Anna" }},
		{api.ErrInvalid, func(z *api.Zone) { z.Number = "" }},
		{api.ErrSize, func(z *api.Zone) { z.Number = strings.Repeat("A", 21) }},
		{api.ErrInvalid, func(z *api.Zone) { z.Nation = "<" }},
		{api.ErrDate, func(z *api.Zone) { z.Birth = "691306" }},
		{api.ErrInvalid, func(z *api.Zone) { z.Sex = "X" }},
		{api.ErrDate, func(z *api.Zone) { z.Expiry = "940631" }},
		{api.ErrInvalid, func(z *api.Zone) { z.Optional = "<A" }},
		{api.ErrSize, func(z *api.Zone) { z.Optional = strings.Repeat("A", 16) }},
		// Of several errors, the first one of zone.Valid.
		{api.ErrInvalid, func(z *api.Zone) { z.Number, z.Birth = "", "" }},
		{api.ErrDate, func(z *api.Zone) { z.Birth, z.Sex = "", "" }},
	} {
		for _, p := range zones() {
			z := p.zone
			x.make(&z)
			b, e := Zone(z)
			refused(t, p.zone.Surname, b, e, x.want)
			if _, e := zone.Build(z); e != x.want {
				t.Error("zone.Build has another error", e, x.want)
			}
		}
	}
}

// The names of a zone may be longer than their field: then the file has what is left of them.
func TestZoneOfLongNames(t *testing.T) {
	z := zones()[0].zone
	z.Surname, z.Given = strings.Repeat("A", 50), "B"
	lines, e := zone.Build(z)
	if e != api.OK {
		t.Fatal(e)
	}
	b, e := Zone(z)
	written(t, "long names", b, e, "615b5f1f58"+linesText(lines...), api.OK)
	want, wanted := zone.Parse(lines)
	if got, e := OpenZone(b); got != want || e != wanted {
		t.Errorf("%+v and %d", got, e)
	}
}

func TestOpenZoneOfOtherSizes(t *testing.T) {
	for size := range 400 {
		want := api.ErrSize
		if size == 72 || size == 88 || size == 90 {
			want = api.ErrDigit
		}
		expect(t, "letters", zoneFile(strings.Repeat("A", size)), want)
		// What stands there matters only where the size is right.
		if want == api.ErrDigit {
			want = api.ErrCharacter
		}
		expect(t, "no characters", zoneFile(strings.Repeat("a", size)), want)
	}
	for _, x := range zones() {
		text := strings.Join(x.lines, "")
		for i := range text {
			want := api.ErrSize
			if i == 72 || i == 88 {
				want = api.ErrDigit // it is as long as another format
			}
			expect(t, "cut off", zoneFile(text[:i]), want)
		}
		for _, other := range []string{text + "<", "<" + text, text + "\n", strings.Join(x.lines, "\n"), text + text} {
			expect(t, "other text", zoneFile(other), api.ErrSize)
		}
	}
	// A book of 90 bytes, and a card of 88.
	book, card := strings.Join(zones()[0].lines, ""), strings.Join(zones()[4].lines, "")
	expect(t, "a book of 90 bytes", zoneFile(book+"<<"), api.ErrDigit)
	expect(t, "a book of 90 bytes with line ends", zoneFile(strings.Join(zones()[0].lines, "\n")+"\n"), api.ErrCharacter)
	expect(t, "a card of 88 bytes", zoneFile(card[:88]), api.ErrDigit)
	expect(t, "a card of 92 bytes with line ends", zoneFile(strings.Join(zones()[4].lines, "\n")), api.ErrSize)
}

func TestOpenZoneOfLinesThatAreRefused(t *testing.T) {
	for _, p := range zones() {
		text := []byte(strings.Join(p.lines, ""))
		for i := range text {
			for _, c := range []byte("A<0z \x00\xff") {
				if text[i] == c {
					continue
				}
				changed := slices.Clone(text)
				changed[i] = c
				e := agree(t, openerOf(1), "another character", zoneFile(string(changed)))
				if strings.IndexByte("z \x00\xff", c) >= 0 && e != api.ErrCharacter {
					t.Errorf("%s with %q: %d", text, c, e)
				}
			}
		}
	}
	for _, x := range []struct {
		lines []string
		want  api.Errno
	}{
		// The check digit of Optional, which is empty, may be 0: this is another file, with the same zone.
		{[]string{"PDD<<MUELLER<WEISS<<<<<<<<<<<<<<<<<<<<<<<<<<", "7<<<<<<<<9D<<<<<<<<0<0002299<<<<<<<<<<<<<<04"}, api.OK},
		{[]string{"P<UTOERIKSSON<<ANNA<MARIA<<<<<<<<<<<<<<<<<<<", "L898902C<4UTO6908061F9406236ZE184226B<<<<<14"}, api.ErrDigit},
		{[]string{"P<UTOERIKSSON<<ANNA<MARIA<<<<<<<<<<<<<<<<<<<", "L898902C<3UTO6908061F9406236ZE184226B<<<<<15"}, api.ErrDigit},
		{[]string{"P<UTO<<<<<<<<<<<<<<<<<<<<<<<<<<<<<<<<<<<<<<<", "L898902C<3UTO6908061F9406236ZE184226B<<<<<14"}, api.ErrForm},
		{[]string{"P<UTOERIKSSON<<ANNA<<MARIA<<<<<<<<<<<<<<<<<<", "L898902C<3UTO6908061F9406236ZE184226B<<<<<14"}, api.ErrForm},
		{[]string{"<<UTOERIKSSON<<ANNA<MARIA<<<<<<<<<<<<<<<<<<<", "L898902C<3UTO6908061F9406236ZE184226B<<<<<14"}, api.ErrInvalid},
		{[]string{"P<UTOERIKSSON<<ANNA<MARIA<<<<<<<<<<<<<<<<<<<", "L898902C<3UTO6908061A9406236ZE184226B<<<<<14"}, api.ErrInvalid},
		{[]string{"L898902C<3UTO6908061F9406236ZE184226B<<<<<14", "P<UTOERIKSSON<<ANNA<MARIA<<<<<<<<<<<<<<<<<<<"}, api.ErrDigit},
		{[]string{"ERIKSSON<<ANNA<MARIA<<<<<<<<<<", "I<UTOD231458907<<<<<<<<<<<<<<<", "7408122F1204159UTO<<<<<<<<<<<6"}, api.ErrDigit},
	} {
		if _, e := zone.Parse(x.lines); e != x.want {
			t.Error("zone.Parse has another error", e, x.lines)
		}
		expect(t, "lines", zoneFile(strings.Join(x.lines, "")), x.want)
	}
}

func TestOpenZoneOfOtherForms(t *testing.T) {
	for _, p := range zones() {
		lines := []byte(strings.Join(p.lines, ""))
		kid := leaf(0x5f1f, lines...)
		for _, x := range []struct {
			name string
			l    []api.Node
		}{
			{"no Kid", nil},
			{"a Kid twice", []api.Node{kid, kid}},
			{"a Kid behind it", []api.Node{kid, leaf(4)}},
			{"a Kid ahead of it", []api.Node{leaf(4), kid}},
			{"an empty Kid behind it", []api.Node{kid, leaf(0x5f1f)}},
			{"another tag", []api.Node{leaf(0x5f1e, lines...)}},
			{"another tag", []api.Node{leaf(0x5f20, lines...)}},
			{"another tag", []api.Node{leaf(0x1f1f, lines...)}},
			{"another tag", []api.Node{leaf(0x9f1f, lines...)}},
			{"a tag of one byte", []api.Node{leaf(4, lines...)}},
			{"a constructed object", []api.Node{branch(0x7f1f, kid)}},
			{"an empty constructed object", []api.Node{branch(0x7f1f)}},
			{"a Kid within another one", []api.Node{branch(0x30, kid)}},
			{"lines in a Kid each", []api.Node{leaf(0x5f1f, []byte(p.lines[0])...), leaf(0x5f1f, []byte(p.lines[1])...)}},
			{"a file within the file", []api.Node{branch(0x61, kid)}},
			{"another form ahead of another size", []api.Node{leaf(0x5f1e)}},
			{"two Kids ahead of another size", []api.Node{leaf(0x5f1f), leaf(0x5f1f)}},
		} {
			expect(t, x.name, fileOf(1, x.l...), api.ErrForm)
		}
	}
}
