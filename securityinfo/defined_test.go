package securityinfo

import (
	"encoding/hex"
	"math/big"
	"math/rand"
	"regexp"
	"slices"
	"strconv"
	"strings"

	"traveldoc/api"
	"traveldoc/samples"
	"traveldoc/tlv"
)

// The chapter's definitions, written out once more for the tests of this package: an info is examined defect by defect, and bytes are written as hexadecimal text, whose form is that of regular expressions.

// definedProtocol is a row of the definitions: the end of the identifier, and whether there are Params, and a Key with a KeyID.
type definedProtocol struct {
	protocol    int
	end         string
	params, key bool
}

var definedProtocols = []definedProtocol{
	{protocol: 2, end: "0401", params: true},
	{protocol: 3, end: "0402", params: true},
	{protocol: 4, end: "0301", key: true},
	{protocol: 5, end: "0201"},
	{protocol: 6, end: "0501"},
}

// definedElement reports whether x is a square other than 1, because the elements are the squares: GroupPrime is twice GroupOrder, and 1.
func definedElement(x int) bool {
	return x > 1 && x < 2147483579 && big.Jacobi(big.NewInt(int64(x)), big.NewInt(2147483579)) == 1
}

// definedErrors returns all errors that apply to an info by itself, in their order.
func definedErrors(x api.Info) []api.Errno {
	var errors []api.Errno
	var row definedProtocol
	for _, p := range definedProtocols {
		if p.protocol == x.Protocol {
			row = p
		}
	}
	if row.protocol == 0 {
		errors = append(errors, api.ErrInvalid)
	}
	paramsLimit, idLimit := 1, 1
	if row.params {
		paramsLimit = 32
	}
	if row.key {
		idLimit = 256
	}
	if x.Version <= 0 || x.Version >= 256 || x.Params < 0 || x.Params >= paramsLimit || x.KeyID < 0 || x.KeyID >= idLimit {
		errors = append(errors, api.ErrRange)
	}
	if row.key && !definedElement(x.Key) || !row.key && x.Key != 0 {
		errors = append(errors, api.ErrGroup)
	}
	return errors
}

// definedError is P14.1.
func definedError(l []api.Info) api.Errno {
	if len(l) >= 17 {
		return api.ErrSize
	}
	var errors []api.Errno
	for i, x := range l {
		errors = append(errors, definedErrors(x)...)
		if i > 0 && slices.Compare([]int{l[i-1].Protocol, l[i-1].KeyID}, []int{x.Protocol, x.KeyID}) >= 0 {
			errors = append(errors, api.ErrOrder)
		}
	}
	if len(errors) > 0 {
		return errors[0]
	}
	return api.OK
}

// textOf writes an info, whose numbers need no more bytes than they have.
func textOf(x api.Info) string {
	for _, p := range definedProtocols {
		if p.protocol != x.Protocol {
			continue
		}
		content := []string{samples.Object(6, "04007f00070202", p.end), samples.Object(2, samples.Digits(x.Version, 1))}
		if p.params {
			content = append(content, samples.Object(2, samples.Digits(x.Params, 1)))
		}
		if p.key {
			content = append(content, samples.Object(4, samples.Digits(x.Key, 4)), samples.Object(2, samples.Digits(x.KeyID, 1)))
		}
		return samples.Object(0x30, content...)
	}
	panic("no protocol")
}

// bytesOf returns the encoding of infos, valid or not.
func bytesOf(l ...api.Info) []byte {
	var content []string
	for _, x := range l {
		content = append(content, textOf(x))
	}
	return samples.Unhex(samples.Object(0x31, content...))
}

const definedInfo = `30(?:` +
	`11060904007f00070202(040[12])0201(..)0201(..)|` +
	`17060904007f00070202(0301)0201(..)0404(.{8})0201(..)|` +
	`0e060904007f00070202(0201|0501)0201(..))`

var (
	infoForm = regexp.MustCompile(definedInfo)
	listForm = regexp.MustCompile(`^(?:` + definedInfo + `)*$`)
)

// hexNumber reads the number that stands in one of several places, of which the others are empty.
func hexNumber(places ...string) int {
	text := strings.Join(places, "")
	if text == "" {
		return 0
	}
	n, err := strconv.ParseInt(text, 16, 64)
	if err != nil {
		panic(err)
	}
	return int(n)
}

// definedForm returns the infos of bytes that have their form, valid or not.
func definedForm(b []byte) ([]api.Info, bool) {
	text := hex.EncodeToString(b)
	for _, head := range []int{4, 6, 8} {
		if len(text) < head || text != samples.Object(0x31, text[head:]) || !listForm.MatchString(text[head:]) {
			continue
		}
		var l []api.Info
		for _, m := range infoForm.FindAllStringSubmatch(text[head:], -1) {
			x := api.Info{Version: hexNumber(m[2], m[5], m[9]), Params: hexNumber(m[3]), Key: hexNumber(m[6]), KeyID: hexNumber(m[7])}
			for _, p := range definedProtocols {
				if p.end == m[1]+m[4]+m[8] {
					x.Protocol = p.protocol
				}
			}
			l = append(l, x)
		}
		return l, true
	}
	return nil, false
}

// definedDecode is P14.2. The errors of tlv.Parse are tested where it is.
func definedDecode(b []byte) ([]api.Info, api.Errno) {
	if _, e := tlv.Parse(b, true); e != api.OK {
		return nil, e
	}
	l, ok := definedForm(b)
	if !ok {
		return nil, api.ErrForm
	}
	if e := definedError(l); e != api.OK {
		return nil, e
	}
	return l, api.OK
}

// definedChoose is P14.3: from the greatest version down, the first info that has it.
func definedChoose(l []api.Info, order []int) (api.Info, api.Errno) {
	if e := definedError(l); e != api.OK {
		return api.Info{}, e
	}
	for _, protocol := range order {
		for version := 255; version > 0; version-- {
			for _, x := range l {
				if x.Protocol == protocol && x.Version == version {
					return x, api.OK
				}
			}
		}
	}
	return api.Info{}, api.ErrMissing
}

// definedMissing is P14.3, where infos are compared as text.
func definedMissing(access, signed []api.Info) []api.Info {
	name := func(x api.Info) string {
		text := ""
		for _, n := range []int{x.Protocol, x.Version, x.Params, x.Key, x.KeyID} {
			text += strconv.Itoa(n) + " "
		}
		return text
	}
	there := map[string]bool{}
	for _, x := range access {
		there[name(x)] = true
	}
	var out []api.Info
	for _, x := range signed {
		if (x.Protocol == 2 || x.Protocol == 3) && !there[name(x)] {
			out = append(out, x)
		}
	}
	return out
}

// Help for the tests of this package.

// key is an element whose bytes differ.
const key = 0x01020304

func generic() api.Info { return api.Info{Protocol: api.ProtoGeneric, Version: 2, Params: 13} }

func integrated() api.Info { return api.Info{Protocol: api.ProtoIntegrated, Version: 1, Params: 31} }

func chip(version, id int) api.Info {
	return api.Info{Protocol: api.ProtoChip, Version: version, Key: key, KeyID: id}
}

func terminal() api.Info { return api.Info{Protocol: api.ProtoTerminal, Version: 255} }

func active() api.Info { return api.Info{Protocol: api.ProtoActive, Version: 1} }

// full returns as many infos as may be, of all protocols.
func full() []api.Info {
	l := []api.Info{generic(), integrated()}
	for id := range 12 {
		l = append(l, chip(id+1, id*20))
	}
	return append(l, terminal(), active())
}

func pick(r *rand.Rand, from ...int) int { return from[r.Intn(len(from))] }

func randomElement(r *rand.Rand) int {
	if r.Intn(4) == 0 {
		return pick(r, 3, 4, 5, 255, 256, 65536, key, 2147483577)
	}
	x := 2
	for !definedElement(x) {
		x = r.Intn(2147483579)
	}
	return x
}

// randomInfos returns infos that are valid.
func randomInfos(r *rand.Rand) []api.Info {
	version := func() int { return pick(r, 1, 2, 3, 127, 128, 254, 255, 1+r.Intn(255)) }
	var l []api.Info
	for protocol := 2; protocol <= 6; protocol++ {
		if r.Intn(3) == 0 {
			continue
		}
		x := api.Info{Protocol: protocol, Version: version()}
		switch protocol {
		case 2, 3:
			x.Params = pick(r, 0, 1, 30, 31, r.Intn(32))
		case 4:
			ids := r.Perm(256)[:1+r.Intn(4)]
			slices.Sort(ids)
			for _, id := range ids {
				l = append(l, api.Info{Protocol: 4, Version: version(), Key: randomElement(r), KeyID: id})
			}
			continue
		}
		l = append(l, x)
	}
	return l
}

// spoil makes up to three random changes to infos, which may stay valid.
func spoil(r *rand.Rand, l []api.Info) []api.Info {
	for range r.Intn(4) {
		i := r.Intn(len(l) + 1)
		if i == len(l) {
			l = append(l, randomInfos(r)...)
			continue
		}
		x := &l[i]
		switch r.Intn(8) {
		case 0:
			x.Protocol = r.Intn(9)
		case 1:
			x.Version = pick(r, -1, 0, 1, 255, 256)
		case 2:
			x.Params = pick(r, -1, 0, 1, 31, 32)
		case 3:
			x.Key = pick(r, 0, 1, 2, 3, 2147483578, 2147483579, -3, x.Key+1)
		case 4:
			x.KeyID = pick(r, -1, 0, 1, 255, 256)
		case 5:
			l[0], *x = *x, l[0]
		case 6:
			*x = l[0]
		case 7:
			l = slices.Delete(l, i, i+1)
		}
	}
	return l
}
