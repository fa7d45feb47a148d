package biometrics

import (
	"math"
	"math/rand"
	"slices"
	"testing"

	"traveldoc/api"
	"traveldoc/samples"
)

// far are numbers that are no part, no day, no format and no quality.
var far = []int{math.MinInt, math.MinInt + 1, -1 << 32, -1 << 16, -256, 1 << 32, 1<<32 + 1, 1 << 40, math.MaxInt - 1, math.MaxInt}

// defect makes a template one that is not valid.
type defect struct {
	name string
	want api.Errno
	make func(t *api.Template)
}

// defects are of each kind that P13.1 names, those of one error beside each other. All of them can be made of the same template, whatever was made of it before.
var defects = []defect{
	{"another kind", api.ErrInvalid, func(t *api.Template) { t.Kind = 4 }},
	{"another part", api.ErrInvalid, func(t *api.Template) { t.Part = 11 }},
	{"From is no day", api.ErrDate, func(t *api.Template) { t.From = -1 }},
	{"To is no day", api.ErrDate, func(t *api.Template) { t.To = api.MaxDay + 1 }},
	{"From is greater than To", api.ErrDate, func(t *api.Template) { t.From, t.To = 2, 1 }},
	{"another format", api.ErrRange, func(t *api.Template) { t.Format = 65536 }},
	{"another quality", api.ErrRange, func(t *api.Template) { t.Quality = 101 }},
	{"no data", api.ErrSize, func(t *api.Template) { t.Data = nil }},
	{"too many data", api.ErrSize, func(t *api.Template) { t.Data = samples.Bytes(1025) }},
}

// P13.1

func TestValid(t *testing.T) {
	for _, x := range []api.Template{face(), finger(), iris()} {
		if e := Valid(x); e != api.OK {
			t.Error(x, e)
		}
	}
	if e := Valid(api.Template{}); e != api.ErrInvalid {
		t.Error(e)
	}
}

func TestValidOfKindsAndParts(t *testing.T) {
	numbers := slices.Clone(far)
	for n := -3; n <= 300; n++ {
		numbers = append(numbers, n)
	}
	count := 0
	for _, kind := range numbers {
		for _, part := range numbers {
			x := face()
			x.Kind, x.Part = kind, part
			want := api.ErrInvalid
			if slices.Contains(definedParts[kind], part) {
				want = api.OK
				count++
			}
			if e := Valid(x); e != want {
				t.Errorf("kind %d, part %d: %d", kind, part, e)
			}
		}
	}
	if count != 13 {
		t.Error(count, "parts")
	}
}

func TestValidOfDays(t *testing.T) {
	days := append([]int{-73048, -2, -1, 0, 1, 2, 59, 36524, 73046, 73047, 73048, 73049, 73050, 1 << 17}, far...)
	for _, from := range days {
		for _, to := range days {
			x := finger()
			x.From, x.To = from, to
			want := api.ErrDate
			if isDay(from) && isDay(to) && from <= to {
				want = api.OK
			}
			if e := Valid(x); e != want {
				t.Errorf("from %d to %d: %d", from, to, e)
			}
		}
	}
}

func TestValidOfFormatsAndQualities(t *testing.T) {
	formats := append([]int{-2, -1, 0, 1, 100, 101, 255, 256, 65534, 65535, 65536, 65537}, far...)
	qualities := append([]int{-2, -1, 0, 1, 50, 99, 100, 101, 102, 255, 256, 65535}, far...)
	for _, format := range formats {
		for _, quality := range qualities {
			x := iris()
			x.Format, x.Quality = format, quality
			want := api.ErrRange
			if format >= 0 && format <= 65535 && quality >= 0 && quality <= 100 {
				want = api.OK
			}
			if e := Valid(x); e != want {
				t.Errorf("format %d, quality %d: %d", format, quality, e)
			}
		}
	}
}

func TestValidOfData(t *testing.T) {
	for _, x := range []struct {
		data []byte
		want api.Errno
	}{
		{nil, api.ErrSize}, {[]byte{}, api.ErrSize}, {make([]byte, 0, 50), api.ErrSize},
		{[]byte{0}, api.OK}, {samples.Bytes(2), api.OK}, {samples.Bytes(256), api.OK},
		{samples.Bytes(1023), api.OK}, {samples.Bytes(1024), api.OK}, {make([]byte, 1024, 5000), api.OK},
		{samples.Bytes(1025), api.ErrSize}, {samples.Bytes(1024 + 256), api.ErrSize}, {samples.Bytes(65536), api.ErrSize}, {samples.Bytes(65537), api.ErrSize},
	} {
		template := face()
		template.Data = x.data
		if e := Valid(template); e != x.want {
			t.Errorf("%d bytes: %d", len(x.data), e)
		}
	}
}

func TestValidOrderOfErrors(t *testing.T) {
	for set := range 1 << len(defects) {
		template := face()
		want := api.OK
		// They are made from the last to the first, so that the first one decides.
		for i := len(defects) - 1; i >= 0; i-- {
			if set>>i&1 == 1 {
				defects[i].make(&template)
				want = defects[i].want
			}
		}
		if e := Valid(template); e != want {
			t.Errorf("defects %09b: %d, not %d", set, e, want)
		}
	}
}

func TestValidOfRandomTemplates(t *testing.T) {
	r := rand.New(rand.NewSource(1))
	for range 20000 {
		x := randomTemplate(r)
		spoil(r, &x)
		want := api.OK
		if errors := definedErrors(x); len(errors) > 0 {
			want = errors[0]
		}
		if e := Valid(x); e != want {
			t.Fatalf("%+v: %d, not %d", x, e, want)
		}
	}
}

// spoil makes up to three random changes to a template, which may stay valid.
func spoil(r *rand.Rand, t *api.Template) {
	for range r.Intn(4) {
		switch r.Intn(7) {
		case 0:
			t.Kind = r.Intn(6) - 1
		case 1:
			t.Part = r.Intn(14) - 1
		case 2:
			t.From = pick(r, -1, 0, t.To, t.To+1, 73048, 73049)
		case 3:
			t.To = pick(r, -1, 0, t.From, t.From-1, 73048, 73049)
		case 4:
			t.Format = pick(r, -1, 0, 65535, 65536)
		case 5:
			t.Quality = pick(r, -1, 0, 100, 101)
		case 6:
			t.Data = samples.Bytes(pick(r, 0, 1, 1024, 1025))
		}
	}
}

// P13.4

func TestUsable(t *testing.T) {
	l := []api.Template{face(), finger(), iris(), face(), finger()}
	l[3].From, l[3].To = 100, 200
	for _, x := range []struct {
		kind, day int
		want      []int
	}{
		{api.TemplateFace, -1, nil},
		{api.TemplateFace, 0, []int{0}},
		{api.TemplateFace, 1, []int{0}},
		{api.TemplateFace, 99, []int{0}},
		{api.TemplateFace, 100, []int{0, 3}},
		{api.TemplateFace, 101, []int{3}},
		{api.TemplateFace, 200, []int{3}},
		{api.TemplateFace, 201, nil},
		{api.TemplateFinger, 36523, nil},
		{api.TemplateFinger, 36524, []int{1, 4}},
		{api.TemplateFinger, 73048, []int{1, 4}},
		{api.TemplateFinger, 73049, nil},
		{api.TemplateIris, 257, nil},
		{api.TemplateIris, 258, []int{2}},
		{api.TemplateIris, 66051, []int{2}},
		{api.TemplateIris, 66052, nil},
		{0, 100, nil}, {4, 100, nil}, {-1, 100, nil}, {math.MaxInt, 100, nil}, {math.MinInt, 100, nil},
		{api.TemplateFace, math.MinInt, nil}, {api.TemplateFinger, math.MaxInt, nil},
	} {
		if got := Usable(l, x.kind, x.day); !slices.Equal(got, x.want) {
			t.Errorf("kind %d, day %d: %v", x.kind, x.day, got)
		}
	}
	if got := Usable(nil, api.TemplateFace, 0); len(got) != 0 {
		t.Error(got)
	}
}

func TestUsableOnASingleDay(t *testing.T) {
	x := iris()
	for _, day := range []int{0, 500, 73048} {
		x.From, x.To = day, day
		for on := day - 1; on <= day+1; on++ {
			got := Usable([]api.Template{x}, api.TemplateIris, on)
			if want := on == day; (len(got) == 1) != want {
				t.Errorf("day %d on %d: %v", day, on, got)
			}
		}
	}
}

// A template that is not valid is never usable, also where its kind and its days match.
func TestUsableOfTemplatesThatAreNotValid(t *testing.T) {
	for _, d := range defects {
		x := face()
		d.make(&x)
		days := []int{x.From, x.To, 0, 1, 2, 50}
		for _, day := range days {
			l := []api.Template{x, face(), x, face(), x}
			var want []int
			if day >= 0 && day <= 100 && x.Kind == api.TemplateFace {
				want = []int{1, 3}
			}
			if got := Usable(l, x.Kind, day); !slices.Equal(got, want) {
				t.Errorf("%s, day %d: %v", d.name, day, got)
			}
		}
	}
	x := face()
	x.From, x.To = -5, 73055
	for _, day := range []int{-5, -1, 0, 73048, 73049, 73055} {
		if got := Usable([]api.Template{x}, api.TemplateFace, day); len(got) != 0 {
			t.Errorf("day %d: %v", day, got)
		}
	}
}

// The limit of an encoding is none of Usable.
func TestUsableOfManyTemplates(t *testing.T) {
	l := slices.Repeat([]api.Template{face(), finger()}, 50)
	var want []int
	for i := 0; i < 100; i += 2 {
		want = append(want, i)
	}
	if got := Usable(l, api.TemplateFace, 7); !slices.Equal(got, want) {
		t.Error(got)
	}
}

func TestUsableOfRandomTemplates(t *testing.T) {
	r := rand.New(rand.NewSource(2))
	usable := 0
	for range 5000 {
		l := randomTemplates(r, r.Intn(12))
		for i := range l {
			if r.Intn(3) == 0 {
				spoil(r, &l[i])
			}
		}
		kind, day := r.Intn(5), r.Intn(73049)
		if len(l) > 0 {
			x := l[r.Intn(len(l))]
			day = pick(r, day, x.From-1, x.From, x.From+1, x.To-1, x.To, x.To+1)
		}
		var want []int
		for i, x := range l {
			if len(definedErrors(x)) == 0 && x.Kind == kind && !(day < x.From) && !(day > x.To) {
				want = append(want, i)
			}
		}
		usable += len(want)
		if got := Usable(l, kind, day); !slices.Equal(got, want) {
			t.Fatalf("kind %d, day %d, %+v: %v, not %v", kind, day, l, got, want)
		}
	}
	if usable < 1000 {
		t.Error("hardly any template was usable:", usable)
	}
}

// R2

func TestValidAndUsableChangeNothing(t *testing.T) {
	l := []api.Template{face(), finger(), iris(), face()}
	for i := range l {
		l[i].Data = samples.Roomy(l[i].Data)
	}
	l[1].Part = 20
	before := copyTemplates(l)
	for i := range l {
		Valid(l[i])
	}
	for kind := range 5 {
		a, b := Usable(l, kind, 50), Usable(l, kind, 50)
		for i := range a[:cap(a)] {
			a[:cap(a)][i] = -9
		}
		if slices.Contains(b, -9) {
			t.Error("two results share memory")
		}
	}
	if !sameTemplates(l, before) {
		t.Error("the arguments are others now", l)
	}
}

// The examples at the chapter's end.
func TestExamples(t *testing.T) {
	x := api.Template{Kind: api.TemplateFace, From: 0, To: 100, Data: []byte{1}}
	if e := Valid(x); e != api.OK {
		t.Error(e)
	}
	x.Part = 1
	if e := Valid(x); e != api.ErrInvalid {
		t.Error(e)
	}
	if l, e := Encode(nil); e != api.ErrSize || len(l) != 0 {
		t.Error(l, e)
	}
	x.Part = 0
	l, e := Encode([]api.Template{x})
	if e != api.OK {
		t.Fatal(e)
	}
	l[0].Kids[0].Value[0] = 2
	if got, e := Decode(l); e != api.ErrForm || len(got) != 0 {
		t.Error(got, e)
	}
}
