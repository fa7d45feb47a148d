package optical

import (
	"math/rand"
	"strings"
	"testing"
	"unicode"
	"unicode/utf8"

	"traveldoc/api"
)

// The table of the document, which has capital letters only.
const table = `
| À Á Â Ã Ā Ă Ą | A |
| Ä Æ | AE |
| Å | AA |
| Ç Ć Ĉ Ċ Č | C |
| Ď Đ Ð | D |
| È É Ê Ë Ē Ĕ Ė Ę Ě | E |
| Ĝ Ğ Ġ Ģ | G |
| Ĥ Ħ | H |
| Ì Í Î Ï Ĩ Ī Ĭ Į | I |
| Ĵ | J |
| Ķ | K |
| Ĺ Ļ Ľ Ŀ Ł | L |
| Ñ Ń Ņ Ň Ŋ | N |
| Ò Ó Ô Õ Ō Ŏ Ő | O |
| Ö Ø Œ | OE |
| Ŕ Ŗ Ř | R |
| Ś Ŝ Ş Š | S |
| Ţ Ť Ŧ | T |
| Þ | TH |
| Ù Ú Û Ũ Ū Ŭ Ů Ű Ų | U |
| Ü | UE |
| Ŵ | W |
| Ý Ŷ Ÿ | Y |
| Ź Ż Ž | Z |
`

// replacementsOfTheDocument returns what stands for each letter of the table, capital and small, and for A to Z and a to z.
func replacementsOfTheDocument() map[rune]string {
	all := map[rune]string{'ß': "SS", 'ı': "I", 'İ': "I"}
	for c := 'A'; c <= 'Z'; c++ {
		all[c], all[unicode.ToLower(c)] = string(c), string(c)
	}
	for line := range strings.Lines(table) {
		columns := strings.Split(line, "|")
		if len(columns) != 4 {
			continue
		}
		for _, letter := range strings.Fields(columns[1]) {
			c, _ := utf8.DecodeRuneInString(letter)
			all[c], all[unicode.ToLower(c)] = strings.TrimSpace(columns[2]), strings.TrimSpace(columns[2])
		}
	}
	return all
}

// definedTransliterate is P10.2 step by step: the marks are left out, the words parted, the letters replaced, and the words that have any joined.
func definedTransliterate(s string, replacements map[rune]string) (string, api.Errno) {
	if !utf8.ValidString(s) {
		return "", api.ErrForm
	}
	var words []string
	for _, word := range strings.Split(strings.ReplaceAll(s, "-", " "), " ") {
		var letters strings.Builder
		for _, c := range word {
			if strings.ContainsRune("',.", c) {
				continue
			}
			replacement := replacements[c]
			if replacement == "" {
				return "", api.ErrCharacter
			}
			letters.WriteString(replacement)
		}
		if letters.Len() > 0 {
			words = append(words, letters.String())
		}
	}
	return strings.Join(words, " "), api.OK
}

// noUTF8 returns strings that are not valid UTF-8.
func noUTF8() []string {
	all := []string{"\xc3", "\xc3(", "\xc3\xc3", "\xa4\xc3", "\xe2\x82", "\xe2\x82A", "\xf0\x9f\x98", "\xf0\x9f\x98A",
		// Of more bytes than needed, halves of pairs, and too great.
		"\xc0\x80", "\xc1\x81", "\xc1\xbf", "\xe0\x81\x81", "\xe0\x80\xaf", "\xe0\x83\x84", "\xf0\x80\x81\x81", "\xf0\x80\x83\x84",
		"\xed\xa0\x80", "\xed\xbf\xbf", "\xed\xa0\x80\xed\xb0\x80", "\xf4\x90\x80\x80", "\xf8\x88\x80\x80\x80", "\xfe\xff", "\xff\xfe"}
	for c := 0x80; c < 0x100; c++ {
		all = append(all, string([]byte{byte(c)}))
	}
	return all
}

// P10.2

func TestTransliterateLiterals(t *testing.T) {
	for _, x := range []struct{ s, want string }{
		{"", ""}, {" ", ""}, {"-", ""}, {"'", ""}, {"'.,- ", ""}, {"   ", ""}, {" ' . , ", ""}, {"- - -", ""},
		{"A", "A"}, {"z", "Z"}, {"Smith", "SMITH"}, {"van der Muellen", "VAN DER MUELLEN"},
		{"O'Connor", "OCONNOR"}, {"O' Connor", "O CONNOR"}, {"D'Artagnan, Jr.", "DARTAGNAN JR"}, {"St.John", "STJOHN"}, {"A,B", "AB"},
		{"Anna-Maria", "ANNA MARIA"}, {"Anna - Maria", "ANNA MARIA"}, {"Anna--Maria", "ANNA MARIA"}, {"Anna  Maria", "ANNA MARIA"}, {"Anna-'-Maria", "ANNA MARIA"},
		{" Anna ", "ANNA"}, {"-Anna-", "ANNA"}, {"'Anna'", "ANNA"}, {".Anna.", "ANNA"}, {",Anna,", "ANNA"}, {"  -Anna.- ,", "ANNA"}, {"Anna . Maria", "ANNA MARIA"},
		{"'' '' a ''", "A"}, {"a '' ''", "A"}, {"a '.,", "A"}, {"a '., b", "A B"}, {"a'.,b", "AB"},
		{"Müller", "MUELLER"}, {"MÜLLER", "MUELLER"}, {"Weiß", "WEISS"}, {"Åse", "AASE"}, {"Þór", "THOR"}, {"Ægir Ørsted", "AEGIR OERSTED"},
		{"Łukasz Żółw", "LUKASZ ZOLW"}, {"İsmail Yıldız", "ISMAIL YILDIZ"}, {"Čapek-Dvořák", "CAPEK DVORAK"}, {"Šárka", "SARKA"}, {"Ŋŋ Ŀŀ Ðð Đđ", "NN LL DD DD"},
		{"ÿŸ", "YY"}, {"ß", "SS"}, {"ı", "I"}, {"İ", "I"}, {"i", "I"}, {"ä-ö ü", "AE OE UE"},
	} {
		if got, e := Transliterate(x.s); got != x.want || e != api.OK {
			t.Errorf("Transliterate(%q) = %q, %d, want %q", x.s, got, e, x.want)
		}
	}
}

func TestTheTableHasAllLetters(t *testing.T) {
	all := replacementsOfTheDocument()
	// 26 letters and the 91 of the table, all of them twice, and three more.
	if len(all) != 2*(26+91)+3 {
		t.Fatalf("the table has %d letters", len(all))
	}
	for c, want := range all {
		if got, e := Transliterate(string(c)); got != want || e != api.OK {
			t.Errorf("Transliterate(%q) = %q, %d, want %q", c, got, e, want)
		}
	}
}

// Every letter that there is stands alone, between others, and between spaces.
func TestTransliterateEveryLetter(t *testing.T) {
	replacements := replacementsOfTheDocument()
	for c := rune(0); c <= utf8.MaxRune; c++ {
		if !utf8.ValidRune(c) {
			continue
		}
		for _, s := range []string{string(c), "a" + string(c) + "B", "A " + string(c) + " é"} {
			want, wantE := definedTransliterate(s, replacements)
			if got, e := Transliterate(s); got != want || e != wantE {
				t.Fatalf("Transliterate(%q) = %q, %d, want %q, %d", s, got, e, want, wantE)
			}
		}
	}
}

func TestTransliterateRefusesWhatIsInNoRow(t *testing.T) {
	for _, c := range []string{"0", "9", "<", "_", "\t", "\n", "\r", "\x00", "\x7f", "\"", "`", "/", "(", ";", ":", "!", "@", "[", "{",
		// Letters near those of the table, and those that look like A to Z or Å, or become them in the other case.
		"×", "÷", "Ĳ", "ĳ", "ĸ", "ŉ", "ſ", "ƀ", "ẞ", "Ǆ", "Ǎ", "Ș", "ș", "Ț", "ẽ", "\ufb01", "\u212a", "\u212b", "\uff21", "\uff41", "\u03b1", "\u0410", "\u0391", "\u00aa", "\u00ba", "\u00b5",
		// Marks and gaps near those that are permitted.
		"’", "‘", "´", "‐", "‑", "–", "—", "−", "·", "\u00a0", "\u2009", "\u3000", "\u200b", "\u00ad", "\ufeff", "\ufffd",
		// A mark of its own behind its letter.
		"\u0308", "\u0327",
		"\U0001f600", "\U0010ffff"} {
		for _, s := range []string{c, "A" + c, c + "A", "é" + c + "é", "A " + c, c + "-A", "''" + c, c + c} {
			if got, e := Transliterate(s); got != "" || e != api.ErrCharacter {
				t.Errorf("Transliterate(%q) = %q, %d, want ErrCharacter", s, got, e)
			}
		}
	}
	if got, e := Transliterate("Mu\u0308ller"); got != "" || e != api.ErrCharacter {
		t.Errorf("a letter with a mark of its own: %q, %d", got, e)
	}
}

// What is not valid UTF-8 is named ahead of a character that is not permitted, wherever they stand.
func TestTransliterateRefusesWhatIsNoUTF8(t *testing.T) {
	for _, bad := range noUTF8() {
		for _, s := range []string{bad, "A" + bad, "A" + bad + " ", "é" + bad, "A " + bad + "-B", "Müller" + bad,
			"1" + bad, bad + "1", bad + "\ufffd", "\ufffd" + bad, "<A" + bad, "ſ" + bad, "A1" + strings.Repeat("A", 1000) + bad} {
			if got, e := Transliterate(s); got != "" || e != api.ErrForm {
				t.Errorf("Transliterate(%q) = %q, %d, want ErrForm", s, got, e)
			}
		}
	}
	// Halves of letters that are whole together.
	for _, s := range []string{"ü", "Ж", "€", "\U0001f600"} {
		for i := 1; i < len(s); i++ {
			for _, half := range []string{s[:i], s[i:], s[:i] + "a" + s[i:], "1" + s[:i]} {
				if got, e := Transliterate(half); got != "" || e != api.ErrForm {
					t.Errorf("Transliterate(%q) = %q, %d, want ErrForm", half, got, e)
				}
			}
		}
	}
}

func TestTransliterateAsDefined(t *testing.T) {
	replacements := replacementsOfTheDocument()
	all := texts([]string{"A", "b", "ü", "'", ",", ".", " ", "-"}, 5)
	all = append(all, texts([]string{"é", " ", "-", "'", "1", "\xff", "\xc3"}, 5)...)
	for _, s := range all {
		want, wantE := definedTransliterate(s, replacements)
		if got, e := Transliterate(s); got != want || e != wantE {
			t.Fatalf("Transliterate(%q) = %q, %d, want %q, %d", s, got, e, want, wantE)
		}
	}
}

func TestTransliterateLongTexts(t *testing.T) {
	replacements := replacementsOfTheDocument()
	letters := []rune("',.  --")
	for c := range rune(0x180) {
		if replacements[c] != "" {
			letters = append(letters, c)
		}
	}
	r := rand.New(rand.NewSource(11))
	for _, n := range []int{10, 100, 1000, 100000} {
		var b strings.Builder
		for range n {
			b.WriteRune(letters[r.Intn(len(letters))])
		}
		want, wantE := definedTransliterate(b.String(), replacements)
		if got, e := Transliterate(b.String()); got != want || e != wantE {
			t.Errorf("the result of %d letters has %d bytes, %d, want %d, %d", n, len(got), e, len(want), wantE)
		}
	}
}

// Consequences

func TestTransliterateOfANameIsTheName(t *testing.T) {
	for _, s := range append(texts([]string{"A", "Z", "M", " "}, 6), "VAN DER MUELLEN", strings.Repeat("A BC ", 1000)+"D") {
		if !isNameByForm(s) {
			continue
		}
		if got, e := Transliterate(s); got != s || e != api.OK {
			t.Errorf("Transliterate(%q) = %q, %d", s, got, e)
		}
	}
}

func TestTransliterateReturnsNames(t *testing.T) {
	for _, s := range texts([]string{"a", "Ä", "ß", " ", "-", "'"}, 5) {
		if got, e := Transliterate(s); !Name(got) || e != api.OK {
			t.Errorf("Transliterate(%q) = %q, %d, which is no name", s, got, e)
		}
	}
}
