package optical

import "strings"

// row has letters, capital and small ones, with what stands for each of them.
type row struct{ letters, replacement string }

// rows are those of the document. Upper and lower case are not left to package unicode, because it takes letters that are in no row for letters that are: the Kelvin sign for k, and the long s for s.
var rows = [...]row{
	{"ÀÁÂÃĀĂĄàáâãāăą", "A"},
	{"ÄÆäæ", "AE"},
	{"Åå", "AA"},
	{"ÇĆĈĊČçćĉċč", "C"},
	{"ĎĐÐďđð", "D"},
	{"ÈÉÊËĒĔĖĘĚèéêëēĕėęě", "E"},
	{"ĜĞĠĢĝğġģ", "G"},
	{"ĤĦĥħ", "H"},
	{"ÌÍÎÏĨĪĬĮìíîïĩīĭįıİ", "I"},
	{"Ĵĵ", "J"},
	{"Ķķ", "K"},
	{"ĹĻĽĿŁĺļľŀł", "L"},
	{"ÑŃŅŇŊñńņňŋ", "N"},
	{"ÒÓÔÕŌŎŐòóôõōŏő", "O"},
	{"ÖØŒöøœ", "OE"},
	{"ŔŖŘŕŗř", "R"},
	{"ŚŜŞŠśŝşš", "S"},
	{"ß", "SS"},
	{"ŢŤŦţťŧ", "T"},
	{"Þþ", "TH"},
	{"ÙÚÛŨŪŬŮŰŲùúûũūŭůűų", "U"},
	{"Üü", "UE"},
	{"Ŵŵ", "W"},
	{"ÝŶŸýŷÿ", "Y"},
	{"ŹŻŽźżž", "Z"},
}

// lettersFor returns the letters A to Z that stand for a letter, if any do.
func lettersFor(r rune) (string, bool) {
	switch {
	case 'A' <= r && r <= 'Z':
		return string(r), true
	case 'a' <= r && r <= 'z':
		return string(r - 'a' + 'A'), true
	}
	for i := range rows {
		if strings.ContainsRune(rows[i].letters, r) {
			return rows[i].replacement, true
		}
	}
	return "", false
}
