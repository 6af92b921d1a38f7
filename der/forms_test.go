package der

import (
	"bytes"
	"crypto/rand"
	library "crypto/rsa"
	"crypto/x509"
	"crypto/x509/pkix"
	"encoding/hex"
	"math/big"
	random "math/rand"
	"slices"
	"strings"
	"testing"
	"time"

	"lanyard/api"
	"lanyard/rsa"
)

func TestInfoBytes(t *testing.T) {
	k := api.Key{N: power(488, 1), E: []byte{3}, D: []byte{5}}
	want := "3057" + "300d" + "06092a864886f70d010101" + "0500" +
		"0346" + "00" + "3043" + "023e01" + strings.Repeat("00", 60) + "01" + "020103"
	if b, err := Info(k); err != api.OK || hex.EncodeToString(b) != want {
		t.Errorf("P8.2: Info: %x, %d; wanted %s", b, err, want)
	}
	// With a first bit 1 a nought is ahead of the number.
	k = api.Key{N: power(496, -1), E: []byte{0x81}}
	want = "3059" + "300d" + "06092a864886f70d010101" + "0500" +
		"0348" + "00" + "3045" + "023f00" + strings.Repeat("ff", 62) + "02020081"
	if b, err := Info(k); err != api.OK || hex.EncodeToString(b) != want {
		t.Errorf("P8.2: Info: %x, %d; wanted %s", b, err, want)
	}
}

func TestInfoOfKeys(t *testing.T) {
	for _, k := range keys(t) {
		want := infoOf(contents(k.N), contents(k.E)).bytes()
		for _, one := range []api.Key{k, {N: k.N, E: k.E, D: []byte{1}}, noughted(k)} {
			b, err := Info(one)
			if err != api.OK || !bytes.Equal(b, want) {
				t.Errorf("P8.2: Info of %x: %x, %d; wanted %x", one, b, err, want)
			}
			back, err := ParseInfo(b)
			checkKey(t, "P8.4: ParseInfo of Info", back, err, k, api.OK)
		}
	}
}

// noughted is a key with leading noughts, more than layer 6 would take.
func noughted(k api.Key) api.Key {
	ahead := func(b []byte) []byte { return append(make([]byte, 1100), b...) }
	return api.Key{N: ahead(k.N), E: ahead(k.E), D: ahead(k.D)}
}

func TestInfoByLibrary(t *testing.T) {
	for _, k := range keys(t) {
		e := new(big.Int).SetBytes(k.E)
		if e.BitLen() > 31 {
			continue
		}
		public := &library.PublicKey{N: new(big.Int).SetBytes(k.N), E: int(e.Int64())}
		want, fault := x509.MarshalPKIXPublicKey(public)
		if fault != nil {
			t.Fatal(fault)
		}
		if b, err := Info(k); err != api.OK || !bytes.Equal(b, want) {
			t.Errorf("P8.2: Info of %x: %x, %d; the library's %x", k, b, err, want)
		}
		back, err := ParseInfo(want)
		checkKey(t, "P8.2: ParseInfo of the library's", back, err, k, api.OK)
	}
}

func TestWrongKeys(t *testing.T) {
	for _, k := range wrongKeys(t) {
		if b, err := Info(k); err != api.ErrArg || len(b) != 0 {
			t.Errorf("P8.2: Info of %x: %x, %d", k, b, err)
		}
		if b, err := Cert(k, "idp"); err != api.ErrArg || len(b) != 0 {
			t.Errorf("P8.3: Cert of %x: %x, %d", k, b, err)
		}
		if len(k.D) > 0 {
			continue
		}
		n, e := contents(k.N), contents(k.E)
		checkFails(t, "P8.2: a key that isn't right", ParseInfo, infoOf(n, e).bytes(), api.ErrArg)
		checkFails(t, "P8.3: a key that isn't right", FromCert, certOf(n, e, "idp").bytes(), api.ErrArg)
	}
}

// A number that isn't right is ErrForm ahead of a key that isn't.
func TestNumbers(t *testing.T) {
	long := contents(example(t).N)
	high := contents(power(512, -1))
	for _, c := range []struct {
		what string
		n, e []byte
		want api.Errno
	}{
		{"both right", long, []byte{3}, api.OK},
		{"a wanted nought at N", high, []byte{3}, api.OK},
		{"a wanted nought at E", long, []byte{0x00, 0x81}, api.OK},
		{"E of 7F", long, []byte{0x7F}, api.OK},
		{"N without a byte", nil, []byte{3}, api.ErrForm},
		{"E without a byte", long, nil, api.ErrForm},
		{"neither has a byte", nil, nil, api.ErrForm},
		{"N below 0", high[1:], []byte{3}, api.ErrForm},
		{"E below 0", long, []byte{0x81}, api.ErrForm},
		{"E below 0 with FF", long, []byte{0xFF, 0x03}, api.ErrForm},
		{"E of 80", long, []byte{0x80}, api.ErrForm},
		{"E with 80 behind a nought, even", long, []byte{0x00, 0x80}, api.ErrArg},
		{"a nought too much at N", append([]byte{0}, long...), []byte{3}, api.ErrForm},
		{"two noughts at N", append([]byte{0}, high...), []byte{3}, api.ErrForm},
		{"a nought too much at E", long, []byte{0x00, 0x03}, api.ErrForm},
		{"a nought too much at E, ahead of 7F", long, []byte{0x00, 0x7F}, api.ErrForm},
		{"two noughts at E", long, []byte{0x00, 0x00, 0x81}, api.ErrForm},
		{"E of two noughts", long, []byte{0x00, 0x00}, api.ErrForm},
		{"E of 0", long, []byte{0x00}, api.ErrArg},
		{"N of 0", []byte{0x00}, []byte{3}, api.ErrArg},
		{"E of 1", long, []byte{0x01}, api.ErrArg},
		{"E of 4", long, []byte{0x04}, api.ErrArg},
		{"a short N, and E below 0", []byte{7}, []byte{0x81}, api.ErrForm},
		{"a short N", []byte{7}, []byte{3}, api.ErrArg},
	} {
		var want api.Key
		if c.want == api.OK {
			want = api.Key{N: new(big.Int).SetBytes(c.n).Bytes(), E: new(big.Int).SetBytes(c.e).Bytes()}
		}
		k, err := ParseInfo(infoOf(c.n, c.e).bytes())
		checkKey(t, "P8.2: ParseInfo with "+c.what, k, err, want, c.want)
		k, err = FromCert(certOf(c.n, c.e, "idp").bytes())
		checkKey(t, "P8.3: FromCert with "+c.what, k, err, want, c.want)
	}
}

// exampleInfo is the form of chapter 7's key, in parts.
func exampleInfo(t *testing.T) part {
	t.Helper()
	k := example(t)
	return infoOf(contents(k.N), contents(k.E))
}

func exampleCert(t *testing.T) part {
	t.Helper()
	k := example(t)
	return certOf(contents(k.N), contents(k.E), "idp")
}

// Bytes cut short end within the outermost piece; of none there is no piece.
func TestCutForms(t *testing.T) {
	k := example(t)
	form, _ := Info(k)
	cert, _ := Cert(k, strings.Repeat("n", 200))
	checkFails(t, "P8.2: ParseInfo of nothing", ParseInfo, nil, api.ErrForm)
	checkFails(t, "P8.3: FromCert of nothing", FromCert, nil, api.ErrForm)
	for cut := 1; cut < len(form); cut++ {
		checkFails(t, "P8.2: ParseInfo of bytes cut short", ParseInfo, form[:cut], api.ErrShort)
	}
	for cut := 1; cut < len(cert); cut++ {
		checkFails(t, "P8.3: FromCert of bytes cut short", FromCert, cert[:cut], api.ErrShort)
	}
}

// infoPlaces are where in a key's form pieces stand that are looked at, and how to come there.
func infoPlaces(form *part) map[string]*part {
	return map[string]*part{
		"the whole":   form,
		"the kind":    &form.parts[0],
		"its object":  &form.parts[0].parts[0],
		"its nothing": &form.parts[0].parts[1],
		"the bits":    &form.parts[1],
		"the numbers": &form.parts[1].parts[0],
		"N":           &form.parts[1].parts[0].parts[0],
		"E":           &form.parts[1].parts[0].parts[1],
	}
}

// certPlaces are those of a certificate, which has A0 or hasn't.
func certPlaces(cert *part) map[string]*part {
	first := &cert.parts[0]
	from := len(first.parts) - 6
	form := &first.parts[from+5]
	places := map[string]*part{
		"the certificate": cert,
		"the first":       first,
		"the second":      &cert.parts[1],
		"the third":       &cert.parts[2],
		"the count":       &first.parts[from],
		"the signing":     &first.parts[from+1],
		"the issuer":      &first.parts[from+2],
		"the dates":       &first.parts[from+3],
		"the subject":     &first.parts[from+4],
	}
	for what, place := range infoPlaces(form) {
		places[what] = place
	}
	return places
}

// withoutVersion is a certificate without its A0.
func withoutVersion(cert part) part {
	cert.parts[0].parts = cert.parts[0].parts[1:]
	return cert
}

// tagsToTry are other tags than the one that stands there; tags that are none are Take's ErrForm.
func tagsToTry(but byte) []byte {
	all := []byte{0x00, 0x01, 0x02, 0x03, 0x04, 0x05, 0x06, 0x0C, 0x10, 0x17, 0x1F, 0x22, 0x23, 0x30, 0x31, 0x3F, 0x70, 0xA0, 0xA1, 0xA3, 0xB0, 0xFF}
	return slices.DeleteFunc(all, func(tag byte) bool { return tag == but })
}

func TestOtherTagsInInfo(t *testing.T) {
	plain := exampleInfo(t)
	for what := range infoPlaces(&plain) {
		for _, tag := range tagsToTry(infoPlaces(&plain)[what].tag) {
			form := exampleInfo(t)
			infoPlaces(&form)[what].tag = tag
			checkFails(t, "P8.2: ParseInfo, another tag at "+what, ParseInfo, form.bytes(), api.ErrForm)
		}
	}
}

func TestOtherTagsInCert(t *testing.T) {
	for _, bare := range []bool{false, true} {
		build := func() part {
			if bare {
				return withoutVersion(exampleCert(t))
			}
			return exampleCert(t)
		}
		plain := build()
		for what, place := range certPlaces(&plain) {
			for _, tag := range tagsToTry(place.tag) {
				cert := build()
				certPlaces(&cert)[what].tag = tag
				checkFails(t, "P8.3: FromCert, another tag at "+what, FromCert, cert.bytes(), api.ErrForm)
			}
		}
	}
	for _, tag := range tagsToTry(0xA0) {
		cert := exampleCert(t)
		cert.parts[0].parts[0].tag = tag
		checkFails(t, "P8.3: FromCert, another tag at the version", FromCert, cert.bytes(), api.ErrForm)
	}
}

// behind are bytes that may stand behind something, and Split's error of them.
var behind = []struct {
	b   string
	err api.Errno
}{
	{"\x05\x00", api.OK}, {"\x30\x00", api.OK}, {"\x02\x01\x01", api.OK}, {"\x03\x01\x00", api.OK},
	{"\x05", api.ErrShort}, {"\x05\x01", api.ErrShort}, {"\x1F", api.ErrForm}, {"\x05\x80", api.ErrForm}, {"\x05\x81\x7F", api.ErrForm}, {"\x05\x81", api.ErrShort}, {"\x05\x83\x10\x00\x00", api.ErrLong},
}

// moreFails is the error of more bytes at a place where pieces are split.
func moreFails(err api.Errno) api.Errno {
	if err == api.OK {
		return api.ErrForm
	}
	return err
}

func TestMoreInInfo(t *testing.T) {
	for _, c := range behind {
		b := append(exampleInfo(t).bytes(), c.b...)
		checkFails(t, "P8.2: more behind the form", ParseInfo, b, moreFails(c.err))
		plain := exampleInfo(t)
		for what := range infoPlaces(&plain) {
			form := exampleInfo(t)
			infoPlaces(&form)[what].tail = []byte(c.b)
			want := api.ErrForm
			switch what {
			case "the whole", "the bits", "the numbers":
				want = moreFails(c.err)
			case "N", "E":
				continue
			}
			checkFails(t, "P8.2: more within "+what, ParseInfo, form.bytes(), want)
		}
	}
}

func TestMoreInCert(t *testing.T) {
	k := rsa.Public(example(t))
	for _, c := range behind {
		b := append(exampleCert(t).bytes(), c.b...)
		checkFails(t, "P8.3: more behind the certificate", FromCert, b, moreFails(c.err))
		plain := exampleCert(t)
		for what := range certPlaces(&plain) {
			cert := exampleCert(t)
			certPlaces(&cert)[what].tail = []byte(c.b)
			want, wantErr := api.Key{}, api.ErrForm
			switch what {
			case "the certificate", "the whole", "the bits", "the numbers":
				wantErr = moreFails(c.err)
			case "the first":
				// Whatever is behind the key's form may stand there, if it is pieces.
				wantErr = c.err
			case "the second", "the third", "the count", "the signing", "the issuer", "the dates", "the subject":
				wantErr = api.OK
			case "N", "E":
				continue
			}
			if wantErr == api.OK {
				want = k
			}
			got, err := FromCert(cert.bytes())
			checkKey(t, "P8.3: FromCert with more within "+what, got, err, want, wantErr)
		}
	}
}

// A piece that is left out, or stands there twice, at each place.
func TestFewerAndTwice(t *testing.T) {
	for i := range 2 {
		form := exampleInfo(t)
		form.parts = slices.Delete(form.parts, i, i+1)
		checkFails(t, "P8.2: a piece left out of the whole", ParseInfo, form.bytes(), api.ErrForm)
		form = exampleInfo(t)
		form.parts = slices.Insert(form.parts, i, form.parts[i])
		checkFails(t, "P8.2: a piece twice in the whole", ParseInfo, form.bytes(), api.ErrForm)
		form = exampleInfo(t)
		numbers := &form.parts[1].parts[0]
		numbers.parts = slices.Delete(numbers.parts, i, i+1)
		checkFails(t, "P8.2: a number left out", ParseInfo, form.bytes(), api.ErrForm)
		form = exampleInfo(t)
		kind := &form.parts[0]
		kind.parts = slices.Delete(kind.parts, i, i+1)
		checkFails(t, "P8.2: a piece left out of the kind", ParseInfo, form.bytes(), api.ErrForm)
	}
	for i := range 3 {
		cert := exampleCert(t)
		cert.parts = slices.Delete(cert.parts, i, i+1)
		checkFails(t, "P8.3: a piece left out of the certificate", FromCert, cert.bytes(), api.ErrForm)
		cert = exampleCert(t)
		cert.parts = slices.Insert(cert.parts, i, cert.parts[i])
		checkFails(t, "P8.3: a piece twice in the certificate", FromCert, cert.bytes(), api.ErrForm)
	}
	for i := 1; i < 7; i++ {
		cert := exampleCert(t)
		cert.parts[0].parts = slices.Delete(cert.parts[0].parts, i, i+1)
		checkFails(t, "P8.3: a piece left out of the first", FromCert, cert.bytes(), api.ErrForm)
	}
	for i := range 2 {
		cert := exampleCert(t)
		cert.parts[0].parts = slices.Insert(cert.parts[0].parts, i, cert.parts[0].parts[i])
		checkFails(t, "P8.3: a piece twice in the first", FromCert, cert.bytes(), api.ErrForm)
	}
	for _, place := range []func(*part) *part{
		func(c *part) *part { return c },
		func(c *part) *part { return &c.parts[0] },
		func(c *part) *part { return &c.parts[0].parts[6] },
		func(c *part) *part { return &c.parts[0].parts[6].parts[1].parts[0] },
	} {
		cert := exampleCert(t)
		place(&cert).parts = nil
		checkFails(t, "P8.3: nothing within", FromCert, cert.bytes(), api.ErrForm)
	}
}

// The byte ahead of the numbers is 0, and is there.
func TestBits(t *testing.T) {
	for _, c := range []struct {
		head string
		want api.Errno
	}{
		{"\x00", api.OK}, {"", api.ErrForm}, {"\x01", api.ErrForm}, {"\x80", api.ErrForm}, {"\xFF", api.ErrForm}, {"\x00\x00", api.ErrShort}, {"\x00\x05\x00", api.ErrForm}, {"\x00\x1F", api.ErrForm},
	} {
		form := exampleInfo(t)
		form.parts[1].head = []byte(c.head)
		k, err := ParseInfo(form.bytes())
		want, _ := wantInfo(form.bytes())
		checkKey(t, "P8.2: another byte ahead of the numbers", k, err, want, c.want)
	}
	form := exampleInfo(t)
	form.parts[1] = leaf(0x03, "")
	checkFails(t, "P8.2: no byte within the bits", ParseInfo, form.bytes(), api.ErrForm)
	form.parts[1] = leaf(0x03, "\x00")
	checkFails(t, "P8.2: nothing behind the byte 0", ParseInfo, form.bytes(), api.ErrForm)
	form.parts[1] = leaf(0x03, "\x01\x30")
	checkFails(t, "P8.2: another byte than 0, and bytes cut short", ParseInfo, form.bytes(), api.ErrForm)
	form.parts[1] = leaf(0x03, "\x00\x30")
	checkFails(t, "P8.2: bytes cut short behind the byte 0", ParseInfo, form.bytes(), api.ErrShort)
}

// The outer level's error is told ahead of the inner one's.
func TestLevels(t *testing.T) {
	short, form, long := []byte{0x05}, []byte{0x1F}, []byte{0x05, 0x83, 0x10, 0x00, 0x00}
	depth := []func(*part) *part{
		func(c *part) *part { return c },
		func(c *part) *part { return &c.parts[0] },
		func(c *part) *part { return &c.parts[0].parts[6] },
		func(c *part) *part { return &c.parts[0].parts[6].parts[1] },
		func(c *part) *part { return &c.parts[0].parts[6].parts[1].parts[0] },
	}
	faults := []struct {
		tail []byte
		err  api.Errno
	}{{short, api.ErrShort}, {form, api.ErrForm}, {long, api.ErrLong}}
	for outer := range depth {
		for inner := outer + 1; inner < len(depth); inner++ {
			for _, a := range faults {
				for _, b := range faults {
					cert := exampleCert(t)
					depth[outer](&cert).tail = a.tail
					depth[inner](&cert).tail = b.tail
					checkFails(t, "P8.3: faults at two levels", FromCert, cert.bytes(), a.err)
					if outer >= 2 {
						checkFails(t, "P8.2: faults at two levels", ParseInfo, cert.parts[0].parts[6].bytes(), a.err)
					}
				}
			}
		}
	}
	// A level that isn't what the form has there is told ahead of what stands within its pieces.
	for _, b := range faults {
		cert := exampleCert(t)
		cert.parts[2].tag = 0x04
		cert.parts[0].tail = b.tail
		checkFails(t, "P8.3: another tag ahead of a fault within", FromCert, cert.bytes(), api.ErrForm)
		cert = exampleCert(t)
		cert.parts[0].parts[1].tag = 0x03
		cert.parts[0].parts[6].tail = b.tail
		checkFails(t, "P8.3: another tag ahead of a fault within", FromCert, cert.bytes(), api.ErrForm)
		info := exampleInfo(t)
		info.parts[0].parts[0].head[8] = 0x0B
		info.parts[1].tail = b.tail
		checkFails(t, "P8.2: another kind ahead of a fault within", ParseInfo, info.bytes(), api.ErrForm)
	}
}

// The kind is held against the form's as it stands: what is no pieces within it is ErrForm.
func TestKind(t *testing.T) {
	for _, inside := range []string{
		"", "\x06", "\x06\x09\x2A", "\x05\x83\x10\x00\x00",
		"\x06\x09\x2A\x86\x48\x86\xF7\x0D\x01\x01\x01",
		"\x06\x09\x2A\x86\x48\x86\xF7\x0D\x01\x01\x01\x05",
		"\x06\x09\x2A\x86\x48\x86\xF7\x0D\x01\x01\x0B\x05\x00",
		"\x06\x09\x2A\x86\x48\x86\xF7\x0D\x01\x01\x01\x05\x01",
		"\x06\x81\x09\x2A\x86\x48\x86\xF7\x0D\x01\x01\x01\x05\x00",
		"\x05\x00\x06\x09\x2A\x86\x48\x86\xF7\x0D\x01\x01\x01",
		"\x06\x09\x2A\x86\x48\x86\xF7\x0D\x01\x01\x01\x05\x00\x05\x00",
	} {
		form := exampleInfo(t)
		form.parts[0] = leaf(0x30, inside)
		checkFails(t, "P8.2: another kind", ParseInfo, form.bytes(), api.ErrForm)
	}
	good := exampleInfo(t).parts[0].inside()
	for i := range good {
		form := exampleInfo(t)
		turned := bytes.Clone(good)
		turned[i] ^= 1
		form.parts[0] = leaf(0x30, string(turned))
		checkFails(t, "P8.2: one bit of the kind", ParseInfo, form.bytes(), api.ErrForm)
	}
}

func TestCertBytes(t *testing.T) {
	for _, k := range keys(t) {
		for _, name := range []string{"", "idp", "é", "\xFF\x00", strings.Repeat("n", 127), strings.Repeat("n", 128), strings.Repeat("n", 199), strings.Repeat("n", 200)} {
			want := certOf(contents(k.N), contents(k.E), name).bytes()
			for _, one := range []api.Key{k, {N: k.N, E: k.E, D: []byte{1}}, noughted(k)} {
				b, err := Cert(one, name)
				if err != api.OK || !bytes.Equal(b, want) {
					t.Errorf("P8.3: Cert of %x, %q: %x, %d; wanted %x", one, name, b, err, want)
				}
				back, err := FromCert(b)
				checkKey(t, "P8.4: FromCert of Cert", back, err, k, api.OK)
			}
		}
	}
}

func TestCertWrittenOut(t *testing.T) {
	k := api.Key{N: power(488, 1), E: []byte{3}}
	signing, name := "300d06092a864886f70d01010b0500", "300e310c300a06035504030c03696470"
	info, _ := Info(k)
	want := "3081c5" + "3081b0" + "a003020102" + "020101" + signing + name +
		"301e" + "170d" + hex.EncodeToString([]byte("000101000000Z")) + "170d" + hex.EncodeToString([]byte("491231235959Z")) +
		name + hex.EncodeToString(info) + signing + "030100"
	if b, err := Cert(k, "idp"); err != api.OK || hex.EncodeToString(b) != want {
		t.Errorf("P8.3: Cert: %x, %d; wanted %s", b, err, want)
	}
}

func TestLongNames(t *testing.T) {
	k := example(t)
	for _, size := range []int{201, 202, 1 << 16, 1 << 21} {
		if b, err := Cert(k, strings.Repeat("n", size)); err != api.ErrArg || len(b) != 0 {
			t.Errorf("P8.3: Cert with a name of %d bytes: %d bytes, %d", size, len(b), err)
		}
	}
	// Bytes are counted, not characters.
	if b, err := Cert(k, strings.Repeat("é", 101)); err != api.ErrArg || len(b) != 0 {
		t.Errorf("P8.3: Cert with a name of 101 characters in 202 bytes: %d bytes, %d", len(b), err)
	}
	if _, err := Cert(k, strings.Repeat("é", 100)); err != api.OK {
		t.Errorf("P8.3: Cert with a name of 100 characters in 200 bytes: %d", err)
	}
}

func TestCertByLibrary(t *testing.T) {
	k := example(t)
	b, err := Cert(k, "https://idp.example/é")
	if err != api.OK {
		t.Fatalf("P8.3: Cert: %d", err)
	}
	cert, fault := x509.ParseCertificate(b)
	if fault != nil {
		t.Fatalf("P8.3: the library doesn't read it: %v", fault)
	}
	public, ok := cert.PublicKey.(*library.PublicKey)
	if !ok || !bytes.Equal(public.N.Bytes(), k.N) || public.E != 65537 {
		t.Errorf("P8.3: the library reads the key %v", cert.PublicKey)
	}
	if cert.Subject.CommonName != "https://idp.example/é" || cert.Issuer.CommonName != cert.Subject.CommonName {
		t.Errorf("P8.3: the library reads the names %q, %q", cert.Issuer.CommonName, cert.Subject.CommonName)
	}
	from, to := time.Date(2000, 1, 1, 0, 0, 0, 0, time.UTC), time.Date(2049, 12, 31, 23, 59, 59, 0, time.UTC)
	if cert.Version != 3 || cert.SerialNumber.Int64() != 1 || !cert.NotBefore.Equal(from) || !cert.NotAfter.Equal(to) || cert.SignatureAlgorithm != x509.SHA256WithRSA || len(cert.Signature) != 0 {
		t.Errorf("P8.3: the library reads %d, %v, %v, %v, %v, %x", cert.Version, cert.SerialNumber, cert.NotBefore, cert.NotAfter, cert.SignatureAlgorithm, cert.Signature)
	}
}

// A certificate as others make them has long names, other dates, and more behind the key's form.
func TestFromLibrary(t *testing.T) {
	key, fault := library.GenerateKey(rand.Reader, 2048)
	if fault != nil {
		t.Fatal(fault)
	}
	made := &x509.Certificate{
		SerialNumber: big.NewInt(1 << 40),
		Subject:      pkix.Name{CommonName: "sp", Organization: []string{"a", "b"}, Country: []string{"CH"}},
		NotBefore:    time.Unix(1600000000, 0),
		NotAfter:     time.Date(2060, 1, 1, 0, 0, 0, 0, time.UTC),
		KeyUsage:     x509.KeyUsageDigitalSignature,
		IsCA:         true, BasicConstraintsValid: true,
		DNSNames: []string{"sp.example", "www.sp.example"},
	}
	b, fault := x509.CreateCertificate(rand.Reader, made, made, &key.PublicKey, key)
	if fault != nil {
		t.Fatal(fault)
	}
	want := api.Key{N: key.N.Bytes(), E: big.NewInt(int64(key.E)).Bytes()}
	k, err := FromCert(b)
	checkKey(t, "P8.3: FromCert of the library's", k, err, want, api.OK)
}

func TestWithoutVersion(t *testing.T) {
	want := rsa.Public(example(t))
	cert := withoutVersion(exampleCert(t))
	k, err := FromCert(cert.bytes())
	checkKey(t, "P8.3: FromCert without A0", k, err, want, api.OK)
	for _, c := range behind {
		if c.err == api.OK {
			cert.parts[0].tail = append(cert.parts[0].tail, c.b...)
			k, err := FromCert(cert.bytes())
			checkKey(t, "P8.3: FromCert without A0, with more behind the key's form", k, err, want, api.OK)
		}
	}
}

// What a certificate says beside its key isn't looked at.
func TestNotLookedAt(t *testing.T) {
	want := rsa.Public(example(t))
	for i := range 6 {
		for _, c := range append(behind, behind[0]) {
			cert := exampleCert(t)
			first := &cert.parts[0]
			first.parts[i] = leaf(first.parts[i].tag, c.b)
			k, err := FromCert(cert.bytes())
			checkKey(t, "P8.3: FromCert with other contents ahead of the key's form", k, err, want, api.OK)
		}
	}
	for i := 1; i < 3; i++ {
		cert := exampleCert(t)
		cert.parts[i] = leaf(cert.parts[i].tag, "")
		k, err := FromCert(cert.bytes())
		checkKey(t, "P8.3: FromCert with other contents behind the first", k, err, want, api.OK)
	}
}

// One form isn't the other.
func TestFormsApart(t *testing.T) {
	checkFails(t, "P8.3: FromCert of a key's form", FromCert, exampleInfo(t).bytes(), api.ErrForm)
	checkFails(t, "P8.2: ParseInfo of a certificate", ParseInfo, exampleCert(t).bytes(), api.ErrForm)
}

func TestTooLongForms(t *testing.T) {
	b := append([]byte{0x30, 0x83, 0x10, 0x00, 0x00}, make([]byte, 1<<20)...)
	checkFails(t, "P8.2: ParseInfo of a long piece", ParseInfo, b, api.ErrLong)
	checkFails(t, "P8.3: FromCert of a long piece", FromCert, b, api.ErrLong)
	// More behind the key's form may be long, up to the limit.
	cert := exampleCert(t)
	cert.parts[0].parts = append(cert.parts[0].parts, leaf(0xA3, string(make([]byte, 1<<19))))
	k, err := FromCert(cert.bytes())
	checkKey(t, "P8.3: FromCert with long pieces behind the key's form", k, err, rsa.Public(example(t)), api.OK)
	// Numbers may be longer than layer 6 takes, though no key has them.
	long := append([]byte{1}, make([]byte, 5000)...)
	checkFails(t, "P8.2: ParseInfo of a long N", ParseInfo, infoOf(long, []byte{3}).bytes(), api.ErrArg)
	checkFails(t, "P8.2: ParseInfo of a long E", ParseInfo, infoOf(contents(example(t).N), append(long, 1)).bytes(), api.ErrArg)
}

// Forms turned at some of their places are read as the chapter says.
func TestTurnedForms(t *testing.T) {
	r := random.New(random.NewSource(83))
	errs := map[api.Errno]int{}
	for range 20000 {
		cert := exampleCert(t)
		if r.Intn(3) == 0 {
			cert = withoutVersion(cert)
		}
		for range 1 + r.Intn(2) {
			cert = turned(r, cert)
		}
		b := cert.bytes()
		if r.Intn(4) == 0 {
			b[r.Intn(len(b))] ^= 1 << r.Intn(8)
		}
		want, wantErr := wantFromCert(b)
		k, err := FromCert(b)
		checkKey(t, "P8.3: FromCert of a turned one", k, err, want, wantErr)
		errs[err]++
		form := turned(r, turned(r, exampleInfo(t))).bytes()
		want, wantErr = wantInfo(form)
		k, err = ParseInfo(form)
		checkKey(t, "P8.2: ParseInfo of a turned one", k, err, want, wantErr)
		errs[err]++
	}
	for _, err := range []api.Errno{api.OK, api.ErrShort, api.ErrForm, api.ErrLong, api.ErrArg} {
		if errs[err] < 20 {
			t.Errorf("error %d came only %d times", err, errs[err])
		}
	}
}

func TestAnyBytes(t *testing.T) {
	r := random.New(random.NewSource(84))
	for range 50000 {
		b := make([]byte, r.Intn(60))
		r.Read(b)
		if len(b) > 4 && r.Intn(2) == 0 {
			copy(b, []byte{0x30, byte(len(b) - 2), 0x30, byte(len(b) - 4)})
		}
		want, wantErr := wantSplit(b)
		checkSplit(t, b, want, wantErr)
		key, wantErr := wantInfo(b)
		k, err := ParseInfo(b)
		checkKey(t, "P8.2: ParseInfo of any bytes", k, err, key, wantErr)
		key, wantErr = wantFromCert(b)
		k, err = FromCert(b)
		checkKey(t, "P8.3: FromCert of any bytes", k, err, key, wantErr)
	}
}
