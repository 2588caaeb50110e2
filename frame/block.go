package frame

import (
	"duplex/api"
	"duplex/chars"
)

// blockError tells why a block may not be sent. The order of the tests is the
// order in which P5 names the errors.
func blockError(b api.Block) api.Errno {
	if !chars.IsHead(b.Head) {
		return api.ErrHead
	}
	if len(b.Parts) < 1 || len(b.Parts) > api.MaxParts {
		return api.ErrParts
	}
	for i := 0; i < len(b.Parts); i++ {
		if !chars.IsText(b.Parts[i], api.MaxPart, b.Clear) {
			return api.ErrText
		}
	}
	return api.OK
}

// blockBody is for blocks in which blockError finds nothing, and for checks
// that isCheck allows.
func blockBody(b api.Block, check int) string {
	body := ""
	// The first check covers what opens the block too, the later ones do not.
	covered := opening(b)
	for i := 0; i < len(b.Parts); i++ {
		covered += written(b.Parts[i], b.Clear)
		covered += ending(b, i)
		body += covered
		body += checkBytes(covered, check)
		covered = ""
	}
	return body
}

func opening(b api.Block) string {
	out := []byte{}
	if b.Head != "" {
		out = append(out, api.SOH)
		out = append(out, b.Head...)
	}
	if b.Clear {
		out = append(out, api.DLE)
	}
	out = append(out, api.STX)
	return string(out)
}

// written doubles each DLE of a Clear part, so that a DLE of the text is not
// taken for the one ahead of the part's end.
func written(part string, anyByte bool) string {
	out := []byte{}
	for i := 0; i < len(part); i++ {
		if anyByte && part[i] == api.DLE {
			out = append(out, api.DLE)
		}
		out = append(out, part[i])
	}
	return string(out)
}

func ending(b api.Block, part int) string {
	end := endCharacter(b, part)
	if b.Clear {
		return string([]byte{api.DLE, end})
	}
	return string([]byte{end})
}

func endCharacter(b api.Block, part int) byte {
	if part < len(b.Parts)-1 {
		return api.ITB
	}
	if b.Last {
		return api.ETX
	}
	return api.ETB
}
