package stock

import (
	"strings"

	"vault/api"
	"vault/fault"
	"vault/layout"
)

// Unpack gives the objects that come out, and besides these an error that has the names of the others, if there are any (P15).
func (s *Stock) Unpack() ([]api.Object, error) {
	objects, lost := s.part()
	if len(lost) > 0 {
		return objects, fault.Lost(len(lost), lost)
	}
	return objects, nil
}

// Repair gives all volumes as they were (P16).
func (s *Stock) Repair() ([]string, error) {
	for number := range s.findings {
		if s.stripe(number).fate != whole {
			_, lost := s.part()
			return nil, fault.Lost(number, lost)
		}
	}
	volumes, _ := layout.Volumes(s.head.Params, s.head.Entries, s.blocks)
	return volumes, nil
}

// part parts the objects that come out from the names of those that do not; both are in the order of the names.
func (s *Stock) part() (objects []api.Object, lost []string) {
	first := 0
	for _, entry := range s.head.Entries {
		end := first + entry.Length
		if data, there := s.data(first, end); there {
			objects = append(objects, api.Object{Name: entry.Name, Data: data})
		} else {
			lost = append(lost, entry.Name)
		}
		first = end
	}
	return objects, lost
}

// data gives the bytes of the stream from first to below end, unless one of them lies in a stripe that is short or forged.
func (s *Stock) data(first int, end int) (data string, there bool) {
	p := s.head.Params
	size := p.K * p.Chunk
	var text strings.Builder
	// An object without data lies in no stripe, so none is asked for it.
	for first < end {
		number := first / size
		if s.stripe(number).fate != whole {
			return "", false
		}
		begin := number * size
		until := min(end, begin+size)
		blocks := s.blocks[number*(p.K+p.M):][:p.K]
		text.WriteString(strings.Join(blocks, "")[first-begin : until-begin])
		first = until
	}
	return text.String(), true
}
