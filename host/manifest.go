package host

import (
	"hostel/api"
	"hostel/vm"
)

// isManifest says whether a host may be made for these tenants.
func isManifest(m []api.Tenant) bool {
	// The length is looked at first, so that a list of any length is refused at once.
	if len(m) < 1 || len(m) > api.MaxTenants {
		return false
	}
	for _, x := range m {
		if !mayBe(x) {
			return false
		}
	}
	return true
}

// mayBe says whether a tenant may be on a page.
func mayBe(x api.Tenant) bool {
	if x.Fuel < 1 || x.Fuel > api.MaxFuel {
		return false
	}
	if x.Share < 1 || x.Share > api.MaxShare || x.Back < 1 || x.Back > api.MaxBack {
		return false
	}
	if x.Routes >= 1<<api.MaxRoutes || x.Pub >= 1<<api.MaxTopics || x.Sub >= 1<<api.MaxTopics {
		return false
	}
	_, e, _ := vm.Decode(x.Program)
	return e == api.OK
}

// hasBit says whether the bit k is set.
func hasBit(bits, k uint8) bool {
	return bits>>k&1 == 1
}
