/- What the package's functions answer: the premises of the laws' walks, shown. -/
import Derived.Test.YtnegakobammljaaCk
import Derived.Test.YtnegakobammljaaBi
import Derived.Test.YtnegakobammljaaAc
import Derived.Test.YtnegakobammljaaAl10
namespace Go.Proofs.Ytnegakobammljaa
open Go.RowKit

theorem numberC : NumberC := fun w A c xs hb hl _ => (number_any w A c xs hb hl).mono fun _ _ h => ⟨h.1, by rw [h.2]; exact Below.refl _ _⟩
theorem arcsC : ArcsC := fun w A c xs hb _ hm => (arcs_any w A c xs hb hm).mono fun e w' ⟨v, he, ho, hB⟩ => by
  obtain ⟨-, A', c', rfl⟩ := own64_form ho
  exact ⟨A', c', he, R64.own ho, hB⟩
theorem checkC : CheckC := fun w tag A c xs ht hb hl hm => check_any w tag ht A c xs hb hl hm
theorem bitsC : BitsC := fun w A c xs hb hl hm => bits_any w A c xs hb hl hm
theorem timeC : TimeC := fun w tag A c xs ht hb hl hm => time_any w tag ht A c xs hb hl hm
theorem aliveC : AliveC := alive10_by numberC arcsC
end Go.Proofs.Ytnegakobammljaa

