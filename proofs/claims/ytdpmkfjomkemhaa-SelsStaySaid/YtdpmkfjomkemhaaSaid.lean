/- The program's functions and the reference's Normal do what the laws' walks ask of them. Conditions: none. -/
import Derived.Test.YtdpmkfjomkemhaaLaws
import Derived.Test.YtdpmkfjomkemhaaNormal
import Derived.Test.YtdpmkfjomkemhaaAdd
import Derived.Test.YtdpmkfjomkemhaaKnows
namespace Go.Proofs.Ytdpmkfjomkemhaa
open Go Go.RowKit

theorem said : Said := {
  normal := fun a n c m ls w hn _ _ hl => normalAt a n c m ls w (by omega) hl
  ref := fun a n c m ls w hn hl => refNormal a n c m ls w hn hl
  is := fun a n c m ls w hn hl => isAt a n c m ls w hn hl
  span := fun s w => (spanAt s w).mono fun e w' h => ⟨h.1, by rw [h.2]; exact ((Below.refl _ _).alloc (Nat.le_refl _) _).alloc (by simp) _⟩
  add := fun a n c s m ls w hn _ hno hl => addAt a n c s m ls w (by omega) hno hl
  knows := knowsAt }
end Go.Proofs.Ytdpmkfjomkemhaa
