/- A new disk in memory. -/
import Derived.Test.YtpljmoiemmaecaaDwf
namespace Go.Proofs.Ytpljmoiemmaecaa
open Go.RowKit

def fresh (room : Int) : Dv := ⟨fun _ => none, none, none, 0, 0, 0, 0, room, 0, 0, nilS, false, []⟩
theorem DInv_fresh {w : World} {d B : Nat} {room : Int} (h : Cel w d 61 (dc none 0 none 0 nilS room 0 0 false)) : DInv w d B (fresh room) :=
  ⟨h, .inl ⟨rfl, rfl⟩, .inl ⟨rfl, rfl⟩, ⟨fun _ _ _ e => (by cases e), fun _ _ _ _ _ _ _ _ e => (by cases e)⟩, fun _ e => (by cases e), World.ownsRow_nil w B 69 4, fun _ _ e => (by simp [fresh] at e), fun _ _ => rfl⟩

end Go.Proofs.Ytpljmoiemmaecaa
