/- Arguments opened as lists: bytes, texts, rows of texts; and what the small bound of the second form says of their lengths. Arguments of words of 16 bits opened as lists of numbers. -/
import Derived.Test.YtddkjkockbcamaaGreatDoorHe03
import Derived.ProofKit
import Derived.OpenShut
import Derived.ShutString
import Derived.ChangeOld
import Derived.JoinedCond
namespace Go.Proofs.YtddkjkockbcamaaGreatDoor
open Go.ChangeShapes Go.WideShapes Go.ChangeAt Go.RowKit
open Go.ChangeMaps (open_string shut_string)
theorem OK {H : Type} (d : DataW H) : 1 ≤ Rows.uptoBulk d := by
  cases d with
  | lit l => cases l <;> simp [Rows.uptoBulk]
  | nil => simp [Rows.uptoBulk]
  | ptr d => simp [Rows.uptoBulk]
  | slice elems spare => simp [Rows.uptoBulk]
  | agg parts => simp [Rows.uptoBulk]
  | iface t d => simp [Rows.uptoBulk]
  | map entries => simp [Rows.uptoBulk]
  | held h => simp [Rows.uptoBulk]
/-- lengths of texts, one more for each -/
def eF (ls : List (List UInt8)) : Nat := (ls.map fun s => s.length + 1).sum
theorem I3 {H : Type} (ss : List ByteArray) : Rows.uptoBulkAll (strs (H := H) ss) = eF (ss.map fun s => s.data.toList) := by
  induction ss with
  | nil => simp [strs, Rows.uptoBulkAll, eF]
  | cons s r ih =>
    have : strs (H := H) (s :: r) = .lit (.string s.data.toList) :: strs r := rfl
    rw [this]
    simp only [Rows.uptoBulkAll, Rows.uptoBulk, ih, eF, List.map_cons, List.sum_cons]
section
variable {H : Type} {enc : TypeId × Value → H} {P : Program} {W : World}
theorem E0 {t e : TypeId} {a0 : Option Addr} {len cap : Nat} {d : DataW H} {p : List MemPlace} (ht : P.underlying t = some (.slice e)) (he : P.underlying e = some .string) (hc : P.cellsOf e = 1)
    (h : DataW.Trod enc P W 0 (fun _ => true) true t (.slice a0 len cap) d p) :
    ∃ ls : List (List UInt8), ls.length = len ∧ len ≤ cap ∧ cap ≤ maxLen ∧ Row W W.heap.size 1 a0 len (aZ ls) ∧ eF ls + 1 ≤ Rows.uptoBulk d := by
  obtain ⟨fuel, hf⟩ := h
  rcases open_strings ht he hc hf with ⟨hcs, hx⟩ | ⟨x, len', cap', ss, hcs, _, hl, hm, hz, hx, hcell, LS⟩
  · simp [Value.cells] at hcs
    obtain ⟨rfl, rfl, rfl⟩ := hcs
    exact ⟨[], rfl, Nat.le_refl _, Nat.zero_le _, Row.nil, by have := OK d; simpa [eF] using this⟩
  · simp [Value.cells] at hcs
    obtain ⟨rfl, rfl, rfl⟩ := hcs
    have hzl : ss.length = cap := by simpa using hz
    refine ⟨(ss.take len).map fun s => s.data.toList, by simp; omega, hl, hm, ⟨by simp [aZ]; omega, fun hn => ?_⟩, ?_⟩
    · have h0 := hcell 0 (by omega)
      obtain ⟨b, off, spot⟩ := x
      have hspot : spot = none := by simpa [Addr.add] using World.cell?_spot h0
      subst hspot
      have hlt : b < W.heap.size := by
        rcases Nat.lt_or_ge b W.heap.size with h' | h'
        · exact h'
        · simp [World.cell?, Addr.add, Array.getElem?_eq_none h'] at h0
      refine ⟨b, off, rfl, hlt, fun j u hu => ?_⟩
      simp only [aZ, List.map_map, List.getElem?_map, List.getElem?_take] at hu
      split at hu
      · rename_i hj
        have hjz : j < ss.length := by omega
        rw [List.getElem?_eq_getElem hjz] at hu
        simp only [Option.map_some, Option.some.injEq] at hu
        have := hcell j hjz
        rw [Go.WideShapes.add_plain] at this
        rw [this, ← hu]
        simp only [Function.comp, bs, List.getD_eq_getElem?_getD, List.getElem?_eq_getElem hjz, Option.getD_some]
      · simp at hu
    · injection hx with hx1 _
      subst hx1
      have := I3 (H := H) (ss.take len)
      simp only [Rows.uptoBulk]
      omega
end
theorem C9 {H : Type} {l : List (DataW H)} (hk : Rows.uptoSmall H l = true) : Rows.uptoBulkAll l ≤ 1048576 := of_decide_eq_true hk
end Go.Proofs.YtddkjkockbcamaaGreatDoor
namespace Go.Proofs.YtddkjkockbcamaaGreatDoor
open Go.ChangeShapes Go.WideShapes Go.ChangeAt Go.RowKit
section
variable {H : Type} {enc : TypeId × Value → H} {P : Program} {W : World}
end
end Go.Proofs.YtddkjkockbcamaaGreatDoor
