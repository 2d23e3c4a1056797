/- Arguments of words of 16 bits opened as lists of numbers. -/
import Derived.Test.YtjkmhcolnidflaaOpen
namespace Go.Proofs.Ytjkmhcolnidflaa
open Go.ChangeShapes Go.WideShapes Go.ChangeAt Go.RowKit

/-- words as cells -/
def ucells (l : List Nat) : List Value := l.map fun x : Nat => .int .u16 (x : Int)

section
variable {H : Type} {enc : TypeId × Value → H} {P : Program} {W : World}
theorem open_words {t e : TypeId} {a0 : Option Addr} {len cap : Nat} {d : DataW H} {p : List MemPlace} (ht : P.underlying t = some (.slice e)) (he : P.underlying e = some (.int .u16)) (hc : P.cellsOf e = 1)
    (h : DataW.Trod enc P W 0 (fun _ => true) true t (.slice a0 len cap) d p) :
    ∃ l : List Nat, l.length = len ∧ len ≤ cap ∧ cap ≤ maxLen ∧ Row W W.heap.size 1 a0 len (ucells l) ∧ len + 1 ≤ Rows.uptoBulk d ∧ ∀ x ∈ l, x ≤ 65535 := by
  obtain ⟨fuel, hf⟩ := h
  rcases open_ints ht he hc hf with ⟨hcs, hx⟩ | ⟨x, len', cap', zs, hcs, _, hl, hm, hz, hx, hcell, hwz⟩
  · simp [Value.cells] at hcs
    obtain ⟨rfl, rfl, rfl⟩ := hcs
    exact ⟨[], rfl, Nat.le_refl _, Nat.zero_le _, Row.nil, bulk_one d, fun x hx => by cases hx⟩
  · simp [Value.cells] at hcs
    obtain ⟨rfl, rfl, rfl⟩ := hcs
    have hzl : zs.length = cap := by simpa using hz
    have hb : len + 1 ≤ Rows.uptoBulk d := by
      injection hx with hx1 _
      subst hx1
      have := bulk_len (lits (H := H) .u16 (zs.take len))
      simp only [Rows.uptoBulk]
      simp [lits] at this ⊢
      omega
    have hnum : ∀ n ∈ zs, 0 ≤ n ∧ n ≤ 65535 := fun n hn => bounds_u16 (hwz n hn)
    refine ⟨(zs.take len).map Int.toNat, by simp; omega, hl, hm, ⟨by simp [ucells]; omega, fun hn => ?_⟩, hb, ?_⟩
    · obtain ⟨b, off, rfl, hcc⟩ := ints_at hcell (by omega)
      have hlt : b < W.heap.size := by
        have h1 := hcc 0 (by omega)
        rcases Nat.lt_or_ge b W.heap.size with h' | h'
        · exact h'
        · simp [World.cell?, Array.getElem?_eq_none h'] at h1
      refine ⟨b, off, rfl, hlt, fun j u hu => ?_⟩
      simp only [ucells, List.map_map, List.getElem?_map, List.getElem?_take] at hu
      split at hu
      · rename_i hj
        have hjz : j < zs.length := by omega
        rw [List.getElem?_eq_getElem hjz] at hu
        simp only [Option.map_some, Option.some.injEq] at hu
        rw [hcc j hjz, ← hu]
        have hn := hnum zs[j] (List.getElem_mem hjz)
        simp only [Function.comp, List.getD_eq_getElem?_getD, List.getElem?_eq_getElem hjz, Option.getD_some]
        rw [Int.toNat_of_nonneg hn.1]
      · simp at hu
    · intro y hy
      obtain ⟨z, hz2, rfl⟩ := List.mem_map.1 hy
      have := hnum z (List.mem_of_mem_take hz2)
      omega
end

/-- a cell of a row of words -/
theorem word_cell {w : World} {B : Nat} {A : Option Addr} {l : List Nat} (h : Row w B 1 A l.length (ucells l)) (hn : 0 < l.length) :
    ∃ b o, A = some ⟨b, o, none⟩ ∧ b < B ∧ ∀ j (hj : j < l.length), w.cell? ⟨b, o + j, none⟩ = some (.int .u16 (l[j] : Int)) := by
  obtain ⟨b, o, e, hb, hc⟩ := h.2 hn
  exact ⟨b, o, e, hb, fun j hj => hc j _ (by simp [ucells, List.getElem?_eq_getElem hj])⟩
end Go.Proofs.Ytjkmhcolnidflaa
