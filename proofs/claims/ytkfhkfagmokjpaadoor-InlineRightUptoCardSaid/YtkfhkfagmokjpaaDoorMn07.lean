/- Arguments opened as lists: bytes, texts, rows of texts; and what the small bound of the second form says of their lengths. Arguments of words of 16 bits opened as lists of numbers. -/
import Derived.Test.YtkfhkfagmokjpaaDoorMn04
import Derived.ProofKit
import Derived.OpenShut
import Derived.ShutString
import Derived.ChangeOld
import Derived.JoinedCond
namespace Go.Proofs.YtkfhkfagmokjpaaDoor
open Go.ChangeShapes Go.WideShapes Go.ChangeAt Go.RowKit
open Go.ChangeMaps (open_string shut_string)

theorem bulk_one {H : Type} (d : DataW H) : 1 ≤ Rows.uptoBulk d := by
  cases d with
  | lit l => cases l <;> simp [Rows.uptoBulk]
  | nil => simp [Rows.uptoBulk]
  | ptr d => simp [Rows.uptoBulk]
  | slice elems spare => simp [Rows.uptoBulk]
  | agg parts => simp [Rows.uptoBulk]
  | iface t d => simp [Rows.uptoBulk]
  | map entries => simp [Rows.uptoBulk]
  | held h => simp [Rows.uptoBulk]

theorem bulk_len {H : Type} (l : List (DataW H)) : l.length ≤ Rows.uptoBulkAll l := by
  induction l with
  | nil => simp [Rows.uptoBulkAll]
  | cons x r ih => have := bulk_one x; simp only [Rows.uptoBulkAll, List.length_cons]; omega

/-- lengths of texts, one more for each -/
def heft (ls : List (List UInt8)) : Nat := (ls.map fun s => s.length + 1).sum

theorem heft_len (ls : List (List UInt8)) : ls.length ≤ heft ls ∧ (ls.map List.length).sum ≤ heft ls := by
  induction ls with
  | nil => simp [heft]
  | cons s r ih => simp only [heft, List.map_cons, List.sum_cons, List.length_cons] at ih ⊢; omega

theorem heft_mem {ls : List (List UInt8)} {s : List UInt8} (h : s ∈ ls) : s.length + 1 ≤ heft ls := by
  induction ls with
  | nil => simp at h
  | cons t r ih =>
    simp only [heft, List.map_cons, List.sum_cons] at ih ⊢
    rcases List.mem_cons.1 h with rfl | h
    · omega
    · have := ih h; omega

theorem bulk_strs {H : Type} (ss : List ByteArray) : Rows.uptoBulkAll (strs (H := H) ss) = heft (ss.map fun s => s.data.toList) := by
  induction ss with
  | nil => simp [strs, Rows.uptoBulkAll, heft]
  | cons s r ih =>
    have : strs (H := H) (s :: r) = .lit (.string s.data.toList) :: strs r := rfl
    rw [this]
    simp only [Rows.uptoBulkAll, Rows.uptoBulk, ih, heft, List.map_cons, List.sum_cons]

section
variable {H : Type} {enc : TypeId × Value → H} {P : Program} {W : World}

theorem open_bytes {t e : TypeId} {a0 : Option Addr} {len cap : Nat} {d : DataW H} {p : List MemPlace} (ht : P.underlying t = some (.slice e)) (he : P.underlying e = some (.int .u8)) (hc : P.cellsOf e = 1)
    (h : DataW.Trod enc P W 0 (fun _ => true) true t (.slice a0 len cap) d p) :
    ∃ l : List UInt8, l.length = len ∧ len ≤ cap ∧ cap ≤ maxLen ∧ Row W W.heap.size 1 a0 len (bcells l) ∧ len + 1 ≤ Rows.uptoBulk d := by
  obtain ⟨fuel, hf⟩ := h
  rcases open_ints ht he hc hf with ⟨hcs, hx⟩ | ⟨x, len', cap', zs, hcs, _, hl, hm, hz, hx, hcell, hwz⟩
  · simp [Value.cells] at hcs
    obtain ⟨rfl, rfl, rfl⟩ := hcs
    exact ⟨[], rfl, Nat.le_refl _, Nat.zero_le _, Row.nil, bulk_one d⟩
  · simp [Value.cells] at hcs
    obtain ⟨rfl, rfl, rfl⟩ := hcs
    have hzl : zs.length = cap := by simpa using hz
    have hb : len + 1 ≤ Rows.uptoBulk d := by
      injection hx with hx1 _
      subst hx1
      have := bulk_len (lits (H := H) .u8 (zs.take len))
      simp only [Rows.uptoBulk]
      simp [lits] at this ⊢
      omega
    have hnum : ∀ n ∈ zs, (UInt8.ofNat n.toNat).toNat = n.toNat ∧ 0 ≤ n := by
      intro n hn
      have h1 := hwz n hn
      have h2 : 0 ≤ n ∧ n ≤ 255 := bounds_u8 h1
      constructor
      · rw [UInt8.toNat_ofNat']; omega
      · omega
    refine ⟨(zs.take len).map fun z => UInt8.ofNat z.toNat, by simp; omega, hl, hm, ⟨by simp [bcells]; omega, fun hn => ?_⟩, hb⟩
    obtain ⟨b, off, rfl, hcc⟩ := ints_at hcell (by omega)
    have hlt : b < W.heap.size := by
      have h1 := hcc 0 (by omega)
      rcases Nat.lt_or_ge b W.heap.size with h' | h'
      · exact h'
      · simp [World.cell?, Array.getElem?_eq_none h'] at h1
    refine ⟨b, off, rfl, hlt, fun j u hu => ?_⟩
    simp only [bcells, List.map_map, List.getElem?_map, List.getElem?_take] at hu
    split at hu
    · rename_i hj
      have hjz : j < zs.length := by omega
      rw [List.getElem?_eq_getElem hjz] at hu
      simp only [Option.map_some, Option.some.injEq] at hu
      rw [hcc j hjz, ← hu]
      have hn := hnum zs[j] (List.getElem_mem hjz)
      simp only [bv, Function.comp, List.getD_eq_getElem?_getD, List.getElem?_eq_getElem hjz, Option.getD_some]
      have e1 := hn.1
      have e2 : ((zs[j].toNat : Nat) : Int) = zs[j] := Int.toNat_of_nonneg hn.2
      rw [e1, e2]
    · simp at hu

theorem open_texts {t e : TypeId} {a0 : Option Addr} {len cap : Nat} {d : DataW H} {p : List MemPlace} (ht : P.underlying t = some (.slice e)) (he : P.underlying e = some .string) (hc : P.cellsOf e = 1)
    (h : DataW.Trod enc P W 0 (fun _ => true) true t (.slice a0 len cap) d p) :
    ∃ ls : List (List UInt8), ls.length = len ∧ len ≤ cap ∧ cap ≤ maxLen ∧ Row W W.heap.size 1 a0 len (scells ls) ∧ heft ls + 1 ≤ Rows.uptoBulk d := by
  obtain ⟨fuel, hf⟩ := h
  rcases open_strings ht he hc hf with ⟨hcs, hx⟩ | ⟨x, len', cap', ss, hcs, _, hl, hm, hz, hx, hcell, hwz⟩
  · simp [Value.cells] at hcs
    obtain ⟨rfl, rfl, rfl⟩ := hcs
    exact ⟨[], rfl, Nat.le_refl _, Nat.zero_le _, Row.nil, by have := bulk_one d; simpa [heft] using this⟩
  · simp [Value.cells] at hcs
    obtain ⟨rfl, rfl, rfl⟩ := hcs
    have hzl : ss.length = cap := by simpa using hz
    refine ⟨(ss.take len).map fun s => s.data.toList, by simp; omega, hl, hm, ⟨by simp [scells]; omega, fun hn => ?_⟩, ?_⟩
    · have h0 := hcell 0 (by omega)
      obtain ⟨b, off, spot⟩ := x
      have hspot : spot = none := by simpa [Addr.add] using World.cell?_spot h0
      subst hspot
      have hlt : b < W.heap.size := by
        rcases Nat.lt_or_ge b W.heap.size with h' | h'
        · exact h'
        · simp [World.cell?, Addr.add, Array.getElem?_eq_none h'] at h0
      refine ⟨b, off, rfl, hlt, fun j u hu => ?_⟩
      simp only [scells, List.map_map, List.getElem?_map, List.getElem?_take] at hu
      split at hu
      · rename_i hj
        have hjz : j < ss.length := by omega
        rw [List.getElem?_eq_getElem hjz] at hu
        simp only [Option.map_some, Option.some.injEq] at hu
        have := hcell j hjz
        rw [Go.WideShapes.add_plain] at this
        rw [this, ← hu]
        simp only [Function.comp, bs, List.getD_eq_getElem?_getD, List.getElem?_eq_getElem hjz, Option.getD_some]
      · simp at hu
    · injection hx with hx1 _
      subst hx1
      have := bulk_strs (H := H) (ss.take len)
      simp only [Rows.uptoBulk]
      omega

theorem text_of (s : ByteArray) : s = bs s.data.toList := by simp [bs]
end

theorem small_bound {H : Type} {l : List (DataW H)} (hk : Rows.uptoSmall H l = true) : Rows.uptoBulkAll l ≤ 1048576 := of_decide_eq_true hk

end Go.Proofs.YtkfhkfagmokjpaaDoor

namespace Go.Proofs.YtkfhkfagmokjpaaDoor
open Go.ChangeShapes Go.WideShapes Go.ChangeAt Go.RowKit

/-- words as cells -/
def ucells (l : List Nat) : List Value := l.map fun x : Nat => .int .u16 (x : Int)

section
variable {H : Type} {enc : TypeId × Value → H} {P : Program} {W : World}
theorem open_words {t e : TypeId} {a0 : Option Addr} {len cap : Nat} {d : DataW H} {p : List MemPlace} (ht : P.underlying t = some (.slice e)) (he : P.underlying e = some (.int .u16)) (hc : P.cellsOf e = 1)
    (h : DataW.Trod enc P W 0 (fun _ => true) true t (.slice a0 len cap) d p) :
    ∃ l : List Nat, l.length = len ∧ len ≤ cap ∧ cap ≤ maxLen ∧ Row W W.heap.size 1 a0 len (ucells l) ∧ len + 1 ≤ Rows.uptoBulk d ∧ ∀ x ∈ l, x ≤ 65535 := by
  obtain ⟨fuel, hf⟩ := h
  rcases open_ints ht he hc hf with ⟨hcs, hx⟩ | ⟨x, len', cap', zs, hcs, _, hl, hm, hz, hx, hcell, hwz⟩
  · simp [Value.cells] at hcs
    obtain ⟨rfl, rfl, rfl⟩ := hcs
    exact ⟨[], rfl, Nat.le_refl _, Nat.zero_le _, Row.nil, bulk_one d, fun x hx => by cases hx⟩
  · simp [Value.cells] at hcs
    obtain ⟨rfl, rfl, rfl⟩ := hcs
    have hzl : zs.length = cap := by simpa using hz
    have hb : len + 1 ≤ Rows.uptoBulk d := by
      injection hx with hx1 _
      subst hx1
      have := bulk_len (lits (H := H) .u16 (zs.take len))
      simp only [Rows.uptoBulk]
      simp [lits] at this ⊢
      omega
    have hnum : ∀ n ∈ zs, 0 ≤ n ∧ n ≤ 65535 := fun n hn => bounds_u16 (hwz n hn)
    refine ⟨(zs.take len).map Int.toNat, by simp; omega, hl, hm, ⟨by simp [ucells]; omega, fun hn => ?_⟩, hb, ?_⟩
    · obtain ⟨b, off, rfl, hcc⟩ := ints_at hcell (by omega)
      have hlt : b < W.heap.size := by
        have h1 := hcc 0 (by omega)
        rcases Nat.lt_or_ge b W.heap.size with h' | h'
        · exact h'
        · simp [World.cell?, Array.getElem?_eq_none h'] at h1
      refine ⟨b, off, rfl, hlt, fun j u hu => ?_⟩
      simp only [ucells, List.map_map, List.getElem?_map, List.getElem?_take] at hu
      split at hu
      · rename_i hj
        have hjz : j < zs.length := by omega
        rw [List.getElem?_eq_getElem hjz] at hu
        simp only [Option.map_some, Option.some.injEq] at hu
        rw [hcc j hjz, ← hu]
        have hn := hnum zs[j] (List.getElem_mem hjz)
        simp only [Function.comp, List.getD_eq_getElem?_getD, List.getElem?_eq_getElem hjz, Option.getD_some]
        rw [Int.toNat_of_nonneg hn.1]
      · simp at hu
    · intro y hy
      obtain ⟨z, hz2, rfl⟩ := List.mem_map.1 hy
      have := hnum z (List.mem_of_mem_take hz2)
      omega
end

/-- a cell of a row of words -/
theorem word_cell {w : World} {B : Nat} {A : Option Addr} {l : List Nat} (h : Row w B 1 A l.length (ucells l)) (hn : 0 < l.length) :
    ∃ b o, A = some ⟨b, o, none⟩ ∧ b < B ∧ ∀ j (hj : j < l.length), w.cell? ⟨b, o + j, none⟩ = some (.int .u16 (l[j] : Int)) := by
  obtain ⟨b, o, e, hb, hc⟩ := h.2 hn
  exact ⟨b, o, e, hb, fun j hj => hc j _ (by simp [ucells, List.getElem?_eq_getElem hj])⟩
end Go.Proofs.YtkfhkfagmokjpaaDoor
