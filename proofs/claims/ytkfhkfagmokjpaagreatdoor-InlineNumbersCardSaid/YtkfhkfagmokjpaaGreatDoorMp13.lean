/- Parts of a text, as they lie in memory; where a run is among them. The document's own inlines: what they say; whether two are alike; a run's signs. The document's own inlines: what parts settle to. Inlines, by no program: a pair's parts put into one; where its two runs are. Inlines, by no program: a text read step by step into parts and runs; what comes of them. Rows of parts, cut, put together, one of them set. No function of the program is spoken of here. The document's own inlines: one plain more among the parts. The document's own inlines: where a pair's runs are, in whatever order it is asked; one part and the rest put together. The document's own inlines: two runs have fewer signs left. Inlines, by no program: how many signs each run among the parts has left, pair by pair; what weighs what. The document's own inlines: what stands between a pair's runs is put into one, pair by pair. Inlines, by no program: what holds of what has been read, piece by piece. Inlines, by no program: what a text is parted into has not too many kids, and says not too much. Inlines, by no program: rows that are laid into one another run by run come to what the document says, pair by pair. -/
import Derived.Test.YtkfhkfagmokjpaaGreatDoorMp12
import Derived.Deep.DeepCutAuto
import Derived.Test.YtkfhkfagmokjpaaGreatDoorMp11
import Derived.Test.YtkfhkfagmokjpaaGreatDoorMp05
import Derived.Test.YtkfhkfagmokjpaaGreatDoorMp02
import Derived.Test.YtkfhkfagmokjpaaGreatDoorMp04
namespace Go.Proofs.YtkfhkfagmokjpaaGreatDoor
open Go.RowKit

def runI : Option Nat → Int
  | none => -1
  | some r => (r : Int)
/-- a part's cells -/
def PC (w : World) (Q : Nat → Prop) (p : Il.Pt) (cs : List Value) : Prop := ∃ ic, IC w Q p.inn ic ∧ cs = ic ++ [.int .i64 (runI p.run), .int .i64 (p.left : Int), .int .u8 (p.ch.toNat : Int)]
def PCs (w : World) (Q : Nat → Prop) : List Il.Pt → List (List Value) → Prop
  | [], css => css = []
  | p :: r, css => ∃ c0 cr, css = c0 :: cr ∧ PC w Q p c0 ∧ PCs w Q r cr
theorem PC_frame {w w' : World} {Q Q' : Nat → Prop} (hf : ∀ b, Q b → w'.heap[b]? = w.heap[b]?) (hq : ∀ b, Q b → Q' b) {p : Il.Pt} {cs : List Value} (h : PC w Q p cs) : PC w' Q' p cs := by
  obtain ⟨ic, h1, h2⟩ := h; exact ⟨ic, IC_frame hf hq h1, h2⟩
theorem PCs_frame {w w' : World} {Q Q' : Nat → Prop} (hf : ∀ b, Q b → w'.heap[b]? = w.heap[b]?) (hq : ∀ b, Q b → Q' b) : ∀ {l : List Il.Pt} {css : List (List Value)}, PCs w Q l css → PCs w' Q' l css
  | [], _, h => h
  | _ :: _, _, ⟨c0, cr, h1, h2, h3⟩ => ⟨c0, cr, h1, PC_frame hf hq h2, PCs_frame hf hq h3⟩
theorem PC_length {w : World} {Q : Nat → Prop} {p : Il.Pt} {cs : List Value} (h : PC w Q p cs) : cs.length = 7 := by
  obtain ⟨ic, h1, rfl⟩ := h; rw [List.length_append, IC_length h1]; rfl
theorem PCs_length {w : World} {Q : Nat → Prop} : ∀ {l : List Il.Pt} {css : List (List Value)}, PCs w Q l css → css.flatten.length = l.length * 7 ∧ css.length = l.length
  | [], css, h => by subst h; exact ⟨rfl, rfl⟩
  | p :: r, css, ⟨c0, cr, h1, h2, h3⟩ => by
    subst h1
    have := PCs_length h3
    rw [List.flatten_cons, List.length_append, PC_length h2, this.1, List.length_cons, List.length_cons, this.2]
    exact ⟨by omega, rfl⟩
theorem PCs_snoc {w : World} {Q : Nat → Prop} : ∀ {l : List Il.Pt} {css : List (List Value)} {p : Il.Pt} {cs : List Value}, PCs w Q l css → PC w Q p cs → PCs w Q (l ++ [p]) (css ++ [cs])
  | [], _, _, cs, h, hp => by cases h; exact ⟨cs, [], rfl, hp, rfl⟩
  | _ :: _, _, _, cs, ⟨c0, cr, h1, h2, h3⟩, hp => by subst h1; exact ⟨c0, cr ++ [cs], rfl, h2, PCs_snoc h3 hp⟩
theorem PCs_last {w : World} {Q : Nat → Prop} : ∀ {l : List Il.Pt} {css : List (List Value)} {p : Il.Pt}, PCs w Q (l ++ [p]) css → ∃ cr c, css = cr ++ [c] ∧ PCs w Q l cr ∧ PC w Q p c
  | [], _, _, ⟨c0, cr, h1, h2, h3⟩ => by cases h3; exact ⟨[], c0, by rw [h1]; rfl, rfl, h2⟩
  | _ :: _, _, _, ⟨c0, cr, h1, h2, h3⟩ => by
    obtain ⟨cr', c, e, k1, k2⟩ := PCs_last h3
    exact ⟨c0 :: cr', c, by rw [h1, e]; rfl, ⟨c0, cr', rfl, h2, k1⟩, k2⟩
theorem ICs_last {w : World} {Q : Nat → Prop} : ∀ {l : List Il.In} {css : List (List Value)} {p : Il.In}, ICs w Q (l ++ [p]) css → ∃ cr c, css = cr ++ [c] ∧ ICs w Q l cr ∧ IC w Q p c
  | [], css, p, h => by
    rw [List.nil_append] at h
    unfold ICs at h
    obtain ⟨c0, cr, h1, h2, h3⟩ := h
    unfold ICs at h3
    subst h3
    exact ⟨[], c0, by rw [h1]; rfl, ICs_nil, h2⟩
  | x :: r, css, p, h => by
    rw [List.cons_append] at h
    unfold ICs at h
    obtain ⟨c0, cr, h1, h2, h3⟩ := h
    obtain ⟨cr', c, e, k1, k2⟩ := ICs_last h3
    refine ⟨c0 :: cr', c, by rw [h1, e]; rfl, ?_, k2⟩
    unfold ICs
    exact ⟨c0, cr', rfl, h2, k1⟩
theorem PCs_at {w : World} {Q : Nat → Prop} : ∀ {l : List Il.Pt} {css : List (List Value)}, PCs w Q l css → ∀ {k : Nat} (hk : k < l.length), ∃ cs, PC w Q l[k] cs ∧ ∀ j, j < 7 → css.flatten[k * 7 + j]? = cs[j]?
  | [], _, _, _, hk => by simp at hk
  | p :: r, css, ⟨c0, cr, h1, h2, h3⟩, k, hk => by
    subst h1
    have hl := PC_length h2
    rcases k with _ | k
    · exact ⟨c0, h2, fun j hj => by rw [List.flatten_cons, List.getElem?_append_left (by omega)]; congr 1; omega⟩
    · obtain ⟨cs, h3, h4⟩ := PCs_at h3 (k := k) (by simpa using hk)
      refine ⟨cs, h3, fun j hj => ?_⟩
      rw [List.flatten_cons, List.getElem?_append_right (by omega), hl, show (k + 1) * 7 + j - 7 = k * 7 + j from by omega]
      exact h4 j hj
/-- a part's seven cells -/
theorem PC_form {w : World} {Q : Nat → Prop} {kd : Nat} {t d : List UInt8} {ks : List Il.In} {r : Option Nat} {n : Nat} {ch : UInt8} {cs : List Value} (h : PC w Q ⟨.mk kd t d ks, r, n, ch⟩ cs) :
    ∃ (A : Option Addr) (c : Nat) (css : List (List Value)), cs = [.int .i64 (kd : Int), .string (bs t), .string (bs d), .slice A ks.length c, .int .i64 (runI r), .int .i64 (n : Int), .int .u8 (ch.toNat : Int)] ∧ ks.length ≤ c ∧ RowI w Q 4 A ks.length css.flatten ∧ ICs w Q ks css := by
  obtain ⟨ic, h1, rfl⟩ := h
  obtain ⟨A, c, css, rfl, h2⟩ := IC_form h1
  exact ⟨A, c, css, rfl, h2⟩

/-- where a run is among the parts -/
def Il.place (l : List Il.Pt) (r : Nat) : Nat := (l.findIdx? fun p => p.run == some r).getD 0
theorem il_place_yes {l : List Il.Pt} {r k : Nat} (hk : k < l.length) (h : l[k].run = some r) (hno : ∀ p ∈ l.take k, p.run ≠ some r) : Il.place l r = k := by
  unfold Il.place
  have : l.findIdx? (fun p => p.run == some r) = some k := by
    rw [List.findIdx?_eq_some_iff_getElem]
    refine ⟨hk, by simpa using h, fun j hj => ?_⟩
    have hm : l[j]'(by omega) ∈ l.take k := by
      have : (l.take k)[j]'(by rw [List.length_take]; omega) = l[j]'(by omega) := List.getElem_take
      rw [← this]; exact List.getElem_mem _
    simpa using hno _ hm
  rw [this]; rfl
theorem il_place_no {l : List Il.Pt} {r : Nat} (hno : ∀ p ∈ l, p.run ≠ some r) : Il.place l r = 0 := by
  unfold Il.place
  have : l.findIdx? (fun p => p.run == some r) = none := by
    rw [List.findIdx?_eq_none_iff]
    intro p hp
    simpa using hno p hp
  rw [this]; rfl

set_option maxHeartbeats 4000000 in
set_option maxRecDepth 100000 in
theorem rplace_any (l : List Il.Pt) (r : Nat) (A : Option Addr) (c : Nat) (css : List (List Value)) (w : World) (Q : Nat → Prop) (hQ : ∀ b, Q b → b < w.heap.size) (hl : l.length ≤ 1000000000) (hR : RowI w Q 7 A l.length css.flatten) (hP : PCs w Q l css) :
    Calls Tryz.prog 57 #[.slice A l.length c, .int .i64 (r : Int)] w fun e w' => e = .returned (.int .i64 (Il.place l r : Nat)) ∧ Below w.heap.size w w' := by
  replace hR := Lib.hid hR
  replace hP := Lib.hid hP
  obtain ⟨T, hT⟩ : ∃ T, T = Il.place l r := ⟨_, rfl⟩
  rw [← hT]
  replace hT := Lib.hid hT
  go_enter Tryz.func57, Tryz.ntmps57
  go_wp2_with fail
  go_loopw [8] (fun u wr => ∃ k : Nat, k ≤ l.length ∧ u = .int .i64 (k : Int) ∧ Hid (∀ p ∈ l.take k, p.run ≠ some r) ∧ Hid (Below w.heap.size w wr)) (fun u _ => l.length - (intOf u).toNat)
  case atStart => exact ⟨0, by omega, rfl, Lib.hid (by simp), Lib.hid (Below.refl _ _)⟩
  case round =>
    obtain ⟨k, hk, rfl, hno, hb⟩ := hrel
    by_cases hlt : k < l.length
    · obtain ⟨cs, i1, i2⟩ := PCs_at hP.out hlt
      obtain ⟨b, o, rfl, hqb, hcell⟩ := hR.out.2 (by omega)
      have hyes := fun h => il_place_yes hlt (r := r) h hno.out
      have hst : l[k].run ≠ some r → ∀ p ∈ l.take (k + 1), p.run ≠ some r := fun h p hp => by
        rw [List.take_succ_eq_append_getElem hlt, List.mem_append] at hp
        rcases hp with hp | hp
        · exact hno.out p hp
        · simp at hp; rw [hp]; exact h
      obtain ⟨x, hx⟩ : ∃ x, x = l[k] := ⟨_, rfl⟩
      rw [← hx] at i1 hyes hst
      clear hx
      obtain ⟨⟨kd, tx, de, ks⟩, rn, lf, ch⟩ := x
      obtain ⟨A2, c2, css2, rfl, _, _, _⟩ := PC_form i1
      have hbl := hQ _ hqb
      have x4 := (hb.out.cell (p := ⟨b, o + (k * 7 + 4), none⟩) hbl).trans (hcell _ _ (i2 4 (by omega)))
      simp only [← Nat.add_assoc] at x4
      simp only at hyes hst
      have hbr : b < wr.heap.size := Nat.lt_of_lt_of_le hbl hb.out.size
      clear i1 i2 hcell
      by_cases hrn : rn = some r
      · have t : (runI rn == (r : Int)) = true := by rw [hrn]; simp [runI]
        have hres : T = k := by rw [hT.out]; exact hyes hrn
        subst hres
        clear hyes hst hrn
        generalize runI rn = z at *
        go_wp2_with fail
        (try go_quiet (fail))
        go_wp2_with fail
        go_ret
        exact ⟨rfl, by first | exact hb.out | exact below_drewN hb.out _⟩
      · have t : (runI rn == (r : Int)) = false := by
          cases rn with
          | none => simp only [runI, beq_eq_false_iff_ne, ne_eq]; omega
          | some q =>
            simp only [runI, beq_eq_false_iff_ne, ne_eq]
            intro h
            exact hrn (by rw [show q = r by omega])
        have hst2 := Lib.hid (hst hrn)
        clear hyes hst hrn
        generalize runI rn = z at *
        go_wp2_with fail
        (try go_quiet (fail))
        go_wp2_with fail
        go_roundw
        case rel => exact ⟨k + 1, by omega, by go_num, hst2, by first | exact hb | exact Lib.hid (below_drewN hb.out _)⟩
        case measure => simp [intOf]; omega
    · have hres : T = 0 := by rw [hT.out]; exact il_place_no (by have := hno.out; rwa [List.take_of_length_le (by omega)] at this)
      subst hres
      go_wp2_with fail
      go_ret
      exact ⟨rfl, hb.out⟩
end Go.Proofs.YtkfhkfagmokjpaaGreatDoor

namespace Go.Proofs.YtkfhkfagmokjpaaGreatDoor
open Go.RowKit
attribute [local go_sem] canOp readsAs readUpon

set_option maxHeartbeats 4000000 in
set_option maxRecDepth 100000 in
theorem ritext_any : ∀ (N : Nat) (ts : List Il.In) (_ : SizeOf.sizeOf ts ≤ N) (_ : ∀ t ∈ ts, Il.Few t) (_ : ts.length ≤ 1000000000) (_ : (Il.txts ts).length ≤ 1000000000) (A : Option Addr) (c : Nat) (css : List (List Value)) (w : World) (Q : Nat → Prop) (_ : ∀ b, Q b → b < w.heap.size)
    (_ : RowI w Q 4 A ts.length css.flatten) (_ : ICs w Q ts css),
    Calls Tryz.prog 14 #[.slice A ts.length c] w fun e w' => e = .returned (.string (bs (Il.txts ts))) ∧ Below w.heap.size w w'
  | 0, ts, hN, _, _, _, _, _, _, _, _, _, _, _ => by cases ts <;> simp at hN
  | N + 1, ts, hN, hF, hl, hx, A, c, css, w, Q, hQ, hR, hI => by
    have ih := ritext_any N
    have hR' := Lib.hid hR
    have hI' := Lib.hid hI
    obtain ⟨T, hT⟩ : ∃ T, T = Il.txts ts := ⟨_, rfl⟩
    rw [← hT]
    replace hT := Lib.hid hT
    go_enter Tryz.func14, Tryz.ntmps14
    go_wp2_with fail
    go_loopw [3, 8] (fun v u wr => ∃ k : Nat, k ≤ ts.length ∧ u = .int .i64 (k : Int) ∧ v = .string (bs (Il.txts (ts.take k))) ∧ Hid (Below w.heap.size w wr)) (fun _ u _ => ts.length - (intOf u).toNat)
    case atStart => exact ⟨0, by omega, rfl, rfl, Lib.hid (Below.refl _ _)⟩
    case round =>
      obtain ⟨k, hk, rfl, rfl, hb⟩ := hrel
      rcases Nat.lt_or_eq_of_le hk with hlt | hke
      · obtain ⟨cs, i1, i2⟩ := ICs_at hI'.out hlt
        obtain ⟨b, o, rfl, hqb, hcell⟩ := hR'.out.2 (by omega)
        have hkid := Il.txts_kid hlt
        have hstep := Il.txts_take hlt
        have hFk := hF ts[k] (List.getElem_mem hlt)
        have hNk : SizeOf.sizeOf ts[k] < N + 1 := by have := List.sizeOf_lt_of_mem (List.getElem_mem hlt); omega
        have hz0 := bs_size (Il.txts (ts.take k))
        generalize ts[k] = t at *
        obtain ⟨kd, tx, ds, ks⟩ := t
        obtain ⟨A2, c2, css2, rfl, hc2, hR2, hI2⟩ := IC_form i1
        have hbl := hQ _ hqb
        have hbw := hb.out
        have x0 := (hbw.cell (p := ⟨b, o + (k * 4 + 0), none⟩) hbl).trans (hcell _ _ (i2 0 (by omega)))
        have x1 := (hbw.cell (p := ⟨b, o + (k * 4 + 1), none⟩) hbl).trans (hcell _ _ (i2 1 (by omega)))
        have x2 := (hbw.cell (p := ⟨b, o + (k * 4 + 2), none⟩) hbl).trans (hcell _ _ (i2 2 (by omega)))
        have x3 := (hbw.cell (p := ⟨b, o + (k * 4 + 3), none⟩) hbl).trans (hcell _ _ (i2 3 (by omega)))
        simp only [← Nat.add_assoc, Nat.add_zero] at x0 x1 x2 x3
        obtain ⟨hF1, hF2, hF3⟩ : kd ≤ 1000 ∧ ks.length ≤ 1000000000 ∧ ∀ x ∈ ks, Il.Few x := by cases hFk with | mk a b c => exact ⟨a, b, c⟩
        simp only [Il.In.mk.sizeOf_spec] at hNk
        have ht : Il.txt (.mk kd tx ds ks) = (if kd = 5 then [32] else []) ++ tx ++ Il.txts ks := by simp only [Il.txt]
        rw [ht] at hkid hstep
        simp only [List.length_append] at hkid
        have hcall := fun w' (hb' : Below w.heap.size w w') => ih ks (by omega) hF3 hF2 (by omega) A2 c2 css2 w' Q (fun b h => Nat.lt_of_lt_of_le (hQ b h) hb'.size) (hR2.frame (fun b h => hb'.block b (hQ b h)) (fun _ h => h)) (ICs_frame (fun b h => hb'.block b (hQ b h)) (fun _ h => h) hI2)
        replace hcall := Lib.hid hcall
        clear ih hcell i1 i2 hR2 hI2 ht hFk
        have hbr : b < wr.heap.size := Nat.lt_of_lt_of_le hbl hbw.size
        go_upto_region 5 with fail
        generalize hw4 : World.alloc wr _ = w4
        have hb4 : Below wr.heap.size wr w4 := by rw [← hw4]; exact ext_alloc _ _
        have y0 : w4.cell? ⟨wr.heap.size, 0, none⟩ = some (.int .i64 (kd : Int)) := by rw [← hw4]; exact World.cell?_alloc_at _ _ _ _ rfl
        have y1 : w4.cell? ⟨wr.heap.size, 1, none⟩ = some (.string (bs tx)) := by rw [← hw4]; exact World.cell?_alloc_at _ _ _ _ rfl
        have y3 : w4.cell? ⟨wr.heap.size, 3, none⟩ = some (.slice A2 ks.length c2) := by rw [← hw4]; exact World.cell?_alloc_at _ _ _ _ rfl
        have hgx4 : wr.heap.size < w4.heap.size := by rw [← hw4]; simp
        clear hw4
        have hb5 := Lib.hid (ext_trans hbw hb4)
        generalize wr.heap.size = gx at y0 y1 y3 hgx4 ⊢
        have hSu : ∀ u, Ext w4.drew u → u.cell? ⟨gx, 1, none⟩ = some (.string (bs tx)) ∧ u.cell? ⟨gx, 3, none⟩ = some (.slice A2 ks.length c2) := fun u (hu : Below w4.drew.heap.size w4.drew u) =>
          ⟨(hu.cell (p := ⟨gx, 1, none⟩) hgx4).trans y1, (hu.cell (p := ⟨gx, 3, none⟩) hgx4).trans y3⟩
        replace hSu := Lib.hid hSu
        have hb5d := Lib.hid (ext_trans hb5.out (ext_drew w4))
        obtain ⟨K, hK⟩ : ∃ K, K = Il.txts ks := ⟨_, rfl⟩
        rw [← hK] at hkid hstep hcall
        obtain ⟨P, hP⟩ : ∃ P, P = Il.txts (ts.take k) := ⟨_, rfl⟩
        rw [← hP] at hkid hstep hz0 ⊢
        clear hK hP y1 y3
        have hz1 := bs_size tx
        have hz2 := bs_size K
        have hz3 := bs_size (tx ++ K)
        have hcat1 : bs tx ++ bs K = bs (tx ++ K) := bs_append tx K
        simp only [List.length_append] at hz3
        by_cases h5 : kd = 5
        · have t5 : ((kd : Int) == 5) = true := by simp [h5]
          rw [if_pos h5] at hkid hstep
          have hcat0 : bs P ++ (⟨#[32]⟩ : ByteArray) = bs (P ++ [32]) := bs_append P [32]
          obtain ⟨P1, hP1⟩ : ∃ P1, P1 = P ++ [32] := ⟨_, rfl⟩
          have hp1 : P1.length = P.length + 1 := by rw [hP1]; simp
          have hz4 := bs_size P1
          have hcat2 : bs P1 ++ bs (tx ++ K) = bs (P1 ++ (tx ++ K)) := bs_append P1 (tx ++ K)
          have hfin : Hid (Il.txts (ts.take (k + 1)) = P1 ++ (tx ++ K)) := Lib.hid (by rw [hstep, hP1]; simp)
          rw [← hP1] at hcat0
          clear hP1 hstep h5
          simp only [List.length_cons, List.length_nil] at hkid
          go_upto_region 7 with fail
          refine wp_region_can [(true, 0), (true, 1), (true, 2), (true, 3), (true, 4), (false, 5), (true, 6), (true, 7), (true, 8)] (Ext w4.drew) (Below.refl _ _) (by kernel_rfl) (by kernel_rfl) (by kernel_rfl) (fun _ _ d _ _ h => by cases d <;> exact h) ?_
          repeat (first | refine wpCan_move rfl ?_ | (refine wpCan_cons rfl ?_; intro K hK; go_simp; refine hK _ _ _ ?_; clear hK K))
          refine wpCan_read (.string (bs tx)) rfl rfl (Below.refl _ _) (fun u hu => by obtain ⟨u1, u2⟩ := hSu.out u hu; go_simp) ?_
          repeat (first | refine wpCan_move rfl ?_ | (refine wpCan_cons rfl ?_; intro K hK; go_simp; refine hK _ _ _ ?_; clear hK K))
          refine wpCan_read (.slice A2 ks.length c2) rfl rfl (Below.refl _ _) (fun u hu => by obtain ⟨u1, u2⟩ := hSu.out u hu; go_simp) ?_
          refine wpCan_cons rfl ?_
          intro KK hKK
          go_simp
          refine (hcall.out w4.drew hb5d.out).mono ?_
          rintro e w8 ⟨rfl, hb8⟩
          have hb9 := Lib.hid (ext_trans hb5d.out hb8)
          refine can_ext hb8 (hKK _ _ _ ?_)
          clear hKK KK
          refine wpCan_read (.string (bs (tx ++ K))) rfl rfl (Ext.refl _) (fun u _ => by go_simp <;> omega) ?_
          refine wpCan_read (.string (bs (P1 ++ (tx ++ K)))) rfl rfl (Ext.refl _) (fun u _ => by go_simp <;> omega) ?_
          repeat (first | refine wpCan_move rfl ?_ | (refine wpCan_cons rfl ?_; intro K hK; go_simp; refine hK _ _ _ ?_; clear hK K))
          refine wpCan_nil ?_
          go_wp2_with fail
          go_roundw
          case rel => exact ⟨k + 1, by omega, by go_num, by rw [hfin.out], hb9⟩
          case measure => simp [intOf]; omega
        · have t5 : ((kd : Int) == 5) = false := by simp; omega
          rw [if_neg h5] at hkid hstep
          have hcat2 : bs P ++ bs (tx ++ K) = bs (P ++ (tx ++ K)) := bs_append P (tx ++ K)
          have hfin : Hid (Il.txts (ts.take (k + 1)) = P ++ (tx ++ K)) := Lib.hid (by rw [hstep]; simp)
          clear hstep h5
          simp only [List.length_nil] at hkid
          go_upto_region 7 with fail
          refine wp_region_can [(true, 0), (true, 1), (true, 2), (true, 3), (true, 4), (false, 5), (true, 6), (true, 7), (true, 8)] (Ext w4.drew) (Below.refl _ _) (by kernel_rfl) (by kernel_rfl) (by kernel_rfl) (fun _ _ d _ _ h => by cases d <;> exact h) ?_
          repeat (first | refine wpCan_move rfl ?_ | (refine wpCan_cons rfl ?_; intro K hK; go_simp; refine hK _ _ _ ?_; clear hK K))
          refine wpCan_read (.string (bs tx)) rfl rfl (Below.refl _ _) (fun u hu => by obtain ⟨u1, u2⟩ := hSu.out u hu; go_simp) ?_
          repeat (first | refine wpCan_move rfl ?_ | (refine wpCan_cons rfl ?_; intro K hK; go_simp; refine hK _ _ _ ?_; clear hK K))
          refine wpCan_read (.slice A2 ks.length c2) rfl rfl (Below.refl _ _) (fun u hu => by obtain ⟨u1, u2⟩ := hSu.out u hu; go_simp) ?_
          refine wpCan_cons rfl ?_
          intro KK hKK
          go_simp
          refine (hcall.out w4.drew hb5d.out).mono ?_
          rintro e w8 ⟨rfl, hb8⟩
          have hb9 := Lib.hid (ext_trans hb5d.out hb8)
          refine can_ext hb8 (hKK _ _ _ ?_)
          clear hKK KK
          refine wpCan_read (.string (bs (tx ++ K))) rfl rfl (Ext.refl _) (fun u _ => by go_simp <;> omega) ?_
          refine wpCan_read (.string (bs (P ++ (tx ++ K)))) rfl rfl (Ext.refl _) (fun u _ => by go_simp <;> omega) ?_
          repeat (first | refine wpCan_move rfl ?_ | (refine wpCan_cons rfl ?_; intro K hK; go_simp; refine hK _ _ _ ?_; clear hK K))
          refine wpCan_nil ?_
          go_wp2_with fail
          go_roundw
          case rel => exact ⟨k + 1, by omega, by go_num, by rw [hfin.out], hb9⟩
          case measure => simp [intOf]; omega
      · subst hke
        rw [List.take_length, ← hT.out]
        go_wp2_with fail
        go_ret
        exact ⟨rfl, hb.out⟩
/-- a byte in a new block, as a text -/
theorem il_onetext {c : UInt8} {v : Int} (hv : v = (c.toNat : Int)) (w : World) :
    (convert 22 9 (.slice (some ⟨w.heap.size, 0, none⟩) 1 1)).run Tryz.prog (w.alloc (.cells #[.int .u8 v] 5)) = .ok (.string (bs [c])) (w.alloc (.cells #[.int .u8 v] 5)) := by
  subst hv
  refine run_text (c := 1) (l := [c]) (B := w.heap.size + 1) ⟨rfl, fun _ => ⟨w.heap.size, 0, rfl, by omega, fun j u hu => ?_⟩⟩ 22 5 9 Tryz.underlying22 Tryz.underlying5 Tryz.underlying9
  have := cells_new w #[.int .u8 (c.toNat : Int)] 5 rfl j u hu
  rwa [show (⟨w.heap.size, 0, none⟩ : Addr).add j = ⟨w.heap.size, 0 + j, none⟩ from by unfold Addr.add; split <;> simp_all] at this
set_option maxHeartbeats 4000000 in
set_option maxRecDepth 100000 in
theorem rsign_any (c : UInt8) (n : Nat) (hn : n ≤ 1000000000) (w : World) :
    Calls Tryz.prog 73 #[.int .u8 (c.toNat : Int), .int .i64 (n : Int)] w fun e w' => e = .returned (.string (bs (List.replicate n c))) ∧ Below w.heap.size w w' := by
  go_enter Tryz.func73, Tryz.ntmps73
  go_wp2_with fail
  go_loopw [1, 5] (fun u v wr => ∃ k m : Nat, k + m = n ∧ u = .int .i64 (k : Int) ∧ v = .string (bs (List.replicate m c)) ∧ Hid (Below w.heap.size w wr)) (fun u _ _ => (intOf u).toNat)
  case atStart => exact ⟨n, 0, by omega, rfl, rfl, Lib.hid (Below.refl _ _)⟩
  case round =>
    obtain ⟨k, m, hkm, rfl, rfl, hb⟩ := hrel
    rcases Nat.eq_zero_or_pos k with h0 | h0
    · have hmn : m = n := by omega
      subst hmn
      have hk0 : k ≤ 0 := by omega
      go_wp2_with fail
      go_ret
      exact ⟨rfl, hb.out⟩
    · have hone := fun w => il_onetext (c := c) (v := (c.toNat : Int)) rfl w
      have hz1 := bs_size (List.replicate m c)
      rw [List.length_replicate] at hz1
      have hz2 := bs_size [c]
      simp only [List.length_cons, List.length_nil] at hz2
      have hcat : bs (List.replicate m c) ++ bs [c] = bs (List.replicate (m + 1) c) := by rw [bs_append, List.replicate_succ']
      obtain ⟨S, hS⟩ : ∃ S, S = List.replicate m c := ⟨_, rfl⟩
      rw [← hS] at hcat hz1 ⊢
      clear hS
      replace hcat := Lib.hid hcat
      go_wp2_with fail
      go_roundw
      case rel => exact ⟨k - 1, m + 1, by omega, by congr 1; omega, by rw [hcat.out], Lib.hid (hb.out.alloc hb.out.size _)⟩
      case measure => simp [intOf]; omega
end Go.Proofs.YtkfhkfagmokjpaaGreatDoor

namespace Go.Proofs.YtkfhkfagmokjpaaGreatDoor
open Go.RowKit
attribute [local go_sem] canOp readsAs readUpon

theorem inlEI : EI Tryz.prog 33 41 4 64 := EI.mk' (z := .agg #[.int .i64 0, .string ⟨#[]⟩, .string ⟨#[]⟩, .slice none 0 0]) Tryz.underlying33 (by kernel_rfl) rfl (by omega)

namespace Il
def tlen : In → Nat
  | .mk _ t _ _ => t.length
def otlen (o : List In) : Nat := (o.map tlen).sum
def heft (l : List Pt) : Nat := (l.map fun p => tlen (eff p)).sum
theorem otlen_snoc (o : List In) (x : In) : otlen (o ++ [x]) = otlen o + tlen x := by simp [otlen]
theorem heft_take {l : List Pt} {k : Nat} (h : k < l.length) : heft (l.take (k + 1)) = heft (l.take k) + tlen (eff l[k]) := by
  unfold heft; rw [List.take_succ_eq_append_getElem h, List.map_append, List.sum_append]; simp
theorem heft_part (l : List Pt) (k : Nat) : heft (l.take k) ≤ heft l := by
  unfold heft
  conv => rhs; rw [← List.take_append_drop k l, List.map_append, List.sum_append]
  omega
theorem settle_take {l : List Pt} {k : Nat} (h : k < l.length) : settle (l.take (k + 1)) = iput (settle (l.take k)) (eff l[k]) := by
  unfold settle; rw [List.take_succ_eq_append_getElem h, List.foldl_append]; rfl
theorem iput_empty (o : List In) (d : List UInt8) (ks : List In) : iput o (.mk 0 [] d ks) = o := by simp [iput]
theorem iput_join (o : List In) {t : List UInt8} (h : t ≠ []) (t' d' d : List UInt8) (ks' ks : List In) : iput (o ++ [.mk 0 t' d' ks']) (.mk 0 t d ks) = o ++ [.mk 0 (t' ++ t) d' ks'] := by simp [iput, h]
theorem iput_kind (o : List In) {kd : Nat} (h : kd ≠ 0) (t d : List UInt8) (ks : List In) : iput o (.mk kd t d ks) = o ++ [.mk kd t d ks] := by
  cases kd with
  | zero => exact absurd rfl h
  | succ n => rfl
theorem iput_first {t : List UInt8} (h : t ≠ []) (d : List UInt8) (ks : List In) : iput [] (.mk 0 t d ks) = [.mk 0 t d ks] := by simp [iput, h]
theorem iput_apart (o : List In) {t : List UInt8} (h : t ≠ []) {kd' : Nat} (hk : kd' ≠ 0) (t' d' d : List UInt8) (ks' ks : List In) : iput (o ++ [.mk kd' t' d' ks']) (.mk 0 t d ks) = o ++ [.mk kd' t' d' ks'] ++ [.mk 0 t d ks] := by
  cases kd' with
  | zero => exact absurd rfl hk
  | succ n => simp [iput, h]
theorem eff_none (kd : Nat) (t d : List UInt8) (ks : List In) (n : Nat) (c : UInt8) : eff ⟨.mk kd t d ks, none, n, c⟩ = .mk kd t d ks := rfl
theorem eff_some (kd : Nat) (t d : List UInt8) (ks : List In) (r n : Nat) (c : UInt8) : eff ⟨.mk kd t d ks, some r, n, c⟩ = .mk kd (List.replicate n c) d ks := rfl
end Il

/-- a part's block: its seven cells -/
def PtAt (w : World) (g : Nat) (kd : Nat) (X de : List UInt8) (A : Option Addr) (n c : Nat) : Prop :=
  w.cell? ⟨g, 0, none⟩ = some (.int .i64 (kd : Int)) ∧ w.cell? ⟨g, 1, none⟩ = some (.string (bs X)) ∧ w.cell? ⟨g, 2, none⟩ = some (.string (bs de)) ∧ w.cell? ⟨g, 3, none⟩ = some (.slice A n c)
theorem set_last {cr : List (List Value)} {n : Nat} (hn : cr.flatten.length = n * 4) (a b c d u : Value) : (cr ++ [[a, b, c, d]]).flatten.set (n * 4 + 1) u = (cr ++ [[a, u, c, d]]).flatten := by
  rw [List.flatten_append, List.flatten_append, List.set_append_right _ _ (by omega), hn, show n * 4 + 1 - n * 4 = 1 by omega]
  rfl

set_option maxHeartbeats 8000000 in
set_option maxRecDepth 100000 in
theorem rsettle_any (l : List Il.Pt) (A : Option Addr) (c : Nat) (css : List (List Value)) (w : World) (Q Q' : Nat → Prop) (hQ : ∀ b, Q b → b < w.heap.size) (hQ' : ∀ b, Q' b → b < w.heap.size) (hl : l.length ≤ 1000000000) (hh : Il.heft l ≤ 1000000000) (hR : RowI w Q' 7 A l.length css.flatten) (hP : PCs w Q l css) :
    Calls Tryz.prog 58 #[.slice A l.length c] w fun e w' => (∃ v css2, e = .returned v ∧ w'.ownsRow w.heap.size 41 4 v (Il.settle l).length css2.flatten ∧ ICs w' Q (Il.settle l) css2) ∧ Below w.heap.size w w' := by
  replace hR := Lib.hid hR
  replace hP := Lib.hid hP
  replace hQ := Lib.hid hQ
  replace hQ' := Lib.hid hQ'
  go_enter Tryz.func58, Tryz.ntmps58
  go_wp2_with fail
  go_loopw [3, 9] (fun v u wr => ∃ (k : Nat) (o : List Il.In) (css2 : List (List Value)), k ≤ l.length ∧ u = .int .i64 (k : Int) ∧ Hid (o = Il.settle (l.take k)) ∧ Hid (wr.ownsRow w.heap.size 41 4 v o.length css2.flatten) ∧ Hid (ICs wr Q o css2) ∧ o.length ≤ k ∧ Il.otlen o ≤ Il.heft (l.take k) ∧ Hid (Below w.heap.size w wr)) (fun _ u _ => l.length - (intOf u).toNat)
  case atStart => exact ⟨0, [], [], by omega, rfl, Lib.hid rfl, Lib.hid (World.ownsRow_nil _ _ _ _), Lib.hid ICs_nil, by simp, by simp [Il.otlen], Lib.hid (Below.refl _ _)⟩
  case round =>
    obtain ⟨k, o, css2, hk, rfl, ho, how, hI, hok, hot, hb⟩ := hrel
    have hbz := hb.out.size
    obtain ⟨A3, c3, rfl, hc3⟩ := own_shape how.out
    by_cases hlt : k < l.length
    · obtain ⟨cs, i1, i2⟩ := PCs_at hP.out hlt
      obtain ⟨b, ofs, rfl, hqb, hcell⟩ := hR.out.2 (by omega)
      have hst := Il.settle_take hlt
      have hhf := Il.heft_take hlt
      have hhp := Il.heft_part l (k + 1)
      rw [← ho.out] at hst
      generalize l[k] = x at i1 hst hhf
      obtain ⟨⟨kd, tx, de, ks⟩, rn, lf, ch⟩ := x
      obtain ⟨A2, c2, css3, rfl, hc2, hr2, hi2⟩ := PC_form i1
      have hbl := hQ'.out _ hqb
      have x0 := (hb.out.cell (p := ⟨b, ofs + (k * 7 + 0), none⟩) hbl).trans (hcell _ _ (i2 0 (by omega)))
      have x1 := (hb.out.cell (p := ⟨b, ofs + (k * 7 + 1), none⟩) hbl).trans (hcell _ _ (i2 1 (by omega)))
      have x2 := (hb.out.cell (p := ⟨b, ofs + (k * 7 + 2), none⟩) hbl).trans (hcell _ _ (i2 2 (by omega)))
      have x3 := (hb.out.cell (p := ⟨b, ofs + (k * 7 + 3), none⟩) hbl).trans (hcell _ _ (i2 3 (by omega)))
      have x4 := (hb.out.cell (p := ⟨b, ofs + (k * 7 + 4), none⟩) hbl).trans (hcell _ _ (i2 4 (by omega)))
      have x5 := (hb.out.cell (p := ⟨b, ofs + (k * 7 + 5), none⟩) hbl).trans (hcell _ _ (i2 5 (by omega)))
      have x6 := (hb.out.cell (p := ⟨b, ofs + (k * 7 + 6), none⟩) hbl).trans (hcell _ _ (i2 6 (by omega)))
      simp only [← Nat.add_assoc, Nat.add_zero] at x0 x1 x2 x3 x4 x5 x6
      have hbr : b < wr.heap.size := Nat.lt_of_lt_of_le hbl hbz
      have hkids : Hid (∀ w', Below w.heap.size w w' → RowI w' Q 4 A2 ks.length css3.flatten ∧ ICs w' Q ks css3) := Lib.hid (fun w' hb' => ⟨hr2.frame (fun b h => hb'.block b (hQ.out b h)) (fun _ h => h), ICs_frame (fun b h => hb'.block b (hQ.out b h)) (fun _ h => h) hi2⟩)
      clear hcell i1 i2 hr2 hi2 ho
      go_upto_region 5 with fail
      generalize hw4 : World.alloc wr _ = w4
      have hb4 : Below wr.heap.size wr w4 := by rw [← hw4]; exact ext_alloc _ _
      have hpt : PtAt w4 wr.heap.size kd tx de A2 ks.length c2 := by rw [← hw4]; exact ⟨World.cell?_alloc_at _ _ _ _ rfl, World.cell?_alloc_at _ _ _ _ rfl, World.cell?_alloc_at _ _ _ _ rfl, World.cell?_alloc_at _ _ _ _ rfl⟩
      have y4 : w4.cell? ⟨wr.heap.size, 4, none⟩ = some (.int .i64 (runI rn)) := by rw [← hw4]; exact World.cell?_alloc_at _ _ _ _ rfl
      have y5 : w4.cell? ⟨wr.heap.size, 5, none⟩ = some (.int .i64 (lf : Int)) := by rw [← hw4]; exact World.cell?_alloc_at _ _ _ _ rfl
      have y6 : w4.cell? ⟨wr.heap.size, 6, none⟩ = some (.int .u8 (ch.toNat : Int)) := by rw [← hw4]; exact World.cell?_alloc_at _ _ _ _ rfl
      have hgz : w4.heap.size = wr.heap.size + 1 := by rw [← hw4]; simp
      have hfz : ∀ j, w4.frozen? ⟨wr.heap.size, j, none⟩ = false := fun j => by rw [← hw4]; exact frozen_of_row _ _ j _ _ (heap_alloc_new wr _)
      clear hw4 x0 x1 x2 x3 x4 x5 x6
      have how4 := Lib.hid (own_below how.out hb4)
      have hI4 := Lib.hid (ICs_frame (Q := Q) (Q' := Q) (fun b h => hb4.block b (Nat.lt_of_lt_of_le (hQ.out b h) hbz)) (fun _ h => h) hI.out)
      have hb5 := Lib.hid (ext_trans hb.out hb4)
      have hvg : Hid (∀ g, A3 = some ⟨g, 0, none⟩ → w.heap.size ≤ g ∧ g < wr.heap.size) := Lib.hid (fun g hg => World.ownsRow.lt how.out g (by rw [hg]; rfl))
      clear hb4 hI
      clear how
      obtain ⟨n, hnn⟩ : ∃ n, o.length = n := ⟨_, rfl⟩
      rw [hnn] at hok how4 ⊢
      cases rn with
      | none =>
        rw [Il.eff_none] at hst hhf
        simp only [runI] at y4
        have hpt0 : True := trivial
        obtain ⟨p0, p1, p2, p3⟩ := hpt
        go_upto_region 7 with fail
        generalize hgp : wr.heap.size = gp at p0 p1 p2 p3 hgz hvg ⊢
        have hgp5 : gp < w4.heap.size := by omega
        clear y4 y5 y6 hfz hpt0
        obtain ⟨w5, hw5⟩ : ∃ w5, w5 = w4 := ⟨_, rfl⟩
        rw [← hw5] at p0 p1 p2 p3 hgp5 ⊢
        have how5 := how4
        have hI5 := hI4
        rw [← hw5] at how5 hI5 hb5
        obtain ⟨X, hXX⟩ : ∃ X, X = tx := ⟨_, rfl⟩
        rw [← hXX] at p1 hst hhf
        clear hw5 hXX how4 hI4
        have hn : Hid (o.length = n) := Lib.hid hnn
        have hb5z := hb5.out.size
        have htl : Il.tlen (.mk kd X de ks) = X.length := rfl
        rw [htl] at hhf
        by_cases hk0 : kd = 0
        · have t0 : ((kd : Int) == 0) = true := by simp [hk0]
          by_cases hX : X = []
          · have e0 : ((bs X).toList == []) = true := by rw [hX, bs_toList]; rfl
            have hres : Hid (Il.settle (l.take (k + 1)) = o) := Lib.hid (by rw [hst, hk0, hX, Il.iput_empty])
            clear hst hk0 hX
            go_wp2_with fail
            go_roundw
            case rel => exact ⟨k + 1, o, css2, hlt, by go_num, Lib.hid hres.out.symm, Lib.hid (by rw [hn.out]; exact how5.out), hI5, by omega, by omega, hb5⟩
            case measure => simp [intOf]; omega
          · have e0 : ((bs X).toList == []) = false := by rw [bs_toList]; simpa using hX
            rcases List.eq_nil_or_concat o with ho0 | ⟨o', x, ho0⟩
            · have hres : Hid (Il.settle (l.take (k + 1)) = o ++ [.mk kd X de ks]) := Lib.hid (by rw [hst, hk0, ho0, Il.iput_first hX]; rfl)
              have hn0 : n ≤ 0 := by rw [← hn.out, ho0]; simp
              clear hst hk0 hX ho0
              go_wp2_with (at_builtin; refine wpList_app_new rfl (.tmp 64) (.tmp 67) rfl inlEI rfl how5.out rfl (by first | rfl | simp) rfl (by intro u hu; simp at hu; rcases hu with rfl | rfl | rfl | rfl <;> rfl) (by omega) (by omega) hb5z ?_; intro v2 w8 hown2 hg2 hb8)
              have hb9 := hb5.out.trans hb8
              have hI9 := ICs_frame (Q := Q) (Q' := Q) (fun b h => hb8.block b (hQ.out b h)) (fun _ h => h) hI5.out
              have hk9 := hkids.out w8 hb9
              go_roundw
              case rel => exact ⟨k + 1, o ++ [.mk kd X de ks], css2 ++ [[.int .i64 (kd : Int), .string (bs X), .string (bs de), .slice A2 ks.length c2]], hlt, by go_num, Lib.hid hres.out.symm, Lib.hid (by rw [List.length_append, List.flatten_append]; simpa [hn.out] using hown2), Lib.hid (ICs_snoc hI9 (by unfold IC; exact ⟨A2, c2, css3, rfl, hc2, hk9.1, hk9.2⟩)), by rw [List.length_append]; simp; omega, by rw [Il.otlen_snoc]; omega, Lib.hid hb9⟩
              case measure => simp [intOf]; omega
            · rw [List.concat_eq_append] at ho0
              obtain ⟨kd', t', d', ks'⟩ := x
              obtain ⟨m, hm⟩ : ∃ m, n = m + 1 := ⟨o'.length, by rw [← hn.out, ho0]; simp⟩
              have hom : o'.length = m := by have := hn.out; rw [ho0] at this; simp at this; omega
              subst hm
              have hI5' := hI5.out
              rw [ho0] at hI5'
              obtain ⟨cr, cl, hcs, hIr, hIl⟩ := ICs_last hI5'
              obtain ⟨A7, c7, css7, rfl, hc7, hr7, hi7⟩ := IC_form hIl
              have hrl := ICs_length hIr
              rw [hom] at hrl
              obtain ⟨g, rfl⟩ : ∃ g, A3 = some ⟨g, 0, none⟩ := by
                rcases how5.out.2 with ⟨hv, h0⟩ | ⟨g, cap, cur, hv, _⟩
                · omega
                · injection hv with h1 _ _; exact ⟨g, h1⟩
              obtain ⟨hg1, hg2⟩ := hvg.out g rfl
              have hfl : css2.flatten = cr.flatten ++ [Value.int .i64 (kd' : Int), Value.string (bs t'), Value.string (bs d'), Value.slice A7 ks'.length c7] := by rw [hcs, List.flatten_append]; rfl
              have z0 := il_own_cell how5.out (j := m * 4) (u := .int .i64 (kd' : Int)) (by rw [hfl, List.getElem?_append_right (by omega), hrl, Nat.sub_self]; rfl)
              have z1 := il_own_cell how5.out (j := m * 4 + 1) (u := .string (bs t')) (by rw [hfl, List.getElem?_append_right (by omega), hrl, show m * 4 + 1 - m * 4 = 1 by omega]; rfl)
              have hg5 : g < w5.heap.size := by omega
              by_cases hk1 : kd' = 0
              · have t1 : ((kd' : Int) == 0) = true := by simp [hk1]
                have hres : Hid (Il.settle (l.take (k + 1)) = o' ++ [.mk 0 (t' ++ X) d' ks']) := Lib.hid (by rw [hst, hk0, ho0, hk1, Il.iput_join o' hX])
                have hot' : Il.otlen o = Il.otlen o' + t'.length := by rw [ho0, Il.otlen_snoc]; rfl
                have hzt := bs_size t'
                have hzx := bs_size X
                have hcat : bs t' ++ bs X = bs (t' ++ X) := bs_append t' X
                have hst2 := how5.out.stored (m * 4 + 1) (.string (bs (t' ++ X)))
                have hfz5 := how5.out.frozenAt (m * 4 + 1)
                have hsl : css2.flatten.set (m * 4 + 1) (.string (bs (t' ++ X))) = (cr ++ [[Value.int .i64 (kd' : Int), Value.string (bs (t' ++ X)), Value.string (bs d'), Value.slice A7 ks'.length c7]]).flatten := by rw [hcs]; exact set_last hrl _ _ _ _ _
                rw [hsl] at hst2
                have hst3 := Lib.hid hst2.1
                have hnb : ∀ b, Q b → b ≠ g := fun b h => by have := hQ.out b h; omega
                have hfr : ∀ b, b ≠ g → (w5.setCell ⟨g, m * 4 + 1, none⟩ (.string (bs (t' ++ X)))).heap[b]? = w5.heap[b]? := fun b h => Below.heap_setCell _ _ _ _ h
                have hI9 := Lib.hid (ICs_snoc (ICs_frame (Q := Q) (Q' := Q) (fun b h => hfr b (hnb b h)) (fun _ h => h) hIr) (show IC (w5.setCell ⟨g, m * 4 + 1, none⟩ (.string (bs (t' ++ X)))) Q (.mk 0 (t' ++ X) d' ks') [.int .i64 (kd' : Int), .string (bs (t' ++ X)), .string (bs d'), .slice A7 ks'.length c7] from by
                  unfold IC; exact ⟨A7, c7, css7, by rw [hk1], hc7, hr7.frame (fun b h => hfr b (hnb b h)) (fun _ h => h), ICs_frame (fun b h => hfr b (hnb b h)) (fun _ h => h) hi7⟩))
                have hb9 := Lib.hid (hb5.out.setCell (p := ⟨g, m * 4 + 1, none⟩) hg1 (.string (bs (t' ++ X))))
                have hSu : ∀ u : World, u.cell? ⟨gp, 1, none⟩ = some (.string (bs X)) → u.cell? ⟨gp, 1, none⟩ = some (.string (bs X)) := fun u h => h
                have hgg : gp ≠ g := by omega
                have hwm : IntKind.i64.wrap (m : Int) = (m : Int) := by rw [IntKind.wrap_i64]; omega
                have hm0 : (0 : Int) ≤ (m : Int) := by omega
                have hm1 : (m : Int) < (m : Int) + 1 := by omega
                clear hst hk0 hX hk1 hsl hst2 hIr hIl hr7 hi7 hfl ho0 hcs hI5' hfr hnb
                go_upto_region 10 with fail
                refine wp_region_tree (.rd 0 (.rd 1 (.rd 2 (.rd 3 (.rd 4 (.rd 6 (.rd 7 (.rd 8 (.mk 5 (.rd 9 (.rd 10 (.rd 11 (.mk 12 .fin))))))))))))) (fun u => u.cell? ⟨gp, 1, none⟩ = some (.string (bs X))) p1 (by kernel_rfl) (by kernel_rfl) (by kernel_rfl) (fun _ _ d _ _ h => by cases d <;> exact h) ?_
                (first | refine wpT_move rfl ?_ | (refine wpT_rd rfl ?_; intro K hK; go_simp; refine hK _ _ _ ?_; clear hK K))
                (first | refine wpT_move rfl ?_ | (refine wpT_rd rfl ?_; intro K hK; go_simp; refine hK _ _ _ ?_; clear hK K))
                (first | refine wpT_move rfl ?_ | (refine wpT_rd rfl ?_; intro K hK; go_simp; refine hK _ _ _ ?_; clear hK K))
                (first | refine wpT_move rfl ?_ | (refine wpT_rd rfl ?_; intro K hK; go_simp; refine hK _ _ _ ?_; clear hK K))
                (first | refine wpT_move rfl ?_ | (refine wpT_rd rfl ?_; intro K hK; go_simp; refine hK _ _ _ ?_; clear hK K))
                (first | refine wpT_move rfl ?_ | (refine wpT_rd rfl ?_; intro K hK; go_simp; refine hK _ _ _ ?_; clear hK K))
                (first | refine wpT_move rfl ?_ | (refine wpT_rd rfl ?_; intro K hK; go_simp; refine hK _ _ _ ?_; clear hK K))
                refine wpT_read (.string (bs X)) rfl rfl p1 (fun u hu => by go_simp) ?_
                (refine wpT_mk rfl ?_; intro K hK; go_simp; refine ⟨fun u => u.cell? ⟨gp, 1, none⟩ = some (.string (bs X)), p1, fun _ h => h, hK _ _ _ ?_⟩; clear hK K)
                refine wpT_read (.string (bs (t' ++ X))) rfl rfl p1 (fun u hu => by go_simp <;> omega) ?_
                (first | refine wpT_move rfl ?_ | (refine wpT_rd rfl ?_; intro K hK; go_simp; refine hK _ _ _ ?_; clear hK K))
                (first | refine wpT_move rfl ?_ | (refine wpT_rd rfl ?_; intro K hK; go_simp; refine hK _ _ _ ?_; clear hK K))
                (refine wpT_mk rfl ?_; intro K hK; go_simp; refine ⟨fun u => u.cell? ⟨gp, 1, none⟩ = some (.string (bs X)), (World.cell?_setCell_other w5 ⟨g, m * 4 + 1, none⟩ ⟨gp, 1, none⟩ _ (by intro h; injection h with h2 _ _; exact hgg h2.symm)).trans p1, fun _ h => h, hK _ _ _ ?_⟩; clear hK K)
                refine wpT_fin ?_
                go_wp2_with fail
                go_roundw
                case rel => exact ⟨k + 1, o' ++ [.mk 0 (t' ++ X) d' ks'], cr ++ [[.int .i64 (kd' : Int), .string (bs (t' ++ X)), .string (bs d'), .slice A7 ks'.length c7]], hlt, by go_num, Lib.hid hres.out.symm, Lib.hid (by rw [List.length_append, hom]; exact hst3.out), Lib.hid (ICs_frame (w := w5.setCell ⟨g, m * 4 + 1, none⟩ (.string (bs (t' ++ X)))) (w' := (w5.setCell ⟨g, m * 4 + 1, none⟩ (.string (bs (t' ++ X)))).drew) (Q := Q) (Q' := Q) (fun _ _ => rfl) (fun _ h => h) hI9.out), by rw [List.length_append, hom]; simp; omega, by rw [Il.otlen_snoc]; show Il.otlen o' + (t' ++ X).length ≤ _; rw [List.length_append]; omega, Lib.hid hb9.out.drew⟩
                case measure => simp [intOf]; omega
              · have t1 : ((kd' : Int) == 0) = false := by simp; omega
                have hres : Hid (Il.settle (l.take (k + 1)) = o ++ [.mk kd X de ks]) := Lib.hid (by rw [hst, hk0, ho0, Il.iput_apart o' hX hk1])
                clear hst hk0 hX hk1 hIr hIl hr7 hi7 hfl ho0 hcs hI5'
                go_wp2_with (at_builtin; refine wpList_app_new rfl (.tmp 64) (.tmp 67) rfl inlEI rfl how5.out rfl (by first | rfl | simp) rfl (by intro u hu; simp at hu; rcases hu with rfl | rfl | rfl | rfl <;> rfl) (by omega) (by omega) hb5z ?_; intro v2 w8 hown2 hg2 hb8)
                have hb9 := hb5.out.trans hb8
                have hI9 := ICs_frame (Q := Q) (Q' := Q) (fun b h => hb8.block b (hQ.out b h)) (fun _ h => h) hI5.out
                have hk9 := hkids.out w8 hb9
                go_roundw
                case rel => exact ⟨k + 1, o ++ [.mk kd X de ks], css2 ++ [[.int .i64 (kd : Int), .string (bs X), .string (bs de), .slice A2 ks.length c2]], hlt, by go_num, Lib.hid hres.out.symm, Lib.hid (by rw [List.length_append, List.flatten_append]; simpa [hn.out] using hown2), Lib.hid (ICs_snoc hI9 (by unfold IC; exact ⟨A2, c2, css3, rfl, hc2, hk9.1, hk9.2⟩)), by rw [List.length_append]; simp; omega, by rw [Il.otlen_snoc]; omega, Lib.hid hb9⟩
                case measure => simp [intOf]; omega
        · have t0 : ((kd : Int) == 0) = false := by simp; omega
          have hres : Hid (Il.settle (l.take (k + 1)) = o ++ [.mk kd X de ks]) := Lib.hid (by rw [hst, Il.iput_kind o hk0])
          clear hst hk0
          have hnc : n ≤ 0 ∨ 0 < n := by omega
          rcases hnc with hn0 | hn0
          · skip
            go_wp2_with (at_builtin; refine wpList_app_new rfl (.tmp 64) (.tmp 67) rfl inlEI rfl how5.out rfl (by first | rfl | simp) rfl (by intro u hu; simp at hu; rcases hu with rfl | rfl | rfl | rfl <;> rfl) (by omega) (by omega) hb5z ?_; intro v2 w8 hown2 hg2 hb8)
            have hb9 := hb5.out.trans hb8
            have hI9 := ICs_frame (Q := Q) (Q' := Q) (fun b h => hb8.block b (hQ.out b h)) (fun _ h => h) hI5.out
            have hk9 := hkids.out w8 hb9
            go_roundw
            case rel => exact ⟨k + 1, o ++ [.mk kd X de ks], css2 ++ [[.int .i64 (kd : Int), .string (bs X), .string (bs de), .slice A2 ks.length c2]], hlt, by go_num, Lib.hid hres.out.symm, Lib.hid (by rw [List.length_append, List.flatten_append]; simpa [hn.out] using hown2), Lib.hid (ICs_snoc hI9 (by unfold IC; exact ⟨A2, c2, css3, rfl, hc2, hk9.1, hk9.2⟩)), by rw [List.length_append]; simp; omega, by rw [Il.otlen_snoc]; omega, Lib.hid hb9⟩
            case measure => simp [intOf]; omega
          · skip
            go_wp2_with (at_builtin; refine wpList_app_new rfl (.tmp 64) (.tmp 67) rfl inlEI rfl how5.out rfl (by first | rfl | simp) rfl (by intro u hu; simp at hu; rcases hu with rfl | rfl | rfl | rfl <;> rfl) (by omega) (by omega) hb5z ?_; intro v2 w8 hown2 hg2 hb8)
            have hb9 := hb5.out.trans hb8
            have hI9 := ICs_frame (Q := Q) (Q' := Q) (fun b h => hb8.block b (hQ.out b h)) (fun _ h => h) hI5.out
            have hk9 := hkids.out w8 hb9
            go_roundw
            case rel => exact ⟨k + 1, o ++ [.mk kd X de ks], css2 ++ [[.int .i64 (kd : Int), .string (bs X), .string (bs de), .slice A2 ks.length c2]], hlt, by go_num, Lib.hid hres.out.symm, Lib.hid (by rw [List.length_append, List.flatten_append]; simpa [hn.out] using hown2), Lib.hid (ICs_snoc hI9 (by unfold IC; exact ⟨A2, c2, css3, rfl, hc2, hk9.1, hk9.2⟩)), by rw [List.length_append]; simp; omega, by rw [Il.otlen_snoc]; omega, Lib.hid hb9⟩
            case measure => simp [intOf]; omega
      | some r =>
        rw [Il.eff_some] at hst hhf
        simp only [runI] at y4
        have hlf : lf ≤ 1000000000 := by simp only [Il.tlen, List.length_replicate] at hhf; omega
        have hpt0 : True := trivial
        obtain ⟨p0, p1, p2, p3⟩ := hpt
        have hr0 : (0 : Int) ≤ (r : Int) := by omega
        go_wp2_with fail
        refine (rsign_any ch lf hlf _).mono ?_
        rintro e w6 ⟨rfl, hb6⟩
        have hfz6 : w6.frozen? ⟨wr.heap.size, 1, none⟩ = false := by
          have := hfz 1
          unfold World.frozen? at this ⊢
          rw [hb6.block wr.heap.size (by omega)]
          exact this
        have q1 := (hb6.cell (p := ⟨wr.heap.size, 1, none⟩) (by show wr.heap.size < _; omega)).trans p1
        have q0 := (hb6.cell (p := ⟨wr.heap.size, 0, none⟩) (by show wr.heap.size < _; omega)).trans p0
        have q2 := (hb6.cell (p := ⟨wr.heap.size, 2, none⟩) (by show wr.heap.size < _; omega)).trans p2
        have q3 := (hb6.cell (p := ⟨wr.heap.size, 3, none⟩) (by show wr.heap.size < _; omega)).trans p3
        have hb6z := hb6.size
        obtain ⟨X, hXX⟩ : ∃ X, X = List.replicate lf ch := ⟨_, rfl⟩
        rw [← hXX] at hst hhf ⊢
        clear hXX
        have hset : ∀ j, j ≠ 1 → (w6.setCell ⟨wr.heap.size, 1, none⟩ (.string (bs X))).cell? ⟨wr.heap.size, j, none⟩ = w6.cell? ⟨wr.heap.size, j, none⟩ := fun j hj => World.cell?_setCell_other w6 ⟨wr.heap.size, 1, none⟩ ⟨wr.heap.size, j, none⟩ _ (by intro h; injection h with _ h2 _; exact hj h2.symm)
        have hs1 : (w6.setCell ⟨wr.heap.size, 1, none⟩ (.string (bs X))).cell? ⟨wr.heap.size, 1, none⟩ = some (.string (bs X)) := World.cell?_setCell_same w6 ⟨wr.heap.size, 1, none⟩ _ q1
        have hfr : ∀ b, b ≠ wr.heap.size → (w6.setCell ⟨wr.heap.size, 1, none⟩ (.string (bs X))).heap[b]? = w6.heap[b]? := fun b h => Below.heap_setCell _ _ _ _ h
        go_upto_region 7 with fail
        generalize hw5 : World.setCell w6 ⟨wr.heap.size, 1, none⟩ (.string (bs X)) = w5 at hset hs1 hfr ⊢
        have hw5z : w6.heap.size ≤ w5.heap.size := by rw [← hw5]; simp [World.setCell]
        have how5 := Lib.hid (show w5.ownsRow w.heap.size 41 4 (.slice A3 n c3) n css2.flatten from by
          rw [← hw5]
          exact (own_below how4.out hb6).kept (grown_set w6 ⟨wr.heap.size, 1, none⟩ _) (by
            rcases A3 with _ | ad
            · exact .inl rfl
            · refine .inr fun he => ?_
              rcases how4.out.2 with ⟨hv, _⟩ | ⟨g, cap, cur, hv, _⟩
              · cases hv
              · injection hv with h1 _ _
                have h2 := (hvg.out g h1).2
                rw [h1] at he
                have he' : g = wr.heap.size := Option.some.inj he
                omega))
        have hI5 := Lib.hid (ICs_frame (w' := w5) (Q := Q) (Q' := Q) (fun b h => (hfr b (by have := hQ.out b h; omega)).trans (hb6.block b (by have := hQ.out b h; omega))) (fun _ h => h) hI4.out)
        have hb5' := Lib.hid (show Below w.heap.size w w5 from by rw [← hw5]; exact (hb5.out.trans (hb6.mono hb5.out.size)).setCell (p := ⟨wr.heap.size, 1, none⟩) hbz _)
        have r0 := (hset 0 (by omega)).trans q0
        have r2 := (hset 2 (by omega)).trans q2
        have r3 := (hset 3 (by omega)).trans q3
        have p1 := hs1
        clear hw5 hset hs1 hfr q0 q1 q2 q3 p0 p2 p3 how4 hI4 hb5 hfz hfz6 y4 y5 y6 hpt0 hb6
        have hb5 := hb5'
        clear hb5'
        generalize hgp : wr.heap.size = gp at r0 p1 r2 r3 hgz hvg hb6z ⊢
        have hgp5 : gp < w5.heap.size := by omega
        have p0 := r0
        have p2 := r2
        have p3 := r3
        clear r0 r2 r3
        have hn : Hid (o.length = n) := Lib.hid hnn
        have hb5z := hb5.out.size
        have htl : Il.tlen (.mk kd X de ks) = X.length := rfl
        rw [htl] at hhf
        by_cases hk0 : kd = 0
        · have t0 : ((kd : Int) == 0) = true := by simp [hk0]
          by_cases hX : X = []
          · have e0 : ((bs X).toList == []) = true := by rw [hX, bs_toList]; rfl
            have hres : Hid (Il.settle (l.take (k + 1)) = o) := Lib.hid (by rw [hst, hk0, hX, Il.iput_empty])
            clear hst hk0 hX
            go_wp2_with fail
            go_roundw
            case rel => exact ⟨k + 1, o, css2, hlt, by go_num, Lib.hid hres.out.symm, Lib.hid (by rw [hn.out]; exact how5.out), hI5, by omega, by omega, hb5⟩
            case measure => simp [intOf]; omega
          · have e0 : ((bs X).toList == []) = false := by rw [bs_toList]; simpa using hX
            rcases List.eq_nil_or_concat o with ho0 | ⟨o', x, ho0⟩
            · have hres : Hid (Il.settle (l.take (k + 1)) = o ++ [.mk kd X de ks]) := Lib.hid (by rw [hst, hk0, ho0, Il.iput_first hX]; rfl)
              have hn0 : n ≤ 0 := by rw [← hn.out, ho0]; simp
              clear hst hk0 hX ho0
              go_wp2_with (at_builtin; refine wpList_app_new rfl (.tmp 64) (.tmp 67) rfl inlEI rfl how5.out rfl (by first | rfl | simp) rfl (by intro u hu; simp at hu; rcases hu with rfl | rfl | rfl | rfl <;> rfl) (by omega) (by omega) hb5z ?_; intro v2 w8 hown2 hg2 hb8)
              have hb9 := hb5.out.trans hb8
              have hI9 := ICs_frame (Q := Q) (Q' := Q) (fun b h => hb8.block b (hQ.out b h)) (fun _ h => h) hI5.out
              have hk9 := hkids.out w8 hb9
              go_roundw
              case rel => exact ⟨k + 1, o ++ [.mk kd X de ks], css2 ++ [[.int .i64 (kd : Int), .string (bs X), .string (bs de), .slice A2 ks.length c2]], hlt, by go_num, Lib.hid hres.out.symm, Lib.hid (by rw [List.length_append, List.flatten_append]; simpa [hn.out] using hown2), Lib.hid (ICs_snoc hI9 (by unfold IC; exact ⟨A2, c2, css3, rfl, hc2, hk9.1, hk9.2⟩)), by rw [List.length_append]; simp; omega, by rw [Il.otlen_snoc]; omega, Lib.hid hb9⟩
              case measure => simp [intOf]; omega
            · rw [List.concat_eq_append] at ho0
              obtain ⟨kd', t', d', ks'⟩ := x
              obtain ⟨m, hm⟩ : ∃ m, n = m + 1 := ⟨o'.length, by rw [← hn.out, ho0]; simp⟩
              have hom : o'.length = m := by have := hn.out; rw [ho0] at this; simp at this; omega
              subst hm
              have hI5' := hI5.out
              rw [ho0] at hI5'
              obtain ⟨cr, cl, hcs, hIr, hIl⟩ := ICs_last hI5'
              obtain ⟨A7, c7, css7, rfl, hc7, hr7, hi7⟩ := IC_form hIl
              have hrl := ICs_length hIr
              rw [hom] at hrl
              obtain ⟨g, rfl⟩ : ∃ g, A3 = some ⟨g, 0, none⟩ := by
                rcases how5.out.2 with ⟨hv, h0⟩ | ⟨g, cap, cur, hv, _⟩
                · omega
                · injection hv with h1 _ _; exact ⟨g, h1⟩
              obtain ⟨hg1, hg2⟩ := hvg.out g rfl
              have hfl : css2.flatten = cr.flatten ++ [Value.int .i64 (kd' : Int), Value.string (bs t'), Value.string (bs d'), Value.slice A7 ks'.length c7] := by rw [hcs, List.flatten_append]; rfl
              have z0 := il_own_cell how5.out (j := m * 4) (u := .int .i64 (kd' : Int)) (by rw [hfl, List.getElem?_append_right (by omega), hrl, Nat.sub_self]; rfl)
              have z1 := il_own_cell how5.out (j := m * 4 + 1) (u := .string (bs t')) (by rw [hfl, List.getElem?_append_right (by omega), hrl, show m * 4 + 1 - m * 4 = 1 by omega]; rfl)
              have hg5 : g < w5.heap.size := by omega
              by_cases hk1 : kd' = 0
              · have t1 : ((kd' : Int) == 0) = true := by simp [hk1]
                have hres : Hid (Il.settle (l.take (k + 1)) = o' ++ [.mk 0 (t' ++ X) d' ks']) := Lib.hid (by rw [hst, hk0, ho0, hk1, Il.iput_join o' hX])
                have hot' : Il.otlen o = Il.otlen o' + t'.length := by rw [ho0, Il.otlen_snoc]; rfl
                have hzt := bs_size t'
                have hzx := bs_size X
                have hcat : bs t' ++ bs X = bs (t' ++ X) := bs_append t' X
                have hst2 := how5.out.stored (m * 4 + 1) (.string (bs (t' ++ X)))
                have hfz5 := how5.out.frozenAt (m * 4 + 1)
                have hsl : css2.flatten.set (m * 4 + 1) (.string (bs (t' ++ X))) = (cr ++ [[Value.int .i64 (kd' : Int), Value.string (bs (t' ++ X)), Value.string (bs d'), Value.slice A7 ks'.length c7]]).flatten := by rw [hcs]; exact set_last hrl _ _ _ _ _
                rw [hsl] at hst2
                have hst3 := Lib.hid hst2.1
                have hnb : ∀ b, Q b → b ≠ g := fun b h => by have := hQ.out b h; omega
                have hfr : ∀ b, b ≠ g → (w5.setCell ⟨g, m * 4 + 1, none⟩ (.string (bs (t' ++ X)))).heap[b]? = w5.heap[b]? := fun b h => Below.heap_setCell _ _ _ _ h
                have hI9 := Lib.hid (ICs_snoc (ICs_frame (Q := Q) (Q' := Q) (fun b h => hfr b (hnb b h)) (fun _ h => h) hIr) (show IC (w5.setCell ⟨g, m * 4 + 1, none⟩ (.string (bs (t' ++ X)))) Q (.mk 0 (t' ++ X) d' ks') [.int .i64 (kd' : Int), .string (bs (t' ++ X)), .string (bs d'), .slice A7 ks'.length c7] from by
                  unfold IC; exact ⟨A7, c7, css7, by rw [hk1], hc7, hr7.frame (fun b h => hfr b (hnb b h)) (fun _ h => h), ICs_frame (fun b h => hfr b (hnb b h)) (fun _ h => h) hi7⟩))
                have hb9 := Lib.hid (hb5.out.setCell (p := ⟨g, m * 4 + 1, none⟩) hg1 (.string (bs (t' ++ X))))
                have hSu : ∀ u : World, u.cell? ⟨gp, 1, none⟩ = some (.string (bs X)) → u.cell? ⟨gp, 1, none⟩ = some (.string (bs X)) := fun u h => h
                have hgg : gp ≠ g := by omega
                have hwm : IntKind.i64.wrap (m : Int) = (m : Int) := by rw [IntKind.wrap_i64]; omega
                have hm0 : (0 : Int) ≤ (m : Int) := by omega
                have hm1 : (m : Int) < (m : Int) + 1 := by omega
                clear hst hk0 hX hk1 hsl hst2 hIr hIl hr7 hi7 hfl ho0 hcs hI5' hfr hnb
                go_upto_region 10 with fail
                refine wp_region_tree (.rd 0 (.rd 1 (.rd 2 (.rd 3 (.rd 4 (.rd 6 (.rd 7 (.rd 8 (.mk 5 (.rd 9 (.rd 10 (.rd 11 (.mk 12 .fin))))))))))))) (fun u => u.cell? ⟨gp, 1, none⟩ = some (.string (bs X))) p1 (by kernel_rfl) (by kernel_rfl) (by kernel_rfl) (fun _ _ d _ _ h => by cases d <;> exact h) ?_
                (first | refine wpT_move rfl ?_ | (refine wpT_rd rfl ?_; intro K hK; go_simp; refine hK _ _ _ ?_; clear hK K))
                (first | refine wpT_move rfl ?_ | (refine wpT_rd rfl ?_; intro K hK; go_simp; refine hK _ _ _ ?_; clear hK K))
                (first | refine wpT_move rfl ?_ | (refine wpT_rd rfl ?_; intro K hK; go_simp; refine hK _ _ _ ?_; clear hK K))
                (first | refine wpT_move rfl ?_ | (refine wpT_rd rfl ?_; intro K hK; go_simp; refine hK _ _ _ ?_; clear hK K))
                (first | refine wpT_move rfl ?_ | (refine wpT_rd rfl ?_; intro K hK; go_simp; refine hK _ _ _ ?_; clear hK K))
                (first | refine wpT_move rfl ?_ | (refine wpT_rd rfl ?_; intro K hK; go_simp; refine hK _ _ _ ?_; clear hK K))
                (first | refine wpT_move rfl ?_ | (refine wpT_rd rfl ?_; intro K hK; go_simp; refine hK _ _ _ ?_; clear hK K))
                refine wpT_read (.string (bs X)) rfl rfl p1 (fun u hu => by go_simp) ?_
                (refine wpT_mk rfl ?_; intro K hK; go_simp; refine ⟨fun u => u.cell? ⟨gp, 1, none⟩ = some (.string (bs X)), p1, fun _ h => h, hK _ _ _ ?_⟩; clear hK K)
                refine wpT_read (.string (bs (t' ++ X))) rfl rfl p1 (fun u hu => by go_simp <;> omega) ?_
                (first | refine wpT_move rfl ?_ | (refine wpT_rd rfl ?_; intro K hK; go_simp; refine hK _ _ _ ?_; clear hK K))
                (first | refine wpT_move rfl ?_ | (refine wpT_rd rfl ?_; intro K hK; go_simp; refine hK _ _ _ ?_; clear hK K))
                (refine wpT_mk rfl ?_; intro K hK; go_simp; refine ⟨fun u => u.cell? ⟨gp, 1, none⟩ = some (.string (bs X)), (World.cell?_setCell_other w5 ⟨g, m * 4 + 1, none⟩ ⟨gp, 1, none⟩ _ (by intro h; injection h with h2 _ _; exact hgg h2.symm)).trans p1, fun _ h => h, hK _ _ _ ?_⟩; clear hK K)
                refine wpT_fin ?_
                go_wp2_with fail
                go_roundw
                case rel => exact ⟨k + 1, o' ++ [.mk 0 (t' ++ X) d' ks'], cr ++ [[.int .i64 (kd' : Int), .string (bs (t' ++ X)), .string (bs d'), .slice A7 ks'.length c7]], hlt, by go_num, Lib.hid hres.out.symm, Lib.hid (by rw [List.length_append, hom]; exact hst3.out), Lib.hid (ICs_frame (w := w5.setCell ⟨g, m * 4 + 1, none⟩ (.string (bs (t' ++ X)))) (w' := (w5.setCell ⟨g, m * 4 + 1, none⟩ (.string (bs (t' ++ X)))).drew) (Q := Q) (Q' := Q) (fun _ _ => rfl) (fun _ h => h) hI9.out), by rw [List.length_append, hom]; simp; omega, by rw [Il.otlen_snoc]; show Il.otlen o' + (t' ++ X).length ≤ _; rw [List.length_append]; omega, Lib.hid hb9.out.drew⟩
                case measure => simp [intOf]; omega
              · have t1 : ((kd' : Int) == 0) = false := by simp; omega
                have hres : Hid (Il.settle (l.take (k + 1)) = o ++ [.mk kd X de ks]) := Lib.hid (by rw [hst, hk0, ho0, Il.iput_apart o' hX hk1])
                clear hst hk0 hX hk1 hIr hIl hr7 hi7 hfl ho0 hcs hI5'
                go_wp2_with (at_builtin; refine wpList_app_new rfl (.tmp 64) (.tmp 67) rfl inlEI rfl how5.out rfl (by first | rfl | simp) rfl (by intro u hu; simp at hu; rcases hu with rfl | rfl | rfl | rfl <;> rfl) (by omega) (by omega) hb5z ?_; intro v2 w8 hown2 hg2 hb8)
                have hb9 := hb5.out.trans hb8
                have hI9 := ICs_frame (Q := Q) (Q' := Q) (fun b h => hb8.block b (hQ.out b h)) (fun _ h => h) hI5.out
                have hk9 := hkids.out w8 hb9
                go_roundw
                case rel => exact ⟨k + 1, o ++ [.mk kd X de ks], css2 ++ [[.int .i64 (kd : Int), .string (bs X), .string (bs de), .slice A2 ks.length c2]], hlt, by go_num, Lib.hid hres.out.symm, Lib.hid (by rw [List.length_append, List.flatten_append]; simpa [hn.out] using hown2), Lib.hid (ICs_snoc hI9 (by unfold IC; exact ⟨A2, c2, css3, rfl, hc2, hk9.1, hk9.2⟩)), by rw [List.length_append]; simp; omega, by rw [Il.otlen_snoc]; omega, Lib.hid hb9⟩
                case measure => simp [intOf]; omega
        · have t0 : ((kd : Int) == 0) = false := by simp; omega
          have hres : Hid (Il.settle (l.take (k + 1)) = o ++ [.mk kd X de ks]) := Lib.hid (by rw [hst, Il.iput_kind o hk0])
          clear hst hk0
          have hnc : n ≤ 0 ∨ 0 < n := by omega
          rcases hnc with hn0 | hn0
          · skip
            go_wp2_with (at_builtin; refine wpList_app_new rfl (.tmp 64) (.tmp 67) rfl inlEI rfl how5.out rfl (by first | rfl | simp) rfl (by intro u hu; simp at hu; rcases hu with rfl | rfl | rfl | rfl <;> rfl) (by omega) (by omega) hb5z ?_; intro v2 w8 hown2 hg2 hb8)
            have hb9 := hb5.out.trans hb8
            have hI9 := ICs_frame (Q := Q) (Q' := Q) (fun b h => hb8.block b (hQ.out b h)) (fun _ h => h) hI5.out
            have hk9 := hkids.out w8 hb9
            go_roundw
            case rel => exact ⟨k + 1, o ++ [.mk kd X de ks], css2 ++ [[.int .i64 (kd : Int), .string (bs X), .string (bs de), .slice A2 ks.length c2]], hlt, by go_num, Lib.hid hres.out.symm, Lib.hid (by rw [List.length_append, List.flatten_append]; simpa [hn.out] using hown2), Lib.hid (ICs_snoc hI9 (by unfold IC; exact ⟨A2, c2, css3, rfl, hc2, hk9.1, hk9.2⟩)), by rw [List.length_append]; simp; omega, by rw [Il.otlen_snoc]; omega, Lib.hid hb9⟩
            case measure => simp [intOf]; omega
          · skip
            go_wp2_with (at_builtin; refine wpList_app_new rfl (.tmp 64) (.tmp 67) rfl inlEI rfl how5.out rfl (by first | rfl | simp) rfl (by intro u hu; simp at hu; rcases hu with rfl | rfl | rfl | rfl <;> rfl) (by omega) (by omega) hb5z ?_; intro v2 w8 hown2 hg2 hb8)
            have hb9 := hb5.out.trans hb8
            have hI9 := ICs_frame (Q := Q) (Q' := Q) (fun b h => hb8.block b (hQ.out b h)) (fun _ h => h) hI5.out
            have hk9 := hkids.out w8 hb9
            go_roundw
            case rel => exact ⟨k + 1, o ++ [.mk kd X de ks], css2 ++ [[.int .i64 (kd : Int), .string (bs X), .string (bs de), .slice A2 ks.length c2]], hlt, by go_num, Lib.hid hres.out.symm, Lib.hid (by rw [List.length_append, List.flatten_append]; simpa [hn.out] using hown2), Lib.hid (ICs_snoc hI9 (by unfold IC; exact ⟨A2, c2, css3, rfl, hc2, hk9.1, hk9.2⟩)), by rw [List.length_append]; simp; omega, by rw [Il.otlen_snoc]; omega, Lib.hid hb9⟩
            case measure => simp [intOf]; omega
    · have hke : k = l.length := by omega
      subst hke
      rw [List.take_length] at ho
      have hbx := hb
      have ho' := ho.out
      subst ho'
      go_wp2_with fail
      go_ret
      exact ⟨⟨_, rfl, _, how.out, hI.out⟩, hbx.out⟩
end Go.Proofs.YtkfhkfagmokjpaaGreatDoor

namespace Go.Proofs.YtkfhkfagmokjpaaGreatDoor.Il

/-- so many signs fewer at a place -/
def lowerP (l : List Pt) (i s : Nat) : List Pt := l.mapIdx fun j p => if j = i then { p with left := p.left - s } else p
theorem lowerP_len (l : List Pt) (i s : Nat) : (lowerP l i s).length = l.length := by simp [lowerP]
/-- what lies between a pair's two runs is put into one -/
def joinPair (l : List Pt) (x : Nat × Nat × Nat) : List Pt :=
  (lowerP (lowerP l (place l x.1) x.2.2) (place l x.2.1) x.2.2).take (place l x.1 + 1) ++
    [⟨.mk (if x.2.2 = 2 then 3 else 2) [] [] (settle ((l.take (place l x.2.1)).drop (place l x.1 + 1))), none, 0, 0⟩] ++
    (lowerP (lowerP l (place l x.1) x.2.2) (place l x.2.1) x.2.2).drop (place l x.2.1)
def stress (l : List Pt) (runs : List Em.R) : List In := settle ((Em.pairs runs).foldl joinPair l)

/-- the runs among the parts -/
def rns (l : List Pt) : List Nat := l.filterMap fun p => p.run
theorem rns_append (a b : List Pt) : rns (a ++ b) = rns a ++ rns b := by simp [rns]
theorem rns_cons (p : Pt) (b : List Pt) : rns (p :: b) = (match p.run with | some r => [r] | none => []) ++ rns b := by
  unfold rns
  rw [List.filterMap_cons]
  cases p.run <;> rfl
theorem mem_rns {l : List Pt} {r : Nat} : r ∈ rns l ↔ ∃ p ∈ l, p.run = some r := by simp [rns]
theorem place_at {A B : List Pt} {p : Pt} {r : Nat} (h : p.run = some r) (hA : ∀ q ∈ A, q.run ≠ some r) : place (A ++ p :: B) r = A.length := by
  refine il_place_yes (by simp) (by simp [h]) fun q hq => ?_
  rw [List.take_left' rfl] at hq
  exact hA q hq
theorem place_split : ∀ {l : List Pt} {r : Nat}, r ∈ rns l → ∃ A p B, l = A ++ p :: B ∧ p.run = some r ∧ ∀ q ∈ A, q.run ≠ some r
  | [], r, h => by simp [rns] at h
  | x :: l, r, h => by
    by_cases hx : x.run = some r
    · exact ⟨[], x, l, rfl, hx, by simp⟩
    · have h2 : r ∈ rns l := by
        obtain ⟨p, hp, hr⟩ := mem_rns.1 h
        rcases List.mem_cons.1 hp with rfl | hp
        · exact absurd hr hx
        · exact mem_rns.2 ⟨p, hp, hr⟩
      obtain ⟨A, p, B, e, h3, h4⟩ := place_split h2
      refine ⟨x :: A, p, B, by rw [e]; rfl, h3, fun q hq => ?_⟩
      rcases List.mem_cons.1 hq with rfl | hq
      · exact hx
      · exact h4 q hq
/-- two runs, the one ahead of the other -/
theorem place_two {l : List Pt} {a b : Nat} (hs : (rns l).Pairwise (· < ·)) (ha : a ∈ rns l) (hb : b ∈ rns l) (hab : a < b) :
    ∃ A p B q C, l = A ++ p :: (B ++ q :: C) ∧ p.run = some a ∧ q.run = some b ∧ place l a = A.length ∧ place l b = A.length + 1 + B.length ∧ (∀ x ∈ rns A, x < a) ∧ (∀ x ∈ rns B, a < x ∧ x < b) ∧ ∀ x ∈ rns C, b < x := by
  obtain ⟨A, p, R, rfl, hp, hA⟩ := place_split ha
  have e1 : rns (A ++ p :: R) = rns A ++ (a :: rns R) := by rw [rns_append, rns_cons, hp]; rfl
  rw [e1] at hs hb
  rw [List.pairwise_append] at hs
  obtain ⟨_, s2, s3⟩ := hs
  rw [List.pairwise_cons] at s2
  have hbR : b ∈ rns R := by
    rcases List.mem_append.1 hb with h | h
    · have := s3 b h a (by simp); omega
    · rcases List.mem_cons.1 h with h | h
      · omega
      · exact h
  obtain ⟨B, q, C, rfl, hq, hB⟩ := place_split hbR
  have e2 : rns (B ++ q :: C) = rns B ++ (b :: rns C) := by rw [rns_append, rns_cons, hq]; rfl
  have s4 := s2.2
  have s5 := s2.1
  rw [e2] at s4 s5
  rw [List.pairwise_append] at s4
  obtain ⟨_, s6, s7⟩ := s4
  rw [List.pairwise_cons] at s6
  have hAl : ∀ x ∈ rns A, x < a := fun x hx => s3 x hx a (by simp)
  refine ⟨A, p, B, q, C, rfl, hp, hq, place_at hp hA, ?_, hAl, fun x hx => ⟨s5 x (by simp [hx]), s7 x hx b (by simp)⟩, fun x hx => s6.1 x hx⟩
  have e3 : A ++ p :: (B ++ q :: C) = (A ++ p :: B) ++ q :: C := by simp
  rw [e3, place_at hq]
  · simp; omega
  · intro y hy hyr
    rcases List.mem_append.1 hy with h | h
    · have := hAl b (mem_rns.2 ⟨y, h, hyr⟩); omega
    · rcases List.mem_cons.1 h with h | h
      · subst h; rw [hp] at hyr; injection hyr with hyr; omega
      · exact hB y h hyr
theorem lowerP_at (A R : List Pt) (p : Pt) (s : Nat) : lowerP (A ++ p :: R) A.length s = A ++ { p with left := p.left - s } :: R := by
  apply List.ext_getElem?
  intro j
  unfold lowerP
  rw [List.getElem?_mapIdx]
  rcases Nat.lt_trichotomy j A.length with h | h | h
  · rw [List.getElem?_append_left h, List.getElem?_append_left h, List.getElem?_eq_getElem h]
    simp only [Option.map_some, if_neg (show ¬ j = A.length by omega)]
  · subst h
    rw [List.getElem?_append_right (Nat.le_refl _), List.getElem?_append_right (Nat.le_refl _), Nat.sub_self]
    simp
  · rw [List.getElem?_append_right (by omega), List.getElem?_append_right (by omega)]
    obtain ⟨m, hm⟩ : ∃ m, j - A.length = m + 1 := ⟨j - A.length - 1, by omega⟩
    rw [hm, List.getElem?_cons_succ, List.getElem?_cons_succ]
    cases R[m]? with
    | none => rfl
    | some x => simp only [Option.map_some, if_neg (show ¬ j = A.length by omega)]
/-- what a pair makes of the parts, part by part -/
theorem joinPair_eq {A B C : List Pt} {p q : Pt} {a b s : Nat} (ha : place (A ++ p :: (B ++ q :: C)) a = A.length) (hb : place (A ++ p :: (B ++ q :: C)) b = A.length + 1 + B.length) :
    joinPair (A ++ p :: (B ++ q :: C)) (a, b, s) = A ++ { p with left := p.left - s } :: (⟨.mk (if s = 2 then 3 else 2) [] [] (settle B), none, 0, 0⟩ :: { q with left := q.left - s } :: C) := by
  unfold joinPair
  simp only [ha, hb]
  have e1 : ∀ p' : Pt, A ++ p' :: (B ++ q :: C) = (A ++ p' :: B) ++ q :: C := fun p' => by simp
  have hl : ∀ p' : Pt, (A ++ p' :: B).length = A.length + 1 + B.length := fun p' => by simp; omega
  rw [lowerP_at]
  have e2 := lowerP_at (A ++ { p with left := p.left - s } :: B) C q s
  rw [hl] at e2
  rw [e1, e2]
  have e3 : (A ++ { p with left := p.left - s } :: B ++ { q with left := q.left - s } :: C).take (A.length + 1) = A ++ [{ p with left := p.left - s }] := by
    have : A ++ { p with left := p.left - s } :: B ++ { q with left := q.left - s } :: C = (A ++ [{ p with left := p.left - s }]) ++ (B ++ { q with left := q.left - s } :: C) := by simp
    rw [this]; exact List.take_left' (by simp)
  have e4 : (A ++ { p with left := p.left - s } :: B ++ { q with left := q.left - s } :: C).drop (A.length + 1 + B.length) = { q with left := q.left - s } :: C := List.drop_left' (hl _)
  have e5 : ((A ++ p :: (B ++ q :: C)).take (A.length + 1 + B.length)).drop (A.length + 1) = B := by
    rw [e1, List.take_left' (hl p)]
    have : A ++ p :: B = (A ++ [p]) ++ B := by simp
    rw [this]; exact List.drop_left' (by simp)
  rw [e3, e4, e5]
  simp
theorem rns_one (p : Pt) (R : List Pt) {r : Nat} (h : p.run = some r) : rns (p :: R) = r :: rns R := by rw [rns_cons, h]; rfl
/-- behind a pair: the runs between its two are gone, all others are there -/
theorem rns_join {l : List Pt} {a b s : Nat} (hs : (rns l).Pairwise (· < ·)) (ha : a ∈ rns l) (hb : b ∈ rns l) (hab : a < b) :
    (rns (joinPair l (a, b, s))).Pairwise (· < ·) ∧ ∀ r, r ∈ rns l → ¬ (a < r ∧ r < b) → r ∈ rns (joinPair l (a, b, s)) := by
  obtain ⟨A, p, B, q, C, rfl, hp, hq, h1, h2, h3, h4, h5⟩ := place_two hs ha hb hab
  rw [joinPair_eq h1 h2]
  have e1 : rns (A ++ p :: (B ++ q :: C)) = rns A ++ (a :: (rns B ++ (b :: rns C))) := by rw [rns_append, rns_one p _ hp, rns_append, rns_one q _ hq]
  have e2 : rns (A ++ { p with left := p.left - s } :: (⟨.mk (if s = 2 then 3 else 2) [] [] (settle B), none, 0, 0⟩ :: { q with left := q.left - s } :: C)) = rns A ++ (a :: (b :: rns C)) := by
    rw [rns_append, rns_one { p with left := p.left - s } _ hp, rns_cons, rns_one { q with left := q.left - s } _ hq]; rfl
  rw [e1] at hs ⊢
  rw [e2]
  constructor
  · rw [List.pairwise_append] at hs ⊢
    obtain ⟨s1, s2, s3⟩ := hs
    rw [List.pairwise_cons, List.pairwise_append] at s2
    refine ⟨s1, ?_, fun x hx y hy => ?_⟩
    · rw [List.pairwise_cons]
      refine ⟨fun y hy => ?_, s2.2.2.1⟩
      rcases List.mem_cons.1 hy with rfl | hy
      · exact hab
      · have := h5 y hy; omega
    · refine s3 x hx y ?_
      rcases List.mem_cons.1 hy with rfl | hy
      · simp
      · rcases List.mem_cons.1 hy with rfl | hy
        · simp
        · simp [hy]
  · intro r hr hn
    rcases List.mem_append.1 hr with h | h
    · exact List.mem_append.2 (.inl h)
    · refine List.mem_append.2 (.inr ?_)
      rcases List.mem_cons.1 h with rfl | h
      · simp
      · rcases List.mem_append.1 h with h | h
        · exact absurd (h4 r h) hn
        · rcases List.mem_cons.1 h with rfl | h
          · simp
          · simp [h]
/-- pair by pair: the runs that are there stand in their order, those of the pairs to come are there -/
theorem fold_ok {X : List (Nat × Nat × Nat)} {l : List Pt} (h1 : (rns l).Pairwise (· < ·)) (h2 : ∀ x ∈ X, x.1 ∈ rns l ∧ x.2.1 ∈ rns l ∧ x.1 < x.2.1) (h3 : X.Pairwise Em.outside) :
    ∀ k, k ≤ X.length → (rns ((X.take k).foldl joinPair l)).Pairwise (· < ·) ∧ ∀ j (hj : j < X.length), k ≤ j → X[j].1 ∈ rns ((X.take k).foldl joinPair l) ∧ X[j].2.1 ∈ rns ((X.take k).foldl joinPair l) := by
  intro k
  induction k with
  | zero => exact fun _ => ⟨h1, fun j hj _ => ⟨(h2 _ (List.getElem_mem hj)).1, (h2 _ (List.getElem_mem hj)).2.1⟩⟩
  | succ k ih =>
    intro hk
    obtain ⟨i1, i2⟩ := ih (by omega)
    have hk' : k < X.length := by omega
    obtain ⟨j1, j2⟩ := i2 k hk' (Nat.le_refl _)
    rw [List.take_succ_eq_append_getElem hk', List.foldl_append]
    have hj := rns_join (s := X[k].2.2) i1 j1 j2 (h2 _ (List.getElem_mem hk')).2.2
    refine ⟨hj.1, fun j hjl hkj => ?_⟩
    have ho := List.pairwise_iff_getElem.1 h3 k j hk' hjl (by omega)
    obtain ⟨m1, m2⟩ := i2 j hjl (by omega)
    exact ⟨hj.2 _ m1 ho.1, hj.2 _ m2 ho.2⟩
theorem heft_append (a b : List Pt) : heft (a ++ b) = heft a + heft b := by simp [heft]
theorem heft_cons (p : Pt) (b : List Pt) : heft (p :: b) = tlen (eff p) + heft b := by simp [heft]
theorem eff_less {p : Pt} {r : Nat} (h : p.run = some r) (s : Nat) : tlen (eff { p with left := p.left - s }) ≤ tlen (eff p) := by
  obtain ⟨⟨kd, t, d, ks⟩, rn, n, c⟩ := p
  simp only at h
  subst h
  simp only [eff_some, tlen, List.length_replicate]
  omega
/-- what the runs' signs and the plains weigh: a pair makes it no more -/
theorem heft_join {l : List Pt} {a b s : Nat} (hs : (rns l).Pairwise (· < ·)) (ha : a ∈ rns l) (hb : b ∈ rns l) (hab : a < b) : heft (joinPair l (a, b, s)) ≤ heft l ∧ (joinPair l (a, b, s)).length ≤ l.length + 1 := by
  obtain ⟨A, p, B, q, C, rfl, hp, hq, h1, h2, _, _, _⟩ := place_two hs ha hb hab
  rw [joinPair_eq h1 h2]
  have e1 := eff_less hp s
  have e2 := eff_less hq s
  constructor
  · rw [heft_append, heft_append, heft_cons, heft_cons, heft_cons, heft_cons, heft_append, heft_cons]
    have e3 : tlen (eff ⟨.mk (if s = 2 then 3 else 2) [] [] (settle B), none, 0, 0⟩) = 0 := rfl
    omega
  · simp only [List.length_append, List.length_cons]; omega
end Go.Proofs.YtkfhkfagmokjpaaGreatDoor.Il

namespace Go.Proofs.YtkfhkfagmokjpaaGreatDoor.Il
open Go.Lib

/-- what has been read: parts, runs -/
structure Sc where
  l : List Pt
  runs : List Em.R
/-- a link at a place: where it leads, where its text ends, where it ends -/
def linkAt (s : List UInt8) (i : Nat) : Option (List UInt8 × Nat × Nat) :=
  match Lk.close s (i : Int) with
  | none => none
  | some j => (match Lk.dest s ((j : Int) + 1) with | none => none | some (d, e) => some (d, j, e))
/-- one piece of the text: where the next one is, what has been read -/
def piece (link : Bool) (inner : List UInt8 → List In) (s : List UInt8) (i : Nat) (st : Sc) : Nat × Sc :=
  if s.getD i 0 = 96 then
    (match Cd.span s (i : Int) with
     | some (t, e) => (e, ⟨st.l ++ [⟨.mk 1 t [] [], none, 0, 0⟩], st.runs⟩)
     | none => (i + Fn.run 96 (s.drop i), ⟨pput st.l (mid s i (i + Fn.run 96 (s.drop i))), st.runs⟩))
  else match (if link = true then none else Lk.auto s (i : Int)) with
  | some (t, e) => (e, ⟨st.l ++ [⟨.mk 4 [] t [word (Ru.enc (Ru.runes t))], none, 0, 0⟩], st.runs⟩)
  | none => match (if link = true then none else linkAt s i) with
    | some (d, j, e) => (e, ⟨st.l ++ [⟨.mk 4 [] d (inner (mid s (i + 1) j)), none, 0, 0⟩], st.runs⟩)
    | none => match Em.kind s (i : Int) with
      | some (r, e) => (e, ⟨st.l ++ [⟨none_, some st.runs.length, r.n.toNat, r.ch⟩], st.runs ++ [r]⟩)
      | none => if s.getD i 0 = 10 then (i + 1, ⟨st.l ++ [⟨.mk 5 [] [] [], none, 0, 0⟩], st.runs⟩)
                else ((Es.next s i).2.1, ⟨pput st.l (encodeRune ((Es.next s i).1 : Int)), st.runs⟩)
def scanF (link : Bool) (inner : List UInt8 → List In) : Nat → List UInt8 → Nat → Sc → Sc
  | 0, _, _, st => st
  | f + 1, s, i, st => if i < s.length then scanF link inner f s (piece link inner s i st).1 (piece link inner s i st).2 else st
def scan (link : Bool) (inner : List UInt8 → List In) (s : List UInt8) (i : Nat) (st : Sc) : Sc := scanF link inner (s.length + 1 - i) s i st
def within (link : Bool) (inner : List UInt8 → List In) (s : List UInt8) : List In :=
  stress (scan link inner s 0 ⟨[], []⟩).l (scan link inner s 0 ⟨[], []⟩).runs
/-- a text within a link: no link in it -/
def inLink (s : List UInt8) : List In := within true (fun _ => []) s
def parse (s : List UInt8) : List In := within false inLink s

theorem kind_spec {s : List UInt8} {i : Nat} {r : Em.R} {e : Nat} (h : Em.kind s (i : Int) = some (r, e)) : i < e ∧ e ≤ s.length := by
  unfold Em.kind at h
  split at h
  · rename_i hs
    have hi : i < s.length := by unfold Em.starts at hs; have := (of_decide_eq_true hs).2.1; simpa using this
    rw [show ((i : Int)).toNat = i from by omega, Em.getD_at hi] at h
    simp only [Option.some.injEq, Prod.mk.injEq] at h
    have h1 := Em.run_pos hi
    have h2 := Em.runs_in hi s[i]
    omega
  · cases h
theorem dest_spec {s : List UInt8} {k : Nat} {d : List UInt8} {e : Nat} (h : Lk.dest s (k : Int) = some (d, e)) : k < e ∧ e ≤ s.length := by
  unfold Lk.dest at h
  split at h
  · rename_i hc
    obtain ⟨j, hj, he⟩ := Option.map_eq_some_iff.1 h
    injection he with _ he
    have := Lk.dends_spec _ _ _ hj
    simp only [Int.toNat_natCast] at this
    omega
  · cases h
theorem closeF_spec {s : List UInt8} : ∀ (f i d k : Nat), Lk.closeF f s i d = some k → i ≤ k ∧ k < s.length
  | 0, _, _, _, h => by simp [Lk.closeF] at h
  | f + 1, i, d, k, h => by
    unfold Lk.closeF at h
    split at h
    · rename_i hi
      have hm := Lk.hop_more hi
      split at h
      · split at h
        · injection h with h; omega
        · have := closeF_spec f _ _ k h; omega
      · have := closeF_spec f _ _ k h; omega
    · cases h
theorem link_spec {s : List UInt8} {i : Nat} {d : List UInt8} {j e : Nat} (h : linkAt s i = some (d, j, e)) : i < j ∧ j < e ∧ e ≤ s.length := by
  unfold linkAt at h
  split at h
  · cases h
  · rename_i j' hj
    split at h
    · cases h
    · rename_i d' e' he
      simp only [Option.some.injEq, Prod.mk.injEq] at h
      have h1 := dest_spec (k := j' + 1) (by rw [Int.natCast_add]; exact he)
      unfold Lk.close at hj
      split at hj
      · have := closeF_spec _ _ _ _ hj
        simp only [Int.toNat_natCast] at this
        omega
      · cases hj
/-- each piece has something, and ends in the text -/
theorem piece_more (link : Bool) (inner : List UInt8 → List In) {s : List UInt8} {i : Nat} (h : i < s.length) (st : Sc) : i < (piece link inner s i st).1 ∧ (piece link inner s i st).1 ≤ s.length := by
  unfold piece
  by_cases h96 : s.getD i 0 = 96
  · rw [if_pos h96]
    cases hs : Cd.span s (i : Int) with
    | some x =>
      obtain ⟨t, e⟩ := x
      have := Cd.span_spec hs
      simp only [Int.toNat_natCast] at this ⊢
      omega
    | none =>
      have hr : 1 ≤ Fn.run 96 (s.drop i) := by rw [Fn.run_at h (by simpa [List.getD, List.getElem?_eq_getElem h] using h96)]; omega
      have := Fn.run_le 96 (s.drop i)
      rw [List.length_drop] at this
      simp only
      omega
  · rw [if_neg h96]
    cases ha : (if link = true then none else Lk.auto s (i : Int)) with
    | some x =>
      obtain ⟨t, e⟩ := x
      split at ha
      · cases ha
      · have := Lk.auto_spec ha
        simp only; omega
    | none =>
      simp only
      cases hl : (if link = true then none else linkAt s i) with
      | some x =>
        obtain ⟨d, j, e⟩ := x
        split at hl
        · cases hl
        · have := link_spec hl
          simp only; omega
      | none =>
        simp only
        cases hk : Em.kind s (i : Int) with
        | some x =>
          obtain ⟨r, e⟩ := x
          have := kind_spec hk
          simp only; omega
        | none =>
          simp only
          have := Es.next_more h
          split <;> simp only <;> omega
theorem scanF_fuel (link : Bool) (inner : List UInt8 → List In) : ∀ (f g : Nat) (s : List UInt8) (i : Nat) (st : Sc), s.length < f + i → s.length < g + i → scanF link inner f s i st = scanF link inner g s i st
  | 0, 0, _, _, _, _, _ => rfl
  | 0, g + 1, s, i, st, h, _ => by unfold scanF; rw [if_neg (by omega)]
  | f + 1, 0, s, i, st, _, h => by unfold scanF; rw [if_neg (by omega)]
  | f + 1, g + 1, s, i, st, hf, hg => by
    unfold scanF
    by_cases hi : i < s.length
    · have hm := piece_more link inner hi st
      rw [if_pos hi, if_pos hi, scanF_fuel link inner f g s _ _ (by omega) (by omega)]
    · rw [if_neg hi, if_neg hi]
theorem scan_end (link : Bool) (inner : List UInt8 → List In) {s : List UInt8} {i : Nat} (h : s.length ≤ i) (st : Sc) : scan link inner s i st = st := by
  unfold scan
  cases s.length + 1 - i with
  | zero => rfl
  | succ f => unfold scanF; rw [if_neg (by omega)]
theorem scan_step (link : Bool) (inner : List UInt8 → List In) {s : List UInt8} {i : Nat} (h : i < s.length) (st : Sc) :
    scan link inner s i st = scan link inner s (piece link inner s i st).1 (piece link inner s i st).2 := by
  have hm := piece_more link inner h st
  unfold scan
  obtain ⟨f, hf⟩ : ∃ f, s.length + 1 - i = f + 1 := ⟨s.length - i, by omega⟩
  rw [hf]
  conv => lhs; unfold scanF
  rw [if_pos h, scanF_fuel link inner f (s.length + 1 - (piece link inner s i st).1) s _ _ (by omega) (by omega)]
end Go.Proofs.YtkfhkfagmokjpaaGreatDoor.Il

namespace Go.Proofs.YtkfhkfagmokjpaaGreatDoor
open Go.RowKit

theorem PCs_append {w : World} {Q : Nat → Prop} : ∀ {l : List Il.Pt} {css : List (List Value)} {l' : List Il.Pt} {css' : List (List Value)}, PCs w Q l css → PCs w Q l' css' → PCs w Q (l ++ l') (css ++ css')
  | [], _, _, _, h, h' => by cases h; exact h'
  | _ :: _, _, _, _, ⟨c0, cr, h1, h2, h3⟩, h' => by subst h1; exact ⟨c0, cr ++ _, rfl, h2, PCs_append h3 h'⟩
theorem PCs_take {w : World} {Q : Nat → Prop} : ∀ {l : List Il.Pt} {css : List (List Value)} (k : Nat), PCs w Q l css → PCs w Q (l.take k) (css.take k)
  | [], css, k, h => by cases h; simp [PCs]
  | _ :: _, _, 0, _ => rfl
  | _ :: _, _, k + 1, ⟨c0, cr, h1, h2, h3⟩ => by subst h1; exact ⟨c0, cr.take k, rfl, h2, PCs_take k h3⟩
theorem PCs_drop {w : World} {Q : Nat → Prop} : ∀ {l : List Il.Pt} {css : List (List Value)} (k : Nat), PCs w Q l css → PCs w Q (l.drop k) (css.drop k)
  | [], css, k, h => by cases h; simp [PCs]
  | _ :: _, _, 0, h => h
  | _ :: _, _, k + 1, ⟨c0, cr, h1, h2, h3⟩ => by subst h1; exact PCs_drop k h3
/-- all are of seven cells -/
def Sev (css : List (List Value)) : Prop := ∀ c ∈ css, c.length = 7
theorem PCs_sev {w : World} {Q : Nat → Prop} : ∀ {l : List Il.Pt} {css : List (List Value)}, PCs w Q l css → Sev css
  | [], css, h => by cases h; intro c hc; simp at hc
  | _ :: _, _, ⟨c0, cr, h1, h2, h3⟩ => by
    subst h1
    intro c hc
    rcases List.mem_cons.1 hc with rfl | hc
    · exact PC_length h2
    · exact PCs_sev h3 c hc
theorem sev_len {css : List (List Value)} (h : Sev css) : css.flatten.length = css.length * 7 := by
  induction css with
  | nil => rfl
  | cons c r ih =>
    rw [List.flatten_cons, List.length_append, h c (by simp), ih (fun c hc => h c (by simp [hc])), List.length_cons]; omega
theorem sev_drop {css : List (List Value)} (h : Sev css) : ∀ k, css.flatten.drop (k * 7) = (css.drop k).flatten := by
  induction css with
  | nil => intro k; simp
  | cons c r ih =>
    intro k
    cases k with
    | zero => simp
    | succ k =>
      have hc := h c (by simp)
      rw [List.drop_succ_cons, ← ih (fun c hc => h c (by simp [hc])) k, List.flatten_cons, List.drop_append, List.drop_of_length_le (by rw [hc]; omega), List.nil_append, hc, show (k + 1) * 7 - 7 = k * 7 by omega]
theorem sev_take {css : List (List Value)} (h : Sev css) : ∀ k, css.flatten.take (k * 7) = (css.take k).flatten := by
  induction css with
  | nil => intro k; simp
  | cons c r ih =>
    intro k
    cases k with
    | zero => simp
    | succ k =>
      have hc := h c (by simp)
      rw [List.take_succ_cons, List.flatten_cons, List.flatten_cons, ← ih (fun c hc => h c (by simp [hc])) k, List.take_append, List.take_of_length_le (by rw [hc]; omega), hc, show (k + 1) * 7 - 7 = k * 7 by omega]
theorem sev_drop' {css : List (List Value)} (h : Sev css) (k : Nat) : Sev (css.drop k) := fun c hc => h c (List.mem_of_mem_drop hc)
theorem sev_take' {css : List (List Value)} (h : Sev css) (k : Nat) : Sev (css.take k) := fun c hc => h c (List.mem_of_mem_take hc)
/-- a part of a row -/
theorem RowI.cut {w : World} {Q : Nat → Prop} {A : Option Addr} {n : Nat} {css : List (List Value)} (h : RowI w Q 7 A n css.flatten) (hs : Sev css) {c lo hi : Nat} (h1 : lo ≤ hi) (h2 : hi ≤ n) (h3 : n ≤ c) :
    RowI w Q 7 (cutA 7 A c lo) (hi - lo) (((css.take hi).drop lo).flatten) := by
  have hl := h.1
  rw [sev_len hs] at hl
  have hcl : css.length = n := by omega
  have hsl : Sev ((css.take hi).drop lo) := sev_drop' (sev_take' hs _) _
  refine ⟨?_, fun hn => ?_⟩
  · rw [sev_len hsl, List.length_drop, List.length_take]; omega
  · obtain ⟨b, o, rfl, hq, hc⟩ := h.2 (by omega)
    refine ⟨b, o + lo * 7, ?_, hq, fun j u hu => ?_⟩
    · unfold cutA
      rw [if_neg (by omega)]
      simp only [Option.map_some, Addr.add]
      split
      · rename_i h0; rw [h0]; rfl
      · rfl
    · rw [← sev_drop (sev_take' hs hi), ← sev_take hs, List.getElem?_drop, List.getElem?_take] at hu
      split at hu
      · have := hc _ _ hu
        rwa [← Nat.add_assoc] at this
      · cases hu
/-- one of the parts is another one -/
theorem PCs_set {w : World} {Q : Nat → Prop} : ∀ {l : List Il.Pt} {css : List (List Value)} (k : Nat) {p : Il.Pt} {cs : List Value}, PCs w Q l css → PC w Q p cs → PCs w Q (l.set k p) (css.set k cs)
  | [], css, k, p, cs, h, _ => by cases h; simp [PCs]
  | _ :: _, _, 0, _, cs, ⟨c0, cr, h1, h2, h3⟩, hp => by subst h1; exact ⟨cs, cr, rfl, hp, h3⟩
  | _ :: _, _, k + 1, _, cs, ⟨c0, cr, h1, h2, h3⟩, hp => by subst h1; exact ⟨c0, cr.set k cs, rfl, h2, PCs_set k h3 hp⟩
theorem sev_set {css : List (List Value)} (h : Sev css) : ∀ (k j : Nat) (u : Value) (hk : k < css.length), j < 7 → css.flatten.set (k * 7 + j) u = (css.set k (css[k].set j u)).flatten := by
  induction css with
  | nil => intro k j u hk; simp at hk
  | cons c r ih =>
    intro k j u hk hj
    have hc := h c (by simp)
    cases k with
    | zero =>
      rw [List.flatten_cons, List.set_append_left _ _ (by rw [hc]; omega)]
      simp
    | succ k =>
      rw [List.flatten_cons, List.set_append_right _ _ (by rw [hc]; omega), hc, show (k + 1) * 7 + j - 7 = k * 7 + j by omega, ih (fun c hc => h c (by simp [hc])) k j u (by simpa using hk) hj]
      simp
theorem PCs_get {w : World} {Q : Nat → Prop} : ∀ {l : List Il.Pt} {css : List (List Value)}, PCs w Q l css → ∀ {k : Nat} (hk : k < l.length) (hk' : k < css.length), PC w Q l[k] css[k]
  | [], _, _, _, hk, _ => by simp at hk
  | _ :: _, _, ⟨c0, cr, h1, h2, h3⟩, 0, _, _ => by subst h1; exact h2
  | _ :: _, _, ⟨c0, cr, h1, h2, h3⟩, k + 1, hk, hk' => by subst h1; exact PCs_get h3 (k := k) (by simpa using hk) (by simpa using hk')
/-- fewer signs left of one -/
theorem lowerP_set {l : List Il.Pt} {i s : Nat} (h : i < l.length) : Il.lowerP l i s = l.set i { l[i] with left := l[i].left - s } := by
  apply List.ext_getElem?
  intro j
  unfold Il.lowerP
  rw [List.getElem?_mapIdx, List.getElem?_set]
  by_cases hj : i = j
  · subst hj
    rw [if_pos rfl, if_pos h, List.getElem?_eq_getElem h]; simp
  · rw [if_neg hj]
    rcases Nat.lt_or_ge j l.length with h3 | h3
    · rw [List.getElem?_eq_getElem h3]; simp [Ne.symm hj]
    · rw [List.getElem?_eq_none h3]; rfl
/-- its cells: the sixth is set -/
theorem PCs_lower {w : World} {Q : Nat → Prop} {l : List Il.Pt} {css : List (List Value)} (h : PCs w Q l css) {i s : Nat} (hi : i < l.length) (hs : s ≤ l[i].left) :
    PCs w Q (Il.lowerP l i s) (css.set i ((css[i]'(by rw [(PCs_length h).2]; exact hi)).set 5 (.int .i64 ((l[i].left : Int) - s)))) ∧ css.flatten.set (i * 7 + 5) (.int .i64 ((l[i].left : Int) - s)) = (css.set i ((css[i]'(by rw [(PCs_length h).2]; exact hi)).set 5 (.int .i64 ((l[i].left : Int) - s)))).flatten ∧
      css.flatten[i * 7 + 5]? = some (.int .i64 (l[i].left : Int)) := by
  have hic : i < css.length := by rw [(PCs_length h).2]; exact hi
  have hp := PCs_get h hi hic
  obtain ⟨cs, hcs, hat⟩ := PCs_at h hi
  refine ⟨?_, sev_set (PCs_sev h) i 5 _ hic (by omega), ?_⟩
  · rw [lowerP_set hi]
    refine PCs_set i h ?_
    obtain ⟨ic, h1, h2⟩ := hp
    refine ⟨ic, h1, ?_⟩
    have hl := IC_length h1
    rw [h2, List.set_append_right _ _ (by omega), hl]
    have e : ((l[i].left : Int) - s) = ((l[i].left - s : Nat) : Int) := by omega
    rw [e]; rfl
  · obtain ⟨ic, h1, h2⟩ := hcs
    have hl := IC_length h1
    rw [hat 5 (by omega), h2, List.getElem?_append_right (by omega), hl]; rfl
/-- two of them -/
theorem PCs_two {w : World} {Q : Nat → Prop} {l : List Il.Pt} {css : List (List Value)} (h : PCs w Q l css) {a b s : Nat} {PA PB : Il.Pt} (ha : l[a]? = some PA) (hb : l[b]? = some PB) (hab : a ≠ b) (hsa : s ≤ PA.left) (hsb : s ≤ PB.left) :
    ∃ css2, PCs w Q (Il.lowerP (Il.lowerP l a s) b s) css2 ∧ (css.flatten.set (a * 7 + 5) (.int .i64 ((PA.left : Int) - s))).set (b * 7 + 5) (.int .i64 ((PB.left : Int) - s)) = css2.flatten ∧
      css.flatten[a * 7 + 5]? = some (.int .i64 (PA.left : Int)) ∧ css.flatten[b * 7 + 5]? = some (.int .i64 (PB.left : Int)) := by
  obtain ⟨hal, hae⟩ := List.getElem?_eq_some_iff.1 ha
  obtain ⟨hbl, hbe⟩ := List.getElem?_eq_some_iff.1 hb
  obtain ⟨h1, h2, h3⟩ := PCs_lower h (i := a) (s := s) hal (by rw [hae]; exact hsa)
  obtain ⟨_, _, h3'⟩ := PCs_lower h (i := b) (s := s) hbl (by rw [hbe]; exact hsb)
  have hbl' : b < (Il.lowerP l a s).length := by rw [Il.lowerP_len]; exact hbl
  have hbe' : (Il.lowerP l a s)[b] = PB := by
    have e : (Il.lowerP l a s)[b]? = some PB := by
      rw [lowerP_set hal, List.getElem?_set_ne hab]; exact hb
    rw [List.getElem?_eq_getElem hbl'] at e
    exact Option.some.inj e
  obtain ⟨k1, k2, _⟩ := PCs_lower h1 (i := b) (s := s) hbl' (by rw [hbe']; exact hsb)
  rw [hae] at h2 h3
  rw [hbe] at h3'
  simp only [hae, hbe'] at k1 k2 h2
  exact ⟨_, k1, by rw [h2]; exact k2, h3, h3'⟩
end Go.Proofs.YtkfhkfagmokjpaaGreatDoor

namespace Go.Proofs.YtkfhkfagmokjpaaGreatDoor
open Go.RowKit

theorem partEI : EI Tryz.prog 61 68 7 88 := EI.mk' (z := .agg #[.int .i64 0, .string ⟨#[]⟩, .string ⟨#[]⟩, .slice none 0 0, .int .i64 0, .int .i64 0, .int .u8 0]) Tryz.underlying61 (by kernel_rfl) rfl (by omega)

namespace Il
theorem pput_nil (s : List UInt8) : pput [] s = [⟨word s, none, 0, 0⟩] := rfl
theorem pput_join (l : List Pt) (t d s : List UInt8) (ks : List In) (n : Nat) (c : UInt8) : pput (l ++ [⟨.mk 0 t d ks, none, n, c⟩]) s = l ++ [⟨.mk 0 (t ++ s) d ks, none, n, c⟩] := by simp [pput]
theorem pput_run (l : List Pt) (x : In) (r n : Nat) (c : UInt8) (s : List UInt8) : pput (l ++ [⟨x, some r, n, c⟩]) s = l ++ [⟨x, some r, n, c⟩] ++ [⟨word s, none, 0, 0⟩] := by simp [pput]
theorem pput_kind (l : List Pt) {kd : Nat} (h : kd ≠ 0) (t d : List UInt8) (ks : List In) (r : Option Nat) (n : Nat) (c : UInt8) (s : List UInt8) : pput (l ++ [⟨.mk kd t d ks, r, n, c⟩]) s = l ++ [⟨.mk kd t d ks, r, n, c⟩] ++ [⟨word s, none, 0, 0⟩] := by
  cases kd with
  | zero => exact absurd rfl h
  | succ k => simp [pput]
end Il
theorem set_last7 {cr : List (List Value)} {n : Nat} (hn : cr.flatten.length = n * 7) (a b c d e f g u : Value) : (cr ++ [[a, b, c, d, e, f, g]]).flatten.set (n * 7 + 1) u = (cr ++ [[a, u, c, d, e, f, g]]).flatten := by
  rw [List.flatten_append, List.flatten_append, List.set_append_right _ _ (by omega), hn, show n * 7 + 1 - n * 7 = 1 by omega]
  rfl
theorem PC_word (w : World) (Q : Nat → Prop) (s : List UInt8) : PC w Q ⟨Il.word s, none, 0, 0⟩ [.int .i64 0, .string (bs s), .string ⟨#[]⟩, .slice none 0 0, .int .i64 (-1), .int .i64 0, .int .u8 0] :=
  ⟨[.int .i64 0, .string (bs s), .string ⟨#[]⟩, .slice none 0 0], by unfold Il.word IC; exact ⟨none, 0, [], rfl, Nat.le_refl _, ⟨rfl, fun h => absurd h (by simp)⟩, ICs_nil⟩, rfl⟩

set_option maxHeartbeats 4000000 in
set_option maxRecDepth 100000 in
theorem rpput_any (l : List Il.Pt) (s : List UInt8) (A : Option Addr) (c : Nat) (css : List (List Value)) (w : World) (base : Nat) (Q : Nat → Prop) (hQ : ∀ b, Q b → b < w.heap.size ∧ ∀ o sp, A ≠ some ⟨b, o, sp⟩) (hl : l.length ≤ 1000000000) (hh : Il.heft l + s.length ≤ 1000000000) (hbase : base ≤ w.heap.size)
    (ho : w.ownsRow base 68 7 (.slice A l.length c) l.length css.flatten) (hP : PCs w Q l css) :
    Calls Tryz.prog 26 #[.slice A l.length c, .string (bs s)] w fun e w' =>
      (∃ v', e = .returned v' ∧ ∃ css' : List (List Value), w'.ownsRow base 68 7 v' (Il.pput l s).length css'.flatten ∧ PCs w' Q (Il.pput l s) css' ∧ At w.heap.size (.slice A l.length c) v') ∧ w.grownBy w' (Value.slice A l.length c).ownBlock ∧ Below base w w' := by
  have hzs := bs_size s
  obtain ⟨n, hn⟩ : ∃ n, l.length = n := ⟨_, rfl⟩
  rw [hn] at ho hl ⊢
  have hadd : ∀ (r : List Il.Pt), r = l ++ [⟨Il.word s, none, 0, 0⟩] → r.length = n + 1 := fun r h => by rw [h, List.length_append, hn]; rfl
  have hfin : Hid (∀ (v' : Value) (w' : World), w'.ownsRow base 68 7 v' (n + 1) (css.flatten ++ (#[.int .i64 0, .string (bs s), .string ⟨#[]⟩, .slice none 0 0, .int .i64 (-1), .int .i64 0, .int .u8 0] : Array Value).toList) → w.grownBy w' (Value.slice A n c).ownBlock → Below base w w' → At w.heap.size (.slice A n c) v' → Il.pput l s = l ++ [⟨Il.word s, none, 0, 0⟩] →
      (∃ v'', Ending.returned v' = .returned v'' ∧ ∃ css' : List (List Value), w'.ownsRow base 68 7 v'' (Il.pput l s).length css'.flatten ∧ PCs w' Q (Il.pput l s) css' ∧ At w.heap.size (.slice A n c) v'') ∧ w.grownBy w' (Value.slice A n c).ownBlock ∧ Below base w w') := Lib.hid (fun v' w' h1 h2 h3 h4 h5 => by
    rw [h5]
    refine ⟨⟨v', rfl, css ++ [[.int .i64 0, .string (bs s), .string ⟨#[]⟩, .slice none 0 0, .int .i64 (-1), .int .i64 0, .int .u8 0]], ?_, ?_, h4⟩, h2, h3⟩
    · rw [List.length_append, hn, List.flatten_append]; simpa using h1
    · refine PCs_snoc (PCs_frame (Q := Q) (Q' := Q) (fun b hb => h2.block b (hQ b hb).1 fun e => ?_) (fun _ h => h) hP) (PC_word w' Q s)
      rcases A with _ | ad
      · cases e
      · obtain ⟨b', o', sp⟩ := ad
        have : b' = b := (Option.some.inj e).symm
        exact (hQ b hb).2 o' sp (by rw [this]))
  rcases List.eq_nil_or_concat l with h0 | ⟨l', x, h0⟩
  · have hp : Il.pput l s = l ++ [⟨Il.word s, none, 0, 0⟩] := by rw [h0]; rfl
    have hn0 : n ≤ 0 := by rw [← hn, h0]; simp
    replace hp := Lib.hid hp
    replace ho := Lib.hid ho
    clear h0 hadd
    go_enter Tryz.func26, Tryz.ntmps26
    go_wp2_with (at_builtin; refine wpList_app_two rfl (.tmp 42) (.tmp 46) rfl partEI rfl ho.out rfl (by first | rfl | simp) rfl (by intro u hu; simp at hu; rcases hu with rfl | rfl | rfl | rfl | rfl | rfl | rfl <;> rfl) (by omega) (by omega) hbase ?_; intro v2 w8 hown2 hg2 hb8 hat8)
    go_ret
    exact hfin.out v2 w8 hown2 hg2.out hb8 hat8.out hp.out
  · rw [List.concat_eq_append] at h0
    obtain ⟨⟨kd, tx, de, ks⟩, rn, lf, ch⟩ := x
    obtain ⟨m, hm⟩ : ∃ m, n = m + 1 := ⟨l'.length, by rw [← hn, h0]; simp⟩
    have hlm : l'.length = m := by rw [h0] at hn; simp at hn; omega
    subst hm
    have hP' := hP
    rw [h0] at hP'
    obtain ⟨cr, cl, hcs, hPr, hPl⟩ := PCs_last hP'
    obtain ⟨A7, c7, css7, rfl, hc7, hr7, hi7⟩ := PC_form hPl
    have hrl := (PCs_length hPr).1
    rw [hlm] at hrl
    obtain ⟨g, rfl⟩ : ∃ g, A = some ⟨g, 0, none⟩ := by
      rcases ho.2 with ⟨hv, h0⟩ | ⟨g, cap, cur, hv, _⟩
      · omega
      · injection hv with h1 _ _; exact ⟨g, h1⟩
    obtain ⟨hg1, hg2⟩ := World.ownsRow.lt ho g rfl
    have hfl : css.flatten = cr.flatten ++ [Value.int .i64 (kd : Int), Value.string (bs tx), Value.string (bs de), Value.slice A7 ks.length c7, Value.int .i64 (runI rn), Value.int .i64 (lf : Int), Value.int .u8 (ch.toNat : Int)] := by rw [hcs, List.flatten_append]; rfl
    have z0 := il_own_cell ho (j := m * 7) (u := .int .i64 (kd : Int)) (by rw [hfl, List.getElem?_append_right (by omega), hrl, Nat.sub_self]; rfl)
    have z1 := il_own_cell ho (j := m * 7 + 1) (u := .string (bs tx)) (by rw [hfl, List.getElem?_append_right (by omega), hrl, show m * 7 + 1 - m * 7 = 1 by omega]; rfl)
    have z4 := il_own_cell ho (j := m * 7 + 4) (u := .int .i64 (runI rn)) (by rw [hfl, List.getElem?_append_right (by omega), hrl, show m * 7 + 4 - m * 7 = 4 by omega]; rfl)
    have hwm : IntKind.i64.wrap (m : Int) = (m : Int) := by rw [IntKind.wrap_i64]; omega
    cases rn with
    | some r =>
      have hp : Il.pput l s = l ++ [⟨Il.word s, none, 0, 0⟩] := by rw [h0, Il.pput_run]
      have hr0 : (0 : Int) ≤ (r : Int) := by omega
      simp only [runI] at z4
      replace hp := Lib.hid hp
      replace ho := Lib.hid ho
      clear h0 hadd hP hP' hPr hPl hr7 hi7 hfl hcs
      go_enter Tryz.func26, Tryz.ntmps26
      go_wp2_with (at_builtin; refine wpList_app_two rfl (.tmp 42) (.tmp 46) rfl partEI rfl ho.out rfl (by first | rfl | simp) rfl (by intro u hu; simp at hu; rcases hu with rfl | rfl | rfl | rfl | rfl | rfl | rfl <;> rfl) (by omega) (by omega) hbase ?_; intro v2 w8 hown2 hg2 hb8 hat8)
      go_ret
      exact hfin.out v2 w8 hown2 hg2.out hb8 hat8.out hp.out
    | none =>
      simp only [runI] at z4
      by_cases hk0 : kd = 0
      · have t0 : ((kd : Int) == 0) = true := by simp [hk0]
        have hp : Il.pput l s = l' ++ [⟨.mk 0 (tx ++ s) de ks, none, lf, ch⟩] := by rw [h0, hk0, Il.pput_join]
        have htl : tx.length ≤ Il.heft l := by
          rw [h0]
          unfold Il.heft
          rw [List.map_append, List.sum_append]
          simp [Il.eff_none, Il.tlen]
        have hzt := bs_size tx
        have hcat : bs tx ++ bs s = bs (tx ++ s) := bs_append tx s
        have hst2 := ho.stored (m * 7 + 1) (.string (bs (tx ++ s)))
        have hfz5 := ho.frozenAt (m * 7 + 1)
        have hsl : css.flatten.set (m * 7 + 1) (.string (bs (tx ++ s))) = (cr ++ [[Value.int .i64 (kd : Int), Value.string (bs (tx ++ s)), Value.string (bs de), Value.slice A7 ks.length c7, Value.int .i64 (-1), Value.int .i64 (lf : Int), Value.int .u8 (ch.toNat : Int)]]).flatten := by rw [hcs]; exact set_last7 hrl _ _ _ _ _ _ _ _
        rw [hsl] at hst2
        have hnb : ∀ b, Q b → b ≠ g := fun b h e => (hQ b h).2 0 none (by rw [e])
        have hfr : ∀ b, b ≠ g → (w.setCell ⟨g, m * 7 + 1, none⟩ (.string (bs (tx ++ s)))).heap[b]? = w.heap[b]? := fun b h => Below.heap_setCell _ _ _ _ h
        have hI9 := PCs_snoc (PCs_frame (Q := Q) (Q' := Q) (fun b h => hfr b (hnb b h)) (fun _ h => h) hPr) (show PC (w.setCell ⟨g, m * 7 + 1, none⟩ (.string (bs (tx ++ s)))) Q ⟨.mk 0 (tx ++ s) de ks, none, lf, ch⟩ [.int .i64 (kd : Int), .string (bs (tx ++ s)), .string (bs de), .slice A7 ks.length c7, .int .i64 (-1), .int .i64 (lf : Int), .int .u8 (ch.toNat : Int)] from
          ⟨[.int .i64 (kd : Int), .string (bs (tx ++ s)), .string (bs de), .slice A7 ks.length c7], by
            unfold IC; exact ⟨A7, c7, css7, by rw [hk0], hc7, hr7.frame (fun b h => hfr b (hnb b h)) (fun _ h => h), ICs_frame (fun b h => hfr b (hnb b h)) (fun _ h => h) hi7⟩, rfl⟩)
        have hb9 := (Below.refl base w).setCell (p := ⟨g, m * 7 + 1, none⟩) hg1 (.string (bs (tx ++ s)))
        replace hst2 := Lib.hid hst2
        replace hI9 := Lib.hid hI9
        replace hb9 := Lib.hid hb9
        replace hp := Lib.hid hp
        replace ho := Lib.hid ho
        clear h0 hadd hP hP' hPr hPl hr7 hi7 hfl hcs hk0 hsl hfr hnb
        go_enter Tryz.func26, Tryz.ntmps26
        go_wp2
        go_ret
        rw [hp.out]
        exact ⟨⟨_, rfl, _, by rw [List.length_append, hlm]; exact hst2.out.1, hI9.out, fun g' h' => .inl h'⟩, hst2.out.2, hb9.out⟩
      · have t0 : ((kd : Int) == 0) = false := by simp; omega
        have hp : Il.pput l s = l ++ [⟨Il.word s, none, 0, 0⟩] := by rw [h0, Il.pput_kind l' hk0]
        replace hp := Lib.hid hp
        replace ho := Lib.hid ho
        clear h0 hadd hP hP' hPr hPl hr7 hi7 hfl hcs hk0
        go_enter Tryz.func26, Tryz.ntmps26
        go_wp2_with (at_builtin; refine wpList_app_two rfl (.tmp 42) (.tmp 46) rfl partEI rfl ho.out rfl (by first | rfl | simp) rfl (by intro u hu; simp at hu; rcases hu with rfl | rfl | rfl | rfl | rfl | rfl | rfl <;> rfl) (by omega) (by omega) hbase ?_; intro v2 w8 hown2 hg2 hb8 hat8)
        go_ret
        exact hfin.out v2 w8 hown2 hg2.out hb8 hat8.out hp.out
end Go.Proofs.YtkfhkfagmokjpaaGreatDoor

namespace Go.Proofs.YtkfhkfagmokjpaaGreatDoor
open Go.RowKit
attribute [local go_sem] canOp readsAs readUpon

set_option maxHeartbeats 8000000 in
set_option maxRecDepth 100000 in
theorem stress_places (l : List Il.Pt) (a b gx : Nat) (A : Option Addr) (c : Nat) (css : List (List Value)) (w : World) (Q : Nat → Prop) (hQ : ∀ b, Q b → b < w.heap.size) (hl : l.length ≤ 1000000000) (hR : RowI w Q 7 A l.length css.flatten) (hP : PCs w Q l css)
    (hg : gx < w.heap.size) (x0 : w.cell? ⟨gx, 0, none⟩ = some (.int .i64 (a : Int))) (x1 : w.cell? ⟨gx, 1, none⟩ = some (.int .i64 (b : Int)))
    (s1 s2 s3 s4 s5 s7 s8 s9 s10 s11 s12 s13 s14 s15 s16 s17 s18 s19 s20 s21 s22 s23 s24 s25 s26 s27 s28 s29 s30 s31 s32 s33 s34 s35 s36 s37 s38 s39 s40 s41 s42 s43 s44 s45 s46 s47 s48 s49 s50 s51 s52 s53 s54 s55 s56 s57 s58 s59 s60 s61 s62 s63 s64 s65 s66 s67 s68 s69 s70 s71 s72 s73 s74 s75 s76 s77 s78 s79 : Value) (Qx : Exit → Act → World → Prop) (hpan : ∀ c a d v w, Qx (.panic c) (Act.put a d v) w → Qx (.panic c) a w)
    (hk : ∀ (v19 v20 v21 v22 v23 v24 v25 v26 : Value) (wq : World), Ext w wq → Qx .normal ⟨(.slice A l.length c :: s1 :: s2 :: s3 :: s4 :: s5 :: .pointer (some ⟨gx, 0, none⟩) :: .int .i64 (Il.place l a : Nat) :: .int .i64 (Il.place l b : Nat) :: s9 :: s10 :: s11 :: s12 :: s13 :: s14 :: s15 :: s16 :: s17 :: s18 :: v19 :: v20 :: v21 :: v22 :: v23 :: v24 :: v25 :: v26 :: s27 :: s28 :: s29 :: s30 :: s31 :: s32 :: s33 :: s34 :: s35 :: s36 :: s37 :: s38 :: s39 :: s40 :: s41 :: s42 :: s43 :: s44 :: s45 :: s46 :: s47 :: s48 :: s49 :: s50 :: s51 :: s52 :: s53 :: s54 :: s55 :: s56 :: s57 :: s58 :: s59 :: s60 :: s61 :: s62 :: s63 :: s64 :: s65 :: s66 :: s67 :: s68 :: s69 :: s70 :: s71 :: s72 :: s73 :: s74 :: s75 :: s76 :: s77 :: s78 :: s79 :: []).toArray, []⟩ wq) :
    Code.wp Tryz.prog (regionAt Tryz.f33 4) Qx ⟨(.slice A l.length c :: s1 :: s2 :: s3 :: s4 :: s5 :: .pointer (some ⟨gx, 0, none⟩) :: s7 :: s8 :: s9 :: s10 :: s11 :: s12 :: s13 :: s14 :: s15 :: s16 :: s17 :: s18 :: s19 :: s20 :: s21 :: s22 :: s23 :: s24 :: s25 :: s26 :: s27 :: s28 :: s29 :: s30 :: s31 :: s32 :: s33 :: s34 :: s35 :: s36 :: s37 :: s38 :: s39 :: s40 :: s41 :: s42 :: s43 :: s44 :: s45 :: s46 :: s47 :: s48 :: s49 :: s50 :: s51 :: s52 :: s53 :: s54 :: s55 :: s56 :: s57 :: s58 :: s59 :: s60 :: s61 :: s62 :: s63 :: s64 :: s65 :: s66 :: s67 :: s68 :: s69 :: s70 :: s71 :: s72 :: s73 :: s74 :: s75 :: s76 :: s77 :: s78 :: s79 :: []).toArray, []⟩ w := by
  have qa := Lib.hid (fun (u : World) (hu : Ext w u) => rplace_any l a A c css u Q (fun b hb => Nat.lt_of_lt_of_le (hQ b hb) hu.size) hl (hR.frame (fun b hb => hu.block b (hQ b hb)) (fun _ h => h)) (PCs_frame (fun b hb => hu.block b (hQ b hb)) (fun _ h => h) hP))
  have qb := Lib.hid (fun (u : World) (hu : Ext w u) => rplace_any l b A c css u Q (fun b hb => Nat.lt_of_lt_of_le (hQ b hb) hu.size) hl (hR.frame (fun b hb => hu.block b (hQ b hb)) (fun _ h => h)) (PCs_frame (fun b hb => hu.block b (hQ b hb)) (fun _ h => h) hP))
  have hxa := Lib.hid (fun (u : World) (hu : Ext w u) => (hu.cell (p := ⟨gx, 0, none⟩) hg).trans x0)
  have hxb := Lib.hid (fun (u : World) (hu : Ext w u) => (hu.cell (p := ⟨gx, 1, none⟩) hg).trans x1)
  have hS : Ext w w.drew := ext_drew w
  replace hk := Lib.hid hk
  replace hpan := Lib.hid hpan
  generalize Il.place l a = pa at *
  generalize Il.place l b = pb at *
  clear hR hP hQ x0 x1
  conv => arg 2; whnf
  refine wp_region_tree (.rd 0 (.rd 1 (.rd 2 (.rd 4 (.rd 5 (.rd 6 (.mk 3 (.mk 7 (.rd 8 (.rd 9 .fin)))))))))) (Ext w) hS (by kernel_rfl) (by kernel_rfl) (by kernel_rfl) (fun _ _ _ _ _ h => hpan.out _ _ _ _ _ h) ?_
  (first | refine wpT_move rfl ?_ | (refine wpT_rd rfl ?_; intro K hK; go_simp; refine hK _ _ _ ?_; clear hK K))
  (first | refine wpT_move rfl ?_ | (refine wpT_rd rfl ?_; intro K hK; go_simp; refine hK _ _ _ ?_; clear hK K))
  (refine wpT_read (.int .i64 (a : Int)) rfl rfl hS (fun u hu => by have h1 := hxa.out u hu; go_simp) ?_)
  (first | refine wpT_move rfl ?_ | (refine wpT_rd rfl ?_; intro K hK; go_simp; refine hK _ _ _ ?_; clear hK K))
  (first | refine wpT_move rfl ?_ | (refine wpT_rd rfl ?_; intro K hK; go_simp; refine hK _ _ _ ?_; clear hK K))
  (refine wpT_read (.int .i64 (b : Int)) rfl rfl hS (fun u hu => by have h1 := hxb.out u hu; go_simp) ?_)
  (refine wpT_mk rfl ?_; intro K hK; go_simp; refine (qa.out _ hS).mono ?_; rintro e u1 ⟨rfl, hbu1⟩; have hE1 : Ext w u1 := Ext.trans hS hbu1; refine ⟨Ext w, hE1, fun _ h => h, hK _ _ _ ?_⟩; clear hK K)
  (refine wpT_mk rfl ?_; intro K hK; go_simp; refine (qb.out _ hE1).mono ?_; rintro e u2 ⟨rfl, hbu2⟩; have hE2 : Ext w u2 := Ext.trans hE1 hbu2; refine ⟨Ext w, hE2, fun _ h => h, hK _ _ _ ?_⟩; clear hK K)
  (first | refine wpT_move rfl ?_ | (refine wpT_rd rfl ?_; intro K hK; go_simp; refine hK _ _ _ ?_; clear hK K))
  (first | refine wpT_move rfl ?_ | (refine wpT_rd rfl ?_; intro K hK; go_simp; refine hK _ _ _ ?_; clear hK K))
  refine wpT_fin ?_
  exact hk.out _ _ _ _ _ _ _ _ _ hE2

theorem run_cut_l {P : Program} {T : TypeId} (hT : P.underlying T = some (.slice (P.elem T))) (size : Nat) (hsz : ∀ w, (sizeOf (P.elem T)).run P w = .ok size w) (A : Option Addr) (n c lo : Nat) (h1 : lo ≤ n) (w : World) :
    (Instr.slice T (.slice A n c) (some (.int .i64 (lo : Int))) none none).run P w = .ok (.slice (cutA size A c lo) (n - lo) (c - lo)) w := by
  rw [run_slice_l w T A n c hT .i64 lo (by omega) (by omega), hsz]
  simp [sliced, cutA, Result.andThen]
/-- a part's seven cells, as they lie -/
def sevenC (kd : Int) (t d : ByteArray) (ks : Value) (r n ch : Int) : List Value := [.int .i64 kd, .string t, .string d, ks, .int .i64 r, .int .i64 n, .int .u8 ch]

set_option maxHeartbeats 8000000 in
set_option maxRecDepth 100000 in
theorem stress_cat (n o gp : Nat) (A : Option Addr) (c : Nat) (css : List (List Value)) (w : World) (Q : Nat → Prop) (hQ : ∀ b, Q b → b < w.heap.size) (hn : n ≤ 1000000000) (ho : o ≤ n) (hnc : n ≤ c) (hR : RowI w Q 7 A n css.flatten) (hs : Sev css) (hone : ∀ u ∈ css.flatten, u.oneCell' = true)
    (kd r m ch : Int) (t d : ByteArray) (AK : Option Addr) (nK cK : Nat) (hg : gp < w.heap.size)
    (x0 : w.cell? ⟨gp, 0, none⟩ = some (.int .i64 kd)) (x1 : w.cell? ⟨gp, 1, none⟩ = some (.string t)) (x2 : w.cell? ⟨gp, 2, none⟩ = some (.string d)) (x3 : w.cell? ⟨gp, 3, none⟩ = some (.slice AK nK cK)) (x4 : w.cell? ⟨gp, 4, none⟩ = some (.int .i64 r)) (x5 : w.cell? ⟨gp, 5, none⟩ = some (.int .i64 m)) (x6 : w.cell? ⟨gp, 6, none⟩ = some (.int .u8 ch))
    (s1 s2 s3 s4 s5 s6 s7 s9 s11 s12 s13 s14 s15 s16 s17 s18 s19 s20 s21 s22 s23 s24 s25 s26 s27 s28 s29 s30 s31 s32 s33 s34 s35 s36 s37 s38 s39 s40 s41 s42 s43 s44 s45 s46 s47 s48 s49 s50 s51 s52 s53 s54 s55 s56 s57 s58 s59 s60 s61 s62 s63 s64 s65 s66 s67 s68 s69 s70 s71 s72 s73 s74 s75 s76 s77 s78 s79 : Value) (Qx : Exit → Act → World → Prop) (hpan : ∀ c a d v w, Qx (.panic c) (Act.put a d v) w → Qx (.panic c) a w)
    (hk : ∀ (v11 v63 v64 v65 v66 v67 v68 : Value) (wq : World), wq.ownsRow w.heap.size 68 7 v11 (1 + (n - o)) (sevenC kd t d (.slice AK nK cK) r m ch ++ (css.drop o).flatten) → Ext w wq → Qx .normal ⟨(.slice A n c :: s1 :: s2 :: s3 :: s4 :: s5 :: s6 :: s7 :: .int .i64 (o : Int) :: s9 :: .pointer (some ⟨gp, 0, none⟩) :: v11 :: s12 :: s13 :: s14 :: s15 :: s16 :: s17 :: s18 :: s19 :: s20 :: s21 :: s22 :: s23 :: s24 :: s25 :: s26 :: s27 :: s28 :: s29 :: s30 :: s31 :: s32 :: s33 :: s34 :: s35 :: s36 :: s37 :: s38 :: s39 :: s40 :: s41 :: s42 :: s43 :: s44 :: s45 :: s46 :: s47 :: s48 :: s49 :: s50 :: s51 :: s52 :: s53 :: s54 :: s55 :: s56 :: s57 :: s58 :: s59 :: s60 :: s61 :: s62 :: v63 :: v64 :: v65 :: v66 :: v67 :: v68 :: s69 :: s70 :: s71 :: s72 :: s73 :: s74 :: s75 :: s76 :: s77 :: s78 :: s79 :: []).toArray, []⟩ wq) :
    Code.wp Tryz.prog (regionAt Tryz.f33 10) Qx ⟨(.slice A n c :: s1 :: s2 :: s3 :: s4 :: s5 :: s6 :: s7 :: .int .i64 (o : Int) :: s9 :: .pointer (some ⟨gp, 0, none⟩) :: s11 :: s12 :: s13 :: s14 :: s15 :: s16 :: s17 :: s18 :: s19 :: s20 :: s21 :: s22 :: s23 :: s24 :: s25 :: s26 :: s27 :: s28 :: s29 :: s30 :: s31 :: s32 :: s33 :: s34 :: s35 :: s36 :: s37 :: s38 :: s39 :: s40 :: s41 :: s42 :: s43 :: s44 :: s45 :: s46 :: s47 :: s48 :: s49 :: s50 :: s51 :: s52 :: s53 :: s54 :: s55 :: s56 :: s57 :: s58 :: s59 :: s60 :: s61 :: s62 :: s63 :: s64 :: s65 :: s66 :: s67 :: s68 :: s69 :: s70 :: s71 :: s72 :: s73 :: s74 :: s75 :: s76 :: s77 :: s78 :: s79 :: []).toArray, []⟩ w := by
  have hcl : css.length = n := by have := hR.1; rw [sev_len hs] at this; omega
  have hcut := fun w => run_cut_l (P := Tryz.prog) (T := 61) (by kernel_rfl) 7 (fun w => by kernel_rfl) A n c o ho w
  have hRc := hR.cut hs (c := c) (lo := o) (hi := n) ho (Nat.le_refl _) hnc
  rw [List.take_of_length_le (show css.length ≤ n by omega)] at hRc
  have hz := Lib.hid (fun (u : World) (hu : Ext w u) => (show u.cell? ⟨gp, 0, none⟩ = some (.int .i64 kd) ∧ u.cell? ⟨gp, 1, none⟩ = some (.string t) ∧ u.cell? ⟨gp, 2, none⟩ = some (.string d) ∧ u.cell? ⟨gp, 3, none⟩ = some (.slice AK nK cK) ∧ u.cell? ⟨gp, 4, none⟩ = some (.int .i64 r) ∧ u.cell? ⟨gp, 5, none⟩ = some (.int .i64 m) ∧ u.cell? ⟨gp, 6, none⟩ = some (.int .u8 ch) from
    ⟨(hu.cell (p := ⟨gp, 0, none⟩) hg).trans x0, (hu.cell (p := ⟨gp, 1, none⟩) hg).trans x1, (hu.cell (p := ⟨gp, 2, none⟩) hg).trans x2, (hu.cell (p := ⟨gp, 3, none⟩) hg).trans x3, (hu.cell (p := ⟨gp, 4, none⟩) hg).trans x4, (hu.cell (p := ⟨gp, 5, none⟩) hg).trans x5, (hu.cell (p := ⟨gp, 6, none⟩) hg).trans x6⟩))
  have hRow := Lib.hid (fun (u : World) (hu : Ext w u) => (show Row u w.heap.size 7 (cutA 7 A c o) (n - o) (css.drop o).flatten from by
    refine ⟨hRc.1, fun hp => ?_⟩
    obtain ⟨b, ofs, e, hq, hc⟩ := hRc.2 hp
    exact ⟨b, ofs, e, hQ b hq, fun j v hv => (hu.cell (p := ⟨b, ofs + j, none⟩) (hQ b hq)).trans (hc j v hv)⟩))
  have hone2 := Lib.hid (fun u (hu : u ∈ (css.drop o).flatten) => hone u (by
    obtain ⟨x, hx, hu⟩ := List.mem_flatten.1 hu
    exact List.mem_flatten.2 ⟨x, List.mem_of_mem_drop hx, hu⟩))
  generalize (css.drop o).flatten = news at *
  have hS : Ext w w.drew := ext_drew w
  replace hk := Lib.hid hk
  replace hpan := Lib.hid hpan
  clear hR hRc hQ hs hone hcl x0 x1 x2 x3 x4 x5 x6
  obtain ⟨z0, z1, z2, z3, z4, z5, z6⟩ := hz.out w.drew hS
  conv => arg 2; whnf
  refine wp_region_can ((true, 0) :: (true, 2) :: (true, 3) :: (true, 4) :: (false, 1) :: (false, 5) :: (true, 6) :: []) (Ext w) hS (by kernel_rfl) (by kernel_rfl) (by kernel_rfl) (fun _ _ _ _ _ h => hpan.out _ _ _ _ _ h) ?_
  refine wpCan_cons rfl ?_
  intro K hK
  go_simp
  refine ⟨fun w' hw' => by obtain ⟨z0, z1, z2, z3, z4, z5, z6⟩ := hz.out w' hw'; go_simp, hK _ _ _ ?_⟩
  clear hK K
  iterate 3 (first | refine wpCan_move rfl ?_ | (refine wpCan_cons rfl ?_; intro K hK; go_simp; refine hK _ _ _ ?_; clear hK K))
  refine wpCan_cons rfl ?_
  intro K hK
  go_simp
  have hE1 : Ext w (w.drew.alloc (.cells #[.int .i64 kd, .string t, .string d, .slice AK nK cK, .int .i64 r, .int .i64 m, .int .u8 ch] 68)) := hS.trans (ext_alloc _ _)
  refine ⟨Ext w, hE1, fun _ h => h, hK _ _ _ ?_⟩
  clear hK K
  have hown : (w.drew.alloc (.cells #[.int .i64 kd, .string t, .string d, .slice AK nK cK, .int .i64 r, .int .i64 m, .int .u8 ch] 68)).ownsRow w.heap.size 68 7 (.slice (some ⟨w.heap.size, 0, none⟩) 1 1) 1 (sevenC kd t d (.slice AK nK cK) r m ch) :=
    World.ownsRow_lit w.drew #[.int .i64 kd, .string t, .string d, .slice AK nK cK, .int .i64 r, .int .i64 m, .int .u8 ch] 1 (Nat.le_refl _) (by unfold maxLen; omega) rfl
  refine wpCan_app rfl rfl (.tmp 64) (.tmp 67) rfl partEI rfl hown rfl (hRow.out _ hE1) hone2.out (by omega) (by omega) (by simp) ?_
  intro v' w' hown2 _ hb2
  have hE2 : Ext w w' := Below.trans hE1 hb2
  refine ⟨Ext w, hE2, fun _ h => h, ?_⟩
  (first | refine wpCan_move rfl ?_ | (refine wpCan_cons rfl ?_; intro K hK; go_simp; refine hK _ _ _ ?_; clear hK K))
  refine wpCan_nil ?_
  exact hk.out _ _ _ _ _ _ _ _ hown2 hE2
end Go.Proofs.YtkfhkfagmokjpaaGreatDoor

namespace Go.Proofs.YtkfhkfagmokjpaaGreatDoor
open Go.RowKit
attribute [local go_sem] canOp readsAs readUpon

set_option maxHeartbeats 8000000 in
set_option maxRecDepth 100000 in
theorem stress_stores (a b d g gx n cp p q : Nat) (w : World) (ha : a < n) (hb : b < n) (hp : p ≤ 1000000000) (hq1 : q ≤ 1000000000) (hdp : d ≤ p) (hdq : d ≤ q) (hab : a ≠ b) (hgx : gx ≠ g) (hx : w.cell? ⟨gx, 2, none⟩ = some (.int .i64 (d : Int)))
    (h1 : w.cell? ⟨g, a * 7 + 5, none⟩ = some (.int .i64 (p : Int))) (h2 : w.cell? ⟨g, b * 7 + 5, none⟩ = some (.int .i64 (q : Int))) (fz1 : w.frozen? ⟨g, a * 7 + 5, none⟩ = false) (fz2 : w.frozen? ⟨g, b * 7 + 5, none⟩ = false)
    (s1 s2 s3 s4 s5 s9 s10 s11 s12 s13 s14 s15 s16 s17 s18 s19 s20 s21 s22 s23 s24 s25 s26 s27 s28 s29 s30 s31 s32 s33 s34 s35 s36 s37 s38 s39 s40 s41 s42 s43 s44 s45 s46 s47 s48 s49 s50 s51 s52 s53 s54 s55 s56 s57 s58 s59 s60 s61 s62 s63 s64 s65 s66 s67 s68 s69 s70 s71 s72 s73 s74 s75 s76 s77 s78 s79 : Value) (Q : Exit → Act → World → Prop) (hpan : ∀ c a d v w, Q (.panic c) (Act.put a d v) w → Q (.panic c) a w)
    (hk : ∀ (v39 v40 v41 v42 v43 v44 v45 v46 v47 v48 v49 v50 v51 v52 v53 v54 v55 v56 v57 v58 v59 v60 v61 v62 : Value) (wq : World), wq = ((w.setCell ⟨g, a * 7 + 5, none⟩ (.int .i64 ((p : Int) - d))).setCell ⟨g, b * 7 + 5, none⟩ (.int .i64 ((q : Int) - d))).drew → Q .normal ⟨(.slice (some ⟨g, 0, none⟩) n cp :: s1 :: s2 :: s3 :: s4 :: s5 :: .pointer (some ⟨gx, 0, none⟩) :: .int .i64 (a : Int) :: .int .i64 (b : Int) :: s9 :: s10 :: s11 :: s12 :: s13 :: s14 :: s15 :: s16 :: s17 :: s18 :: s19 :: s20 :: s21 :: s22 :: s23 :: s24 :: s25 :: s26 :: s27 :: s28 :: s29 :: s30 :: s31 :: s32 :: s33 :: s34 :: s35 :: s36 :: s37 :: s38 :: v39 :: v40 :: v41 :: v42 :: v43 :: v44 :: v45 :: v46 :: v47 :: v48 :: v49 :: v50 :: v51 :: v52 :: v53 :: v54 :: v55 :: v56 :: v57 :: v58 :: v59 :: v60 :: v61 :: v62 :: s63 :: s64 :: s65 :: s66 :: s67 :: s68 :: s69 :: s70 :: s71 :: s72 :: s73 :: s74 :: s75 :: s76 :: s77 :: s78 :: s79 :: []).toArray, []⟩ wq) :
    Code.wp Tryz.prog (regionAt Tryz.f33 9) Q ⟨(.slice (some ⟨g, 0, none⟩) n cp :: s1 :: s2 :: s3 :: s4 :: s5 :: .pointer (some ⟨gx, 0, none⟩) :: .int .i64 (a : Int) :: .int .i64 (b : Int) :: s9 :: s10 :: s11 :: s12 :: s13 :: s14 :: s15 :: s16 :: s17 :: s18 :: s19 :: s20 :: s21 :: s22 :: s23 :: s24 :: s25 :: s26 :: s27 :: s28 :: s29 :: s30 :: s31 :: s32 :: s33 :: s34 :: s35 :: s36 :: s37 :: s38 :: s39 :: s40 :: s41 :: s42 :: s43 :: s44 :: s45 :: s46 :: s47 :: s48 :: s49 :: s50 :: s51 :: s52 :: s53 :: s54 :: s55 :: s56 :: s57 :: s58 :: s59 :: s60 :: s61 :: s62 :: s63 :: s64 :: s65 :: s66 :: s67 :: s68 :: s69 :: s70 :: s71 :: s72 :: s73 :: s74 :: s75 :: s76 :: s77 :: s78 :: s79 :: []).toArray, []⟩ w := by
  have hwr1 : IntKind.i64.wrap ((p : Int) - d) = (p : Int) - d := by rw [IntKind.wrap_i64]; omega
  have hwr2 : IntKind.i64.wrap ((q : Int) - d) = (q : Int) - d := by rw [IntKind.wrap_i64]; omega
  have hoff : b * 7 + 5 ≠ a * 7 + 5 := by omega
  have h2' : (w.setCell ⟨g, a * 7 + 5, none⟩ (.int .i64 ((p : Int) - d))).cell? ⟨g, b * 7 + 5, none⟩ = some (.int .i64 (q : Int)) := by
    rw [World.cell?_setCell_other w ⟨g, a * 7 + 5, none⟩ ⟨g, b * 7 + 5, none⟩ _ (by intro h; injection h with _ h2 _; exact hoff h2.symm)]; exact h2
  have hx1 : (w.setCell ⟨g, a * 7 + 5, none⟩ (.int .i64 ((p : Int) - d))).cell? ⟨gx, 2, none⟩ = some (.int .i64 (d : Int)) :=
    (World.cell?_setCell_other w ⟨g, a * 7 + 5, none⟩ ⟨gx, 2, none⟩ _ (by intro h; injection h with h1 _ _; exact hgx h1.symm)).trans hx
  have hx2 : ((w.setCell ⟨g, a * 7 + 5, none⟩ (.int .i64 ((p : Int) - d))).setCell ⟨g, b * 7 + 5, none⟩ (.int .i64 ((q : Int) - d))).cell? ⟨gx, 2, none⟩ = some (.int .i64 (d : Int)) :=
    (World.cell?_setCell_other _ ⟨g, b * 7 + 5, none⟩ ⟨gx, 2, none⟩ _ (by intro h; injection h with h1 _ _; exact hgx h1.symm)).trans hx1
  have ha0 : (0 : Int) ≤ (a : Int) := by omega
  have hb0 : (0 : Int) ≤ (b : Int) := by omega
  have ha' : (a : Int) < (n : Int) := by omega
  have hb' : (b : Int) < (n : Int) := by omega
  replace hk := Lib.hid hk
  replace hpan := Lib.hid hpan
  have hS : (fun u : World => u.cell? ⟨gx, 2, none⟩ = some (.int .i64 (d : Int))) w.drew := hx
  conv => arg 2; whnf
  refine wp_region_tree (.rd 0 (.rd 1 (.rd 2 (.rd 3 (.rd 4 (.rd 5 (.rd 6 (.rd 7 (.rd 9 (.rd 10 (.rd 12 (.rd 13 (.rd 14 (.rd 15 (.rd 17 (.rd 18 (.fk 8 (.rd 11 (.mk 16 (.rd 19 (.rd 20 (.rd 21 (.mk 22 (.rd 23 (.rd 24 (.mk 25 .fin))))))))) 16 (.rd 19 (.mk 8 (.rd 11 (.rd 20 (.rd 21 (.mk 22 (.rd 23 (.rd 24 (.mk 25 .fin)))))))))))))))))))))))))) (fun u : World => u.cell? ⟨gx, 2, none⟩ = some (.int .i64 (d : Int))) hS (by kernel_rfl) (by kernel_rfl) (by kernel_rfl) (fun _ _ _ _ _ h => hpan.out _ _ _ _ _ h) ?_
  (first | refine wpT_move rfl ?_ | (refine wpT_rd rfl ?_; intro K hK; go_simp; refine hK _ _ _ ?_; clear hK K))
  (first | refine wpT_move rfl ?_ | (refine wpT_rd rfl ?_; intro K hK; go_simp; refine hK _ _ _ ?_; clear hK K))
  (first | refine wpT_move rfl ?_ | (refine wpT_rd rfl ?_; intro K hK; go_simp; refine hK _ _ _ ?_; clear hK K))
  (first | refine wpT_move rfl ?_ | (refine wpT_rd rfl ?_; intro K hK; go_simp; refine hK _ _ _ ?_; clear hK K))
  (first | refine wpT_move rfl ?_ | (refine wpT_rd rfl ?_; intro K hK; go_simp; refine hK _ _ _ ?_; clear hK K))
  (first | refine wpT_move rfl ?_ | (refine wpT_rd rfl ?_; intro K hK; go_simp; refine hK _ _ _ ?_; clear hK K))
  (first | refine wpT_move rfl ?_ | (refine wpT_rd rfl ?_; intro K hK; go_simp; refine hK _ _ _ ?_; clear hK K))
  (first | refine wpT_move rfl ?_ | (refine wpT_rd rfl ?_; intro K hK; go_simp; refine hK _ _ _ ?_; clear hK K))
  (first | refine wpT_move rfl ?_ | (refine wpT_rd rfl ?_; intro K hK; go_simp; refine hK _ _ _ ?_; clear hK K))
  (refine wpT_read (.int .i64 (d : Int)) rfl rfl hS (fun u hu => by have h1 : u.cell? ⟨gx, 2, none⟩ = some (.int .i64 (d : Int)) := hu; go_simp) ?_)
  (first | refine wpT_move rfl ?_ | (refine wpT_rd rfl ?_; intro K hK; go_simp; refine hK _ _ _ ?_; clear hK K))
  (first | refine wpT_move rfl ?_ | (refine wpT_rd rfl ?_; intro K hK; go_simp; refine hK _ _ _ ?_; clear hK K))
  (first | refine wpT_move rfl ?_ | (refine wpT_rd rfl ?_; intro K hK; go_simp; refine hK _ _ _ ?_; clear hK K))
  (first | refine wpT_move rfl ?_ | (refine wpT_rd rfl ?_; intro K hK; go_simp; refine hK _ _ _ ?_; clear hK K))
  (first | refine wpT_move rfl ?_ | (refine wpT_rd rfl ?_; intro K hK; go_simp; refine hK _ _ _ ?_; clear hK K))
  (refine wpT_read (.int .i64 (d : Int)) rfl rfl hS (fun u hu => by have h1 : u.cell? ⟨gx, 2, none⟩ = some (.int .i64 (d : Int)) := hu; go_simp) ?_)
  refine wpT_fk ?wa ?wb
  case' wa =>
    (refine wpT_mk rfl ?_; intro K hK; go_simp; refine ⟨(fun u : World => u.cell? ⟨gx, 2, none⟩ = some (.int .i64 (d : Int))), ?_, fun _ h => h, hK _ _ _ ?_⟩; (first | exact hx | exact hx1 | exact hx2); clear hK K)
    (first | refine wpT_move rfl ?_ | (refine wpT_rd rfl ?_; intro K hK; go_simp; refine hK _ _ _ ?_; clear hK K))
    (refine wpT_mk rfl ?_; intro K hK; go_simp; refine ⟨(fun u : World => u.cell? ⟨gx, 2, none⟩ = some (.int .i64 (d : Int))), ?_, fun _ h => h, hK _ _ _ ?_⟩; (first | exact hx | exact hx1 | exact hx2); clear hK K)
    (first | refine wpT_move rfl ?_ | (refine wpT_rd rfl ?_; intro K hK; go_simp; refine hK _ _ _ ?_; clear hK K))
    (first | refine wpT_move rfl ?_ | (refine wpT_rd rfl ?_; intro K hK; go_simp; refine hK _ _ _ ?_; clear hK K))
    (first | refine wpT_move rfl ?_ | (refine wpT_rd rfl ?_; intro K hK; go_simp; refine hK _ _ _ ?_; clear hK K))
    (refine wpT_mk rfl ?_; intro K hK; go_simp; refine ⟨(fun u : World => u.cell? ⟨gx, 2, none⟩ = some (.int .i64 (d : Int))), ?_, fun _ h => h, hK _ _ _ ?_⟩; (first | exact hx | exact hx1 | exact hx2); clear hK K)
    (first | refine wpT_move rfl ?_ | (refine wpT_rd rfl ?_; intro K hK; go_simp; refine hK _ _ _ ?_; clear hK K))
    (first | refine wpT_move rfl ?_ | (refine wpT_rd rfl ?_; intro K hK; go_simp; refine hK _ _ _ ?_; clear hK K))
    (refine wpT_mk rfl ?_; intro K hK; go_simp; refine ⟨(fun u : World => u.cell? ⟨gx, 2, none⟩ = some (.int .i64 (d : Int))), ?_, fun _ h => h, hK _ _ _ ?_⟩; (first | exact hx | exact hx1 | exact hx2); clear hK K)
    refine wpT_fin ?_
    exact hk.out _ _ _ _ _ _ _ _ _ _ _ _ _ _ _ _ _ _ _ _ _ _ _ _ _ rfl
  case' wb =>
    (refine wpT_mk rfl ?_; intro K hK; go_simp; refine ⟨(fun u : World => u.cell? ⟨gx, 2, none⟩ = some (.int .i64 (d : Int))), ?_, fun _ h => h, hK _ _ _ ?_⟩; (first | exact hx | exact hx1 | exact hx2); clear hK K)
    (first | refine wpT_move rfl ?_ | (refine wpT_rd rfl ?_; intro K hK; go_simp; refine hK _ _ _ ?_; clear hK K))
    (refine wpT_mk rfl ?_; intro K hK; go_simp; refine ⟨(fun u : World => u.cell? ⟨gx, 2, none⟩ = some (.int .i64 (d : Int))), ?_, fun _ h => h, hK _ _ _ ?_⟩; (first | exact hx | exact hx1 | exact hx2); clear hK K)
    (first | refine wpT_move rfl ?_ | (refine wpT_rd rfl ?_; intro K hK; go_simp; refine hK _ _ _ ?_; clear hK K))
    (first | refine wpT_move rfl ?_ | (refine wpT_rd rfl ?_; intro K hK; go_simp; refine hK _ _ _ ?_; clear hK K))
    (first | refine wpT_move rfl ?_ | (refine wpT_rd rfl ?_; intro K hK; go_simp; refine hK _ _ _ ?_; clear hK K))
    (refine wpT_mk rfl ?_; intro K hK; go_simp; refine ⟨(fun u : World => u.cell? ⟨gx, 2, none⟩ = some (.int .i64 (d : Int))), ?_, fun _ h => h, hK _ _ _ ?_⟩; (first | exact hx | exact hx1 | exact hx2); clear hK K)
    (first | refine wpT_move rfl ?_ | (refine wpT_rd rfl ?_; intro K hK; go_simp; refine hK _ _ _ ?_; clear hK K))
    (first | refine wpT_move rfl ?_ | (refine wpT_rd rfl ?_; intro K hK; go_simp; refine hK _ _ _ ?_; clear hK K))
    (refine wpT_mk rfl ?_; intro K hK; go_simp; refine ⟨(fun u : World => u.cell? ⟨gx, 2, none⟩ = some (.int .i64 (d : Int))), ?_, fun _ h => h, hK _ _ _ ?_⟩; (first | exact hx | exact hx1 | exact hx2); clear hK K)
    refine wpT_fin ?_
    exact hk.out _ _ _ _ _ _ _ _ _ _ _ _ _ _ _ _ _ _ _ _ _ _ _ _ _ rfl
end Go.Proofs.YtkfhkfagmokjpaaGreatDoor

namespace Go.Proofs.YtkfhkfagmokjpaaGreatDoor.Il

/-- each run among the parts has what its pairs left it -/
def LeftOK (N : Nat → Nat) (Y : List (Nat × Nat × Nat)) (l : List Pt) : Prop := ∀ p ∈ l, ∀ r, p.run = some r → p.left + Em.used Y r = N r
/-- the two runs of a pair have enough -/
theorem left_two {N : Nat → Nat} {Y : List (Nat × Nat × Nat)} {l : List Pt} {a b s : Nat} (hL : LeftOK N Y l) (hN : ∀ r, Em.used (Y ++ [(a, b, s)]) r ≤ N r) (hs : (rns l).Pairwise (· < ·)) (ha : a ∈ rns l) (hb : b ∈ rns l) (hab : a < b) :
    ∃ (h1 : place l a < l.length) (h2 : place l b < l.length), place l a < place l b ∧ s ≤ l[place l a].left ∧ s ≤ l[place l b].left ∧ l[place l a].left ≤ N a ∧ l[place l b].left ≤ N b ∧ l[place l a].run = some a ∧ l[place l b].run = some b := by
  obtain ⟨A, p, B, q, C, rfl, hp, hq, h1, h2, h3, h4, h5⟩ := place_two hs ha hb hab
  have la : place (A ++ p :: (B ++ q :: C)) a < (A ++ p :: (B ++ q :: C)).length := by rw [h1]; simp
  have lb : place (A ++ p :: (B ++ q :: C)) b < (A ++ p :: (B ++ q :: C)).length := by rw [h2]; simp; omega
  have ga : (A ++ p :: (B ++ q :: C))[place (A ++ p :: (B ++ q :: C)) a] = p := by
    have : (A ++ p :: (B ++ q :: C))[place (A ++ p :: (B ++ q :: C)) a]? = some p := by rw [h1]; simp
    rw [List.getElem?_eq_getElem la] at this
    exact Option.some.inj this
  have gb : (A ++ p :: (B ++ q :: C))[place (A ++ p :: (B ++ q :: C)) b] = q := by
    have : (A ++ p :: (B ++ q :: C))[place (A ++ p :: (B ++ q :: C)) b]? = some q := by
      rw [h2, show A ++ p :: (B ++ q :: C) = (A ++ p :: B) ++ q :: C by simp, List.getElem?_append_right (by simp; omega)]
      have : A.length + 1 + B.length - (A ++ p :: B).length = 0 := by simp; omega
      rw [this]; rfl
    rw [List.getElem?_eq_getElem lb] at this
    exact Option.some.inj this
  have up := hL p (by simp) a hp
  have uq := hL q (by simp) b hq
  have n1 := hN a
  have n2 := hN b
  rw [Em.used_snoc] at n1 n2
  simp only at n1 n2
  rw [if_pos trivial, if_neg (show ¬ b = a by omega)] at n1
  rw [if_neg (show ¬ a = b by omega), if_pos trivial] at n2
  refine ⟨la, lb, by omega, ?_, ?_, ?_, ?_, ?_, ?_⟩
  · rw [ga]; omega
  · rw [gb]; omega
  · rw [ga]; omega
  · rw [gb]; omega
  · rw [ga]; exact hp
  · rw [gb]; exact hq
theorem left_join {N : Nat → Nat} {Y : List (Nat × Nat × Nat)} {l : List Pt} {a b s : Nat} (hL : LeftOK N Y l) (hN : ∀ r, Em.used (Y ++ [(a, b, s)]) r ≤ N r) (hs : (rns l).Pairwise (· < ·)) (ha : a ∈ rns l) (hb : b ∈ rns l) (hab : a < b) :
    LeftOK N (Y ++ [(a, b, s)]) (joinPair l (a, b, s)) := by
  obtain ⟨A, p, B, q, C, rfl, hp, hq, h1, h2, h3, h4, h5⟩ := place_two hs ha hb hab
  rw [joinPair_eq h1 h2]
  have n1 := hN a
  have n2 := hN b
  rw [Em.used_snoc] at n1 n2
  simp only at n1 n2
  rw [if_pos trivial, if_neg (show ¬ b = a by omega)] at n1
  rw [if_neg (show ¬ a = b by omega), if_pos trivial] at n2
  intro x hx r hr
  rw [Em.used_snoc]
  simp only
  have other : ∀ y ∈ A ++ p :: (B ++ q :: C), ∀ r, y.run = some r → r ≠ a → r ≠ b → y.left + (Em.used Y r + ((if a = r then s else 0) + if b = r then s else 0)) = N r := by
    intro y hy r hr n1 n2
    have := hL y hy r hr
    rw [if_neg (Ne.symm n1), if_neg (Ne.symm n2)]; omega
  rcases List.mem_append.1 hx with h | h
  · have hm : r ∈ rns A := mem_rns.2 ⟨x, h, hr⟩
    have := h3 r hm
    exact other x (by simp [h]) r hr (by omega) (by omega)
  · rcases List.mem_cons.1 h with rfl | h
    · have e : r = a := by simp only at hr; rw [hp] at hr; exact (Option.some.inj hr).symm
      subst e
      have := hL p (by simp) r hp
      rw [if_pos rfl, if_neg (by omega)]
      simp only; omega
    · rcases List.mem_cons.1 h with rfl | h
      · simp at hr
      · rcases List.mem_cons.1 h with rfl | h
        · have e : r = b := by simp only at hr; rw [hq] at hr; exact (Option.some.inj hr).symm
          subst e
          have := hL q (by simp) r hq
          rw [if_neg (by omega), if_pos rfl]
          simp only; omega
        · have hm : r ∈ rns C := mem_rns.2 ⟨x, h, hr⟩
          have := h5 r hm
          exact other x (by simp [h]) r hr (by omega) (by omega)
theorem used_part (X : List (Nat × Nat × Nat)) (k r : Nat) : Em.used (X.take k) r ≤ Em.used X r := by
  conv => rhs; rw [← List.take_append_drop k X]
  unfold Em.used
  rw [List.map_append, List.sum_append]; omega
end Go.Proofs.YtkfhkfagmokjpaaGreatDoor.Il

namespace Go.Proofs.YtkfhkfagmokjpaaGreatDoor
open Go.RowKit

/-- blocks of the call's own, but one row's -/
def IlQB (base : Nat) (v : Value) (w : World) : Nat → Prop := fun b => base ≤ b ∧ b < w.heap.size ∧ v.ownBlock ≠ some b
theorem IlQB.ext {base : Nat} {v : Value} {w u : World} (hu : Ext w u) {b : Nat} (h : IlQB base v w b) : IlQB base v u b := ⟨h.1, Nat.lt_of_lt_of_le h.2.1 hu.size, h.2.2⟩
theorem PCs_ext {base : Nat} {v : Value} {w u : World} (hu : Ext w u) {l : List Il.Pt} {css : List (List Value)} (h : PCs w (IlQB base v w) l css) : PCs u (IlQB base v u) l css :=
  PCs_frame (fun b hb => hu.block b hb.2.1) (fun _ hb => hb.ext hu) h
theorem PCs_one {w : World} {Q : Nat → Prop} : ∀ {l : List Il.Pt} {css : List (List Value)}, PCs w Q l css → ∀ u ∈ css.flatten, u.oneCell' = true
  | [], css, h => by cases h; intro u hu; simp at hu
  | ⟨.mk kd t d ks, rn, n, ch⟩ :: _, _, ⟨c0, cr, h1, h2, h3⟩ => by
    subst h1
    intro u hu
    rw [List.flatten_cons] at hu
    rcases List.mem_append.1 hu with hu | hu
    · obtain ⟨A, c, css, rfl, _⟩ := PC_form h2
      simp only [List.mem_cons, List.not_mem_nil, or_false] at hu
      rcases hu with rfl | rfl | rfl | rfl | rfl | rfl | rfl <;> rfl
    · exact PCs_one h3 u hu
theorem il_some {w : World} {B size n : Nat} {E : TypeId} {v : Value} {xs : List Value} (h : w.ownsRow B E size v n xs) (hn : 0 < n) : ∃ g c, v = .slice (some ⟨g, 0, none⟩) n c ∧ n ≤ c ∧ B ≤ g ∧ g < w.heap.size := by
  rcases h.2 with ⟨_, h0⟩ | ⟨g, c, cur, rfl, hB, hg, hc, _⟩
  · omega
  · exact ⟨g, c, rfl, hc, hB, (Array.getElem?_eq_some_iff.1 hg).1⟩
theorem run_short7 {P : Program} {T : TypeId} (hT : P.underlying T = some (.slice (P.elem T))) (size : Nat) (hsz : ∀ w, (sizeOf (P.elem T)).run P w = .ok size w) (g n c hi : Nat) {v : Int} (hv : v = (hi : Int)) (h2 : hi ≤ c) (w : World) :
    (Instr.slice T (.slice (some ⟨g, 0, none⟩) n c) none (some (.int .i64 v)) none).run P w = .ok (.slice (some ⟨g, 0, none⟩) hi c) w := by
  subst hv
  rw [run_slice_h w T (some ⟨g, 0, none⟩) n c hT .i64 hi (by omega) (by omega), hsz]
  simp [sliced, Result.andThen]
  intro _
  unfold Addr.add
  split <;> simp_all

/-! ### what holds behind each pair -/
/-- how many signs a run has -/
def Il.cnt (runs : List Em.R) (r : Nat) : Nat := (Em.get runs r).n.toNat
structure Il.Ready (l : List Il.Pt) (runs : List Em.R) : Prop where
  sorted : (Il.rns l).Pairwise (· < ·)
  all : ∀ i, i < runs.length → i ∈ Il.rns l
  left : ∀ p ∈ l, ∀ r, p.run = some r → p.left = Il.cnt runs r
  pos : ∀ r ∈ runs, 0 ≤ r.n ∧ r.n ≤ 1000000000
theorem Il.cnt_held {runs : List Em.R} (hp : ∀ r ∈ runs, 0 ≤ r.n ∧ r.n ≤ 1000000000) {r : Nat} (hr : r < runs.length) : Em.held (Em.get runs r).n ≤ Il.cnt runs r ∧ Il.cnt runs r ≤ 1000000000 := by
  rw [Em.get_at hr]
  unfold Il.cnt
  rw [Em.get_at hr]
  have := hp _ (List.getElem_mem hr)
  unfold Em.held
  omega
theorem Il.cnt_le {runs : List Em.R} (hp : ∀ r ∈ runs, 0 ≤ r.n ∧ r.n ≤ 1000000000) (r : Nat) : Il.cnt runs r ≤ 1000000000 := by
  rcases Nat.lt_or_ge r runs.length with h | h
  · exact (Il.cnt_held hp h).2
  · unfold Il.cnt Em.get
    simp [List.getD, List.getElem?_eq_none h, Em.none_]
theorem Il.used_zero {X : List (Nat × Nat × Nat)} {r : Nat} (h : ∀ x ∈ X, x.1 ≠ r ∧ x.2.1 ≠ r) : Em.used X r = 0 := by
  induction X with
  | nil => rfl
  | cons x X ih =>
    have h1 := h x (by simp)
    have h2 := ih (fun y hy => h y (by simp [hy]))
    unfold Em.used at *
    rw [List.map_cons, List.sum_cons, h2, if_neg h1.1, if_neg h1.2]
theorem Il.used_le {runs : List Em.R} (hp : ∀ r ∈ runs, 0 ≤ r.n ∧ r.n ≤ 1000000000) (r : Nat) : Em.used (Em.pairs runs) r ≤ Il.cnt runs r := by
  have hi := Em.inv_pairs runs
  rcases Nat.lt_or_ge r runs.length with h | h
  · have h1 := hi.sum r h
    have h2 := (Il.cnt_held hp h).1
    have h3 : Em.used (Em.pairs runs) r = Em.used (Em.outer runs runs.length 0 (runs.map (fun r => Em.held r.n), [])).2 r := rfl
    omega
  · have h0 : Em.used (Em.pairs runs) r = 0 := Il.used_zero fun x hx => by
      have hg := hi.good x hx
      omega
    omega
/-- the parts behind so many pairs -/
def Il.behindP (l : List Il.Pt) (X : List (Nat × Nat × Nat)) (k : Nat) : List Il.Pt := (X.take k).foldl Il.joinPair l
theorem Il.behind_next {l : List Il.Pt} {X : List (Nat × Nat × Nat)} {k : Nat} (hk : k < X.length) : Il.behindP l X (k + 1) = Il.joinPair (Il.behindP l X k) X[k] := by
  unfold Il.behindP
  rw [List.take_succ_eq_append_getElem hk, List.foldl_append]; rfl
structure Il.Holds (l : List Il.Pt) (runs : List Em.R) (X : List (Nat × Nat × Nat)) (k : Nat) : Prop where
  sorted : (Il.rns (Il.behindP l X k)).Pairwise (· < ·)
  there : ∀ j (hj : j < X.length), k ≤ j → X[j].1 ∈ Il.rns (Il.behindP l X k) ∧ X[j].2.1 ∈ Il.rns (Il.behindP l X k)
  left : Il.LeftOK (Il.cnt runs) (X.take k) (Il.behindP l X k)
  len : (Il.behindP l X k).length ≤ l.length + k
  heft : Il.heft (Il.behindP l X k) ≤ Il.heft l
theorem Il.good_pairs (runs : List Em.R) : ∀ x ∈ Em.pairs runs, x.1 < x.2.1 ∧ x.2.1 < runs.length ∧ 1 ≤ x.2.2 ∧ x.2.2 ≤ 2 := fun x hx => by
  have hg := (Em.inv_pairs runs).good x hx
  exact ⟨hg.1, hg.2.2.1, hg.2.2.2.1, hg.2.2.2.2.1⟩
theorem Il.holds_all {l : List Il.Pt} {runs : List Em.R} (h : Il.Ready l runs) : ∀ k, k ≤ (Em.pairs runs).length → Il.Holds l runs (Em.pairs runs) k := by
  have hg := Il.good_pairs runs
  have hf := Il.fold_ok (X := Em.pairs runs) (l := l) h.sorted (fun x hx => ⟨h.all _ (by have := hg x hx; omega), h.all _ (by have := hg x hx; omega), (hg x hx).1⟩) (Em.outside_pairs runs)
  intro k
  induction k with
  | zero =>
    intro hk
    refine ⟨(hf 0 hk).1, (hf 0 hk).2, ?_, by simp [Il.behindP], by simp [Il.behindP]⟩
    intro p hp r hr
    simp only [Il.behindP, List.take_zero, List.foldl_nil] at hp
    have := h.left p hp r hr
    simp [Em.used, this]
  | succ k ih =>
    intro hk
    have hk' : k < (Em.pairs runs).length := by omega
    have i := ih (by omega)
    have ht := i.there k hk' (Nat.le_refl _)
    have hx := hg _ (List.getElem_mem hk')
    have hn : ∀ r, Em.used ((Em.pairs runs).take k ++ [((Em.pairs runs)[k].1, (Em.pairs runs)[k].2.1, (Em.pairs runs)[k].2.2)]) r ≤ Il.cnt runs r := fun r => by
      rw [show ((Em.pairs runs)[k].1, (Em.pairs runs)[k].2.1, (Em.pairs runs)[k].2.2) = (Em.pairs runs)[k] from rfl, ← List.take_succ_eq_append_getElem hk']
      exact Nat.le_trans (Il.used_part _ _ _) (Il.used_le h.pos r)
    have hj := Il.heft_join (s := (Em.pairs runs)[k].2.2) i.sorted ht.1 ht.2 hx.1
    have hl := Il.left_join i.left hn i.sorted ht.1 ht.2 hx.1
    refine ⟨(hf (k + 1) hk).1, (hf (k + 1) hk).2, ?_, ?_, ?_⟩
    · rw [Il.behind_next hk', List.take_succ_eq_append_getElem hk']; exact hl
    · rw [Il.behind_next hk']; have := hj.2; have := i.len; simp only [Prod.eta] at *; omega
    · rw [Il.behind_next hk']; have := hj.1; have := i.heft; simp only [Prod.eta] at *; omega
end Go.Proofs.YtkfhkfagmokjpaaGreatDoor

namespace Go.Proofs.YtkfhkfagmokjpaaGreatDoor.Il
open Go.Lib

theorem pput_cases (l : List Pt) (s : List UInt8) : (∃ l' t d k n c, l = l' ++ [⟨.mk 0 t d k, none, n, c⟩] ∧ pput l s = l' ++ [⟨.mk 0 (t ++ s) d k, none, n, c⟩]) ∨ pput l s = l ++ [⟨word s, none, 0, 0⟩] := by
  rcases List.eq_nil_or_concat l with rfl | ⟨l', p, rfl⟩
  · exact .inr (pput_nil s)
  · rw [List.concat_eq_append]
    obtain ⟨⟨kd, t, d, ks⟩, r, n, c⟩ := p
    cases r with
    | some r => exact .inr (pput_run l' _ r n c s)
    | none =>
      by_cases hk : kd = 0
      · subst hk; exact .inl ⟨l', t, d, ks, n, c, rfl, pput_join l' t d s ks n c⟩
      · exact .inr (pput_kind l' hk t d ks none n c s)
theorem pput_rns (l : List Pt) (s : List UInt8) : rns (pput l s) = rns l := by
  rcases pput_cases l s with ⟨l', t, d, k, n, c, rfl, h⟩ | h
  · rw [h, rns_append, rns_append]; rfl
  · rw [h, rns_append, rns_cons]; simp [rns]
theorem pput_mem {l : List Pt} {s : List UInt8} {p : Pt} {r : Nat} (h : p ∈ pput l s) (hr : p.run = some r) : p ∈ l := by
  rcases pput_cases l s with ⟨l', t, d, k, n, c, rfl, e⟩ | e
  · rw [e] at h
    rcases List.mem_append.1 h with h | h
    · simp [h]
    · obtain rfl := List.mem_singleton.1 h; cases hr
  · rw [e] at h
    rcases List.mem_append.1 h with h | h
    · exact h
    · obtain rfl := List.mem_singleton.1 h; cases hr
theorem pput_len (l : List Pt) (s : List UInt8) : (pput l s).length ≤ l.length + 1 := by
  rcases pput_cases l s with ⟨l', t, d, k, n, c, rfl, h⟩ | h <;> rw [h] <;> simp
theorem pput_heft (l : List Pt) (s : List UInt8) : heft (pput l s) = heft l + s.length := by
  rcases pput_cases l s with ⟨l', t, d, k, n, c, rfl, h⟩ | h
  · rw [h, heft_append, heft_append, heft_cons, heft_cons]
    simp only [eff_none, tlen, List.length_append]
    have : heft ([] : List Pt) = 0 := rfl
    omega
  · rw [h, heft_append, heft_cons]
    have : heft ([] : List Pt) = 0 := rfl
    simp only [word, eff_none, tlen]
    omega

/-- what holds of what has been read up to a place -/
structure ScOK (st : Sc) (i : Nat) : Prop where
  rns : rns st.l = List.range st.runs.length
  left : ∀ p ∈ st.l, ∀ r, p.run = some r → p.left = cnt st.runs r
  pos : ∀ r ∈ st.runs, 0 ≤ r.n ∧ r.n ≤ 1000000000
  len : st.l.length ≤ i
  heft : heft st.l ≤ 4 * i
  rlen : st.runs.length ≤ i
theorem scok_start : ScOK ⟨[], []⟩ 0 := ⟨rfl, by simp, by simp, Nat.le_refl _, Nat.le_refl _, Nat.le_refl _⟩
theorem scok_put {st : Sc} {i e : Nat} (h : ScOK st i) (hi : i < e) {s : List UInt8} (hs : s.length ≤ 4 * (e - i)) : ScOK ⟨pput st.l s, st.runs⟩ e := by
  have h1 := pput_len st.l s
  have h2 := pput_heft st.l s
  have h3 := h.len
  have h4 := h.heft
  have h5 := h.rlen
  exact ⟨by rw [pput_rns]; exact h.rns, fun p hp r hr => h.left p (pput_mem hp hr) r hr, h.pos, by simp only; omega, by simp only; omega, by simp only; omega⟩
theorem scok_push {st : Sc} {i e : Nat} (h : ScOK st i) (hi : i < e) {x : In} (hx : tlen x ≤ 4 * (e - i)) : ScOK ⟨st.l ++ [⟨x, none, 0, 0⟩], st.runs⟩ e := by
  have h3 := h.len
  have h4 := h.heft
  have h5 := h.rlen
  obtain ⟨kd, t, d, ks⟩ := x
  refine ⟨by rw [rns_append, rns_cons]; simpa [Il.rns] using h.rns, fun p hp r hr => ?_, h.pos, by simp only [List.length_append, List.length_singleton]; omega, ?_, by simp only; omega⟩
  · rcases List.mem_append.1 hp with hp | hp
    · exact h.left p hp r hr
    · obtain rfl := List.mem_singleton.1 hp; cases hr
  · rw [heft_append, heft_cons]
    have : Il.heft ([] : List Pt) = 0 := rfl
    simp only [eff_none, tlen] at hx ⊢
    omega
theorem cnt_snoc (runs : List Em.R) (x : Em.R) {r : Nat} (hr : r < runs.length) : cnt (runs ++ [x]) r = cnt runs r := by
  unfold cnt
  rw [Em.get_at (by simp; omega), Em.get_at hr, List.getElem_append_left hr]
theorem scok_run {st : Sc} {i e : Nat} (h : ScOK st i) (hi : i < e) {x : Em.R} (hx : x.n = ((e - i : Nat) : Int)) (he : e ≤ 1000000000) : ScOK ⟨st.l ++ [⟨none_, some st.runs.length, x.n.toNat, x.ch⟩], st.runs ++ [x]⟩ e := by
  have h3 := h.len
  have h4 := h.heft
  have h5 := h.rlen
  have hm : ∀ p ∈ st.l, ∀ r, p.run = some r → r < st.runs.length := fun p hp r hr => by
    have : r ∈ Il.rns st.l := mem_rns.2 ⟨p, hp, hr⟩
    rw [h.rns] at this
    exact List.mem_range.1 this
  refine ⟨?_, fun p hp r hr => ?_, fun r hr => ?_, by simp only [List.length_append, List.length_singleton]; omega, ?_, by simp only [List.length_append, List.length_singleton]; omega⟩
  · simp only
    rw [rns_append, rns_one ⟨none_, some st.runs.length, x.n.toNat, x.ch⟩ [] rfl, h.rns, List.length_append, List.length_singleton, List.range_succ]
    rfl
  · rcases List.mem_append.1 hp with hp | hp
    · simp only
      rw [cnt_snoc _ _ (hm p hp r hr)]; exact h.left p hp r hr
    · obtain rfl := List.mem_singleton.1 hp
      obtain rfl : st.runs.length = r := Option.some.inj hr
      simp only
      unfold cnt
      rw [Em.get_at (by simp)]
      simp
  · rcases List.mem_append.1 hr with hr | hr
    · exact h.pos r hr
    · obtain rfl := List.mem_singleton.1 hr; omega
  · simp only
    rw [heft_append, heft_cons]
    have : Il.heft ([] : List Pt) = 0 := rfl
    have e1 : tlen (eff ⟨none_, some st.runs.length, x.n.toNat, x.ch⟩) = x.n.toNat := by simp [none_, eff_some, tlen]
    omega
theorem scok_ready {st : Sc} {i : Nat} (h : ScOK st i) : Ready st.l st.runs :=
  ⟨by rw [h.rns]; exact List.pairwise_lt_range, fun i hi => by rw [h.rns]; exact List.mem_range.2 hi, h.left, h.pos⟩
end Go.Proofs.YtkfhkfagmokjpaaGreatDoor.Il

namespace Go.Proofs.YtkfhkfagmokjpaaGreatDoor.Il
open Go.Lib

theorem few_bare {k : Nat} (hk : k ≤ 1000) (t d : List UInt8) : Few (.mk k t d []) := .mk hk (by simp) (by simp)
theorem few_text {k : Nat} {t d : List UInt8} {ks : List In} (h : Few (.mk k t d ks)) (t' d' : List UInt8) : Few (.mk k t' d' ks) := by
  cases h with
  | mk h1 h2 h3 => exact .mk h1 h2 h3
theorem few_eff {p : Pt} (h : Few p.inn) : Few (eff p) := by
  obtain ⟨⟨k, t, d, ks⟩, r, n, c⟩ := p
  cases r with
  | none => exact h
  | some r => exact few_text h _ _
theorem iput_cases (out : List In) (x : In) : iput out x = out ∨ (∃ o t' d' ks' t d ks, out = o ++ [.mk 0 t' d' ks'] ∧ x = .mk 0 t d ks ∧ iput out x = o ++ [.mk 0 (t' ++ t) d' ks']) ∨ iput out x = out ++ [x] := by
  obtain ⟨kd, t, d, ks⟩ := x
  by_cases hk : kd = 0
  · subst hk
    by_cases ht : t = []
    · subst ht; exact .inl (iput_empty out d ks)
    · rcases List.eq_nil_or_concat out with rfl | ⟨o, y, rfl⟩
      · exact .inr (.inr (by rw [iput_first ht]; rfl))
      · rw [List.concat_eq_append]
        obtain ⟨kd', t', d', ks'⟩ := y
        by_cases hk' : kd' = 0
        · subst hk'; exact .inr (.inl ⟨o, t', d', ks', t, d, ks, rfl, rfl, iput_join o ht t' d' d ks' ks⟩)
        · exact .inr (.inr (iput_apart o ht hk' t' d' d ks' ks))
  · exact .inr (.inr (iput_kind out hk t d ks))
theorem iput_few {out : List In} {x : In} (h : ∀ y ∈ out, Few y) (hx : Few x) : (∀ y ∈ iput out x, Few y) ∧ (iput out x).length ≤ out.length + 1 ∧ (txts (iput out x)).length ≤ (txts out).length + (txt x).length := by
  rcases iput_cases out x with e | ⟨o, t', d', ks', t, d, ks, rfl, rfl, e⟩ | e
  · rw [e]; exact ⟨h, by omega, by omega⟩
  · rw [e]
    refine ⟨fun y hy => ?_, by simp, ?_⟩
    · rcases List.mem_append.1 hy with hy | hy
      · exact h y (by simp [hy])
      · obtain rfl := List.mem_singleton.1 hy
        exact few_text (h (.mk 0 t' d' ks') (by simp)) _ _
    · rw [txts_snoc, txts_snoc]
      simp only [txt, List.length_append]
      simp
      omega
  · rw [e]
    refine ⟨fun y hy => ?_, by simp, by rw [txts_snoc, List.length_append]; omega⟩
    rcases List.mem_append.1 hy with hy | hy
    · exact h y hy
    · obtain rfl := List.mem_singleton.1 hy; exact hx
/-- what all parts say -/
def weight (l : List Pt) : Nat := (l.map fun p => (txt (eff p)).length).sum
theorem weight_append (a b : List Pt) : weight (a ++ b) = weight a + weight b := by simp [weight]
theorem weight_cons (p : Pt) (b : List Pt) : weight (p :: b) = (txt (eff p)).length + weight b := by simp [weight]
theorem fold_few : ∀ (l : List Pt) (out : List In), (∀ y ∈ out, Few y) → (∀ p ∈ l, Few p.inn) → (∀ y ∈ l.foldl (fun out p => iput out (eff p)) out, Few y) ∧ (l.foldl (fun out p => iput out (eff p)) out).length ≤ out.length + l.length ∧ (txts (l.foldl (fun out p => iput out (eff p)) out)).length ≤ (txts out).length + weight l
  | [], out, h, _ => ⟨h, by simp, by simp [weight]⟩
  | p :: l, out, h, hl => by
    obtain ⟨h1, h2, h3⟩ := iput_few h (few_eff (hl p (by simp)))
    obtain ⟨k1, k2, k3⟩ := fold_few l _ h1 (fun q hq => hl q (by simp [hq]))
    rw [List.foldl_cons, weight_cons]
    refine ⟨k1, by rw [List.length_cons]; omega, by omega⟩
theorem settle_few {l : List Pt} (h : ∀ p ∈ l, Few p.inn) : (∀ y ∈ settle l, Few y) ∧ (settle l).length ≤ l.length ∧ (txts (settle l)).length ≤ weight l := by
  have := fold_few l [] (by simp) h
  simpa [settle, txts] using this
theorem weight_less {p : Pt} {r : Nat} (h : p.run = some r) (s : Nat) : (txt (eff { p with left := p.left - s })).length ≤ (txt (eff p)).length := by
  obtain ⟨⟨kd, t, d, ks⟩, rn, n, c⟩ := p
  simp only at h
  subst h
  simp only [eff_some, txt, List.length_append, List.length_replicate]
  omega
/-- a pair makes it no more -/
theorem weight_join {l : List Pt} {a b s : Nat} (hs : (rns l).Pairwise (· < ·)) (ha : a ∈ rns l) (hb : b ∈ rns l) (hab : a < b) (hl : l.length ≤ 1000000000) (hf : ∀ p ∈ l, Few p.inn) : (∀ p ∈ joinPair l (a, b, s), Few p.inn) ∧ weight (joinPair l (a, b, s)) ≤ weight l := by
  obtain ⟨A, p, B, q, C, rfl, hp, hq, h1, h2, _, _, _⟩ := place_two hs ha hb hab
  rw [joinPair_eq h1 h2]
  obtain ⟨k1, k2, k3⟩ := settle_few (l := B) (fun x hx => hf x (by simp [hx]))
  have hBl : B.length ≤ 1000000000 := by simp only [List.length_append, List.length_cons] at hl; omega
  constructor
  · intro x hx
    simp only [List.mem_append, List.mem_cons] at hx
    rcases hx with hx | rfl | rfl | rfl | hx
    · exact hf x (by simp [hx])
    · exact hf p (by simp)
    · exact .mk (by split <;> omega) (by omega) k1
    · exact hf q (by simp)
    · exact hf x (by simp [hx])
  · have e1 := weight_less hp s
    have e2 := weight_less hq s
    have e3 : (txt (eff ⟨.mk (if s = 2 then 3 else 2) [] [] (settle B), none, 0, 0⟩)).length = (txts (settle B)).length := by
      rw [eff_none]
      have : (if s = 2 then 3 else 2) ≠ 5 := by split <;> omega
      simp [txt, this]
    rw [weight_append, weight_append, weight_cons, weight_cons, weight_cons, weight_cons, weight_append, weight_cons, e3]
    omega
theorem stress_few {l : List Pt} {runs : List Em.R} (h : Ready l runs) (hf : ∀ p ∈ l, Few p.inn) (hr : runs.length ≤ 4000000) (hl : l.length ≤ 500000000) : (∀ y ∈ stress l runs, Few y) ∧ (stress l runs).length ≤ 1000000000 ∧ (txts (stress l runs)).length ≤ weight l := by
  have hbd := Em.bd_pairs runs
  have key : ∀ k, k ≤ (Em.pairs runs).length → (∀ p ∈ behindP l (Em.pairs runs) k, Few p.inn) ∧ weight (behindP l (Em.pairs runs) k) ≤ weight l := by
    intro k
    induction k with
    | zero => intro _; exact ⟨by simpa [behindP] using hf, by simp [behindP]⟩
    | succ k ih =>
      intro hk
      have hk' : k < (Em.pairs runs).length := by omega
      have i := ih (by omega)
      have hh := holds_all h k (by omega)
      have ht := hh.there k hk' (Nat.le_refl _)
      have hg := good_pairs runs _ (List.getElem_mem hk')
      have hlen := hh.len
      have := weight_join (s := (Em.pairs runs)[k].2.2) hh.sorted ht.1 ht.2 hg.1 (by omega) i.1
      rw [behind_next hk']
      exact ⟨this.1, Nat.le_trans this.2 i.2⟩
  have e : stress l runs = settle (behindP l (Em.pairs runs) (Em.pairs runs).length) := by unfold stress behindP; rw [List.take_of_length_le (Nat.le_refl _)]
  obtain ⟨k1, k2⟩ := key _ (Nat.le_refl _)
  obtain ⟨s1, s2, s3⟩ := settle_few k1
  have hlen := (holds_all h _ (Nat.le_refl _)).len
  rw [e]
  exact ⟨s1, by omega, by omega⟩
end Go.Proofs.YtkfhkfagmokjpaaGreatDoor.Il

namespace Go.Proofs.YtkfhkfagmokjpaaGreatDoor.Il
open Go.Lib

/-! ### the later pair closes no earlier -/
def later (y x : Nat × Nat × Nat) : Prop := y.2.1 ≤ x.2.1
theorem later_innerF {l : List Em.R} {c : Nat} : ∀ (f : Nat) (st : Em.St), (∀ x ∈ st.2, x.2.1 ≤ c) → st.2.Pairwise later → (Em.innerF l c f st).2.Pairwise later ∧ ∀ x ∈ (Em.innerF l c f st).2, x.2.1 ≤ c
  | 0, _, h, hp => ⟨hp, h⟩
  | f + 1, st, h, hp => by
    unfold Em.innerF
    split
    · split
      · exact ⟨hp, h⟩
      · rename_i o ho
        refine later_innerF f _ (fun x hx => ?_) ?_
        · rcases List.mem_append.1 hx with hx | hx
          · exact h x hx
          · obtain rfl := List.mem_singleton.1 hx; exact Nat.le_refl _
        · rw [List.pairwise_append]
          refine ⟨hp, List.pairwise_singleton _ _, fun y hy x hx => ?_⟩
          obtain rfl := List.mem_singleton.1 hx
          exact h y hy
    · exact ⟨hp, h⟩
theorem later_outer {l : List Em.R} : ∀ (k c : Nat) (st : Em.St), (∀ x ∈ st.2, x.2.1 ≤ c) → st.2.Pairwise later → (Em.outer l k c st).2.Pairwise later
  | 0, _, _, _, hp => hp
  | k + 1, c, st, h, hp => by
    have := later_innerF (l := l) (c := c) (Em.lf st.1 c) st h hp
    exact later_outer k (c + 1) _ (fun x hx => Nat.le_succ_of_le (this.2 x hx)) this.1
theorem later_pairs (l : List Em.R) : (Em.pairs l).Pairwise later := later_outer l.length 0 _ (by simp) List.Pairwise.nil

/-! ### plains are words -/
def Wd (x : In) : Prop := ∀ t d ks, x = .mk 0 t d ks → d = [] ∧ ks = []
theorem wd_word (s : List UInt8) : Wd (word s) := by intro t d ks h; unfold word at h; injection h with _ _ h1 h2; exact ⟨h1.symm, h2.symm⟩
theorem wd_kind {k : Nat} (h : k ≠ 0) (t d : List UInt8) (ks : List In) : Wd (.mk k t d ks) := by intro t' d' ks' e; injection e with e; exact absurd e h
theorem iput_wd {out : List In} {x : In} (h : ∀ y ∈ out, Wd y) (hx : Wd x) : ∀ y ∈ iput out x, Wd y := by
  intro y hy
  rcases iput_cases out x with e | ⟨o, t', d', ks', t, d, ks, rfl, rfl, e⟩ | e
  · rw [e] at hy; exact h y hy
  · rw [e] at hy
    rcases List.mem_append.1 hy with hy | hy
    · exact h y (List.mem_append.2 (.inl hy))
    · obtain rfl := List.mem_singleton.1 hy
      obtain ⟨rfl, rfl⟩ := h (.mk 0 t' d' ks') (by simp) _ _ _ rfl
      exact wd_word _
  · rw [e] at hy
    rcases List.mem_append.1 hy with hy | hy
    · exact h y hy
    · obtain rfl := List.mem_singleton.1 hy; exact hx
/-- all of a row, one behind the other -/
def puts (o F : List In) : List In := F.foldl iput o
theorem puts_append (o a b : List In) : puts o (a ++ b) = puts (puts o a) b := List.foldl_append
theorem puts_one (o : List In) (x : In) : puts o [x] = iput o x := rfl
theorem iput_two (P : List In) (a b : List UInt8) : iput (iput P (word a)) (word b) = iput P (word (a ++ b)) := by
  by_cases ha : a = []
  · subst ha; rw [word, iput_empty]; rfl
  · by_cases hb : b = []
    · subst hb; rw [word, word, iput_empty, List.append_nil]; rfl
    · have hab : a ++ b ≠ [] := by simp [ha]
      rcases List.eq_nil_or_concat P with rfl | ⟨o, y, rfl⟩
      · unfold word
        rw [iput_first ha, iput_first hab]
        exact iput_join [] hb a [] [] [] []
      · rw [List.concat_eq_append]
        obtain ⟨ky, t, d, ks⟩ := y
        unfold word
        by_cases hk : ky = 0
        · subst hk
          rw [iput_join o ha, iput_join o hb, iput_join o hab, List.append_assoc]
        · rw [iput_apart o ha hk, iput_apart o hab hk]
          exact iput_join _ hb a [] [] [] []
theorem puts_iput (O acc : List In) (x : In) (ha : ∀ y ∈ acc, Wd y) (hx : Wd x) : puts O (iput acc x) = iput (puts O acc) x := by
  obtain ⟨kd, t, d, ks⟩ := x
  by_cases hk : kd = 0
  · subst hk
    obtain ⟨rfl, rfl⟩ := hx t d ks rfl
    by_cases ht : t = []
    · subst ht; rw [iput_empty, iput_empty]
    · rcases List.eq_nil_or_concat acc with rfl | ⟨o, y, rfl⟩
      · rw [iput_first ht]; rfl
      · rw [List.concat_eq_append] at ha ⊢
        obtain ⟨ky, t', d', ks'⟩ := y
        by_cases hky : ky = 0
        · subst hky
          obtain ⟨rfl, rfl⟩ := ha (.mk 0 t' d' ks') (by simp) _ _ _ rfl
          rw [iput_join o ht, puts_append, puts_append, puts_one, puts_one]
          exact (iput_two _ t' t).symm
        · rw [iput_apart o ht hky, puts_append _ (o ++ [_]), puts_one]
  · rw [iput_kind _ hk, puts_append, puts_one]
/-- a row that has been put together is as good as what it is of -/
theorem puts_puts (O : List In) : ∀ (F acc : List In), (∀ y ∈ acc, Wd y) → (∀ y ∈ F, Wd y) → puts O (puts acc F) = puts (puts O acc) F
  | [], acc, _, _ => rfl
  | x :: F, acc, ha, hF => by
    have h1 := puts_puts O F (iput acc x) (iput_wd ha (hF x (by simp))) (fun y hy => hF y (by simp [hy]))
    show puts O (puts (iput acc x) F) = puts (iput (puts O acc) x) F
    rw [h1, puts_iput O acc x ha (hF x (by simp))]
theorem puts_self (O F : List In) (hF : ∀ y ∈ F, Wd y) : puts O (puts [] F) = puts O F := puts_puts O F [] (by simp) hF

/-! ### run by run -/
def opn (X : List (Nat × Nat × Nat)) (r : Nat) : Nat := X.countP fun x => x.1 == r
theorem opn_cons (x : Nat × Nat × Nat) (X : List (Nat × Nat × Nat)) (r : Nat) : opn (x :: X) r = opn X r + if x.1 = r then 1 else 0 := by
  unfold opn; rw [List.countP_cons]; simp
abbrev Sk := List (Nat × Nat × Nat) × List (List In)
def kd (s : Nat) : Nat := if s = 2 then 3 else 2
def topPut (st : List (List In)) (x : In) : List (List In) :=
  match st with
  | [] => []
  | t :: r => iput t x :: r
def shut1 (st : List (List In)) (s : Nat) : List (List In) :=
  match st with
  | k :: r => topPut r (.mk (kd s) [] [] k)
  | [] => []
def closeAll (r : Nat) : List (Nat × Nat × Nat) → List (List In) → Sk
  | [], st => ([], st)
  | x :: X, st => if x.2.1 = r then closeAll r X (shut1 st x.2.2) else (x :: X, st)
def run1 (LF : Nat → Nat) (r : Nat) (ch : UInt8) (S : Sk) : Sk :=
  ((closeAll r S.1 S.2).1, List.replicate (opn (closeAll r S.1 S.2).1 r) [] ++ topPut (closeAll r S.1 S.2).2 (word (List.replicate (LF r) ch)))
def mstep (LF : Nat → Nat) (S : Sk) (p : Pt) : Sk :=
  match p.run with
  | none => (S.1, topPut S.2 p.inn)
  | some r => run1 LF r p.ch S
def mach (LF : Nat → Nat) (S : Sk) (l : List Pt) : Sk := l.foldl (mstep LF) S
theorem mach_append (LF : Nat → Nat) (S : Sk) (a b : List Pt) : mach LF S (a ++ b) = mach LF (mach LF S a) b := List.foldl_append
theorem mach_cons (LF : Nat → Nat) (S : Sk) (p : Pt) (b : List Pt) : mach LF S (p :: b) = mach LF (mstep LF S p) b := rfl
theorem closeAll_no {r : Nat} {X : List (Nat × Nat × Nat)} {st : List (List In)} (h : ∀ x ∈ X, x.2.1 ≠ r) : closeAll r X st = (X, st) := by
  cases X with
  | nil => rfl
  | cons x X => unfold closeAll; rw [if_neg (h x (by simp))]
theorem topPut_ne {st : List (List In)} (h : st ≠ []) (x : In) : topPut st x ≠ [] := by
  cases st with
  | nil => exact absurd rfl h
  | cons t r => simp [topPut]
theorem run1_no {LF : Nat → Nat} {r : Nat} {ch : UInt8} {X : List (Nat × Nat × Nat)} {st : List (List In)} (h : ∀ x ∈ X, x.2.1 ≠ r) : run1 LF r ch (X, st) = (X, List.replicate (opn X r) [] ++ topPut st (word (List.replicate (LF r) ch))) := by
  unfold run1; rw [closeAll_no h]
/-- ahead of a pair's first run the pair changes nothing -/
theorem mach_ahead {LF : Nat → Nat} {x : Nat × Nat × Nat} {X : List (Nat × Nat × Nat)} : ∀ {A : List Pt} {st : List (List In)}, st ≠ [] → (∀ r ∈ rns A, r ≠ x.1 ∧ ∀ y ∈ x :: X, y.2.1 ≠ r) → ∃ st', st' ≠ [] ∧ mach LF (x :: X, st) A = (x :: X, st') ∧ mach LF (X, st) A = (X, st')
  | [], st, hs, _ => ⟨st, hs, rfl, rfl⟩
  | p :: A, st, hs, h => by
    rw [rns_cons] at h
    cases hp : p.run with
    | none =>
      obtain ⟨st', h1, h2, h3⟩ := mach_ahead (LF := LF) (x := x) (X := X) (A := A) (topPut_ne hs p.inn) (fun r hr => h r (by simp [hr]))
      refine ⟨st', h1, ?_, ?_⟩
      · rw [mach_cons]; unfold mstep; rw [hp]; exact h2
      · rw [mach_cons]; unfold mstep; rw [hp]; exact h3
    | some r =>
      rw [hp] at h
      have hr := h r (by simp)
      have e1 : run1 LF r p.ch (x :: X, st) = (x :: X, List.replicate (opn X r) [] ++ topPut st (word (List.replicate (LF r) p.ch))) := by
        rw [run1_no hr.2, opn_cons, if_neg (Ne.symm hr.1)]; rfl
      have e2 : run1 LF r p.ch (X, st) = (X, List.replicate (opn X r) [] ++ topPut st (word (List.replicate (LF r) p.ch))) := run1_no fun y hy => hr.2 y (by simp [hy])
      have hne : List.replicate (opn X r) ([] : List In) ++ topPut st (word (List.replicate (LF r) p.ch)) ≠ [] := by simp [topPut_ne hs]
      obtain ⟨st', h1, h2, h3⟩ := mach_ahead (LF := LF) (x := x) (X := X) (A := A) hne (fun r hr => h r (by simp [hr]))
      refine ⟨st', h1, ?_, ?_⟩
      · rw [mach_cons]; unfold mstep; rw [hp]; simp only [e1]; exact h2
      · rw [mach_cons]; unfold mstep; rw [hp]; simp only [e2]; exact h3
/-- between a pair's runs no pair begins or ends -/
theorem mach_between {LF : Nat → Nat} {X : List (Nat × Nat × Nat)} {T : List (List In)} : ∀ {B : List Pt} {t : List In}, (∀ p ∈ B, ∀ r, p.run = some r → p.left = LF r ∧ p.inn = none_) → (∀ r ∈ rns B, ∀ y ∈ X, y.1 ≠ r ∧ y.2.1 ≠ r) → mach LF (X, t :: T) B = (X, B.foldl (fun o p => iput o (eff p)) t :: T)
  | [], t, _, _ => rfl
  | p :: B, t, hl, h => by
    rw [rns_cons] at h
    have hl' : ∀ q ∈ B, ∀ r, q.run = some r → q.left = LF r ∧ q.inn = none_ := fun q hq => hl q (by simp [hq])
    cases hp : p.run with
    | none =>
      have e : eff p = p.inn := by unfold eff; rw [hp]
      rw [mach_cons, List.foldl_cons, e]
      unfold mstep; rw [hp]
      exact mach_between hl' (fun r hr => h r (by simp [hr]))
    | some r =>
      rw [hp] at h
      have hr := h r (by simp)
      obtain ⟨e1, e2⟩ := hl p (by simp) r hp
      have e : eff p = word (List.replicate (LF r) p.ch) := by unfold eff; rw [hp, e2, e1]; rfl
      have e3 : opn X r = 0 := by
        unfold opn; rw [List.countP_eq_zero]; intro y hy; simp [(hr y hy).1]
      rw [mach_cons, List.foldl_cons, e]
      unfold mstep; rw [hp]
      simp only
      rw [run1_no fun y hy => (hr y hy).2, e3]
      exact mach_between hl' (fun r hr => h r (by simp [hr]))

/-- what holds of parts and pairs to come -/
structure MOK (LF : Nat → Nat) (l : List Pt) (X : List (Nat × Nat × Nat)) : Prop where
  sorted : (rns l).Pairwise (· < ·)
  here : ∀ x ∈ X, x.1 ∈ rns l ∧ x.2.1 ∈ rns l ∧ x.1 < x.2.1
  out : X.Pairwise Em.outside
  late : X.Pairwise later
  left : ∀ p ∈ l, ∀ r, p.run = some r → p.left = LF r + Em.used X r ∧ p.inn = none_
theorem used_cons (x : Nat × Nat × Nat) (X : List (Nat × Nat × Nat)) (i : Nat) : Em.used (x :: X) i = ((if x.1 = i then x.2.2 else 0) + if x.2.1 = i then x.2.2 else 0) + Em.used X i := by simp [Em.used]
theorem used_none {X : List (Nat × Nat × Nat)} {r : Nat} (h : ∀ y ∈ X, y.1 ≠ r ∧ y.2.1 ≠ r) : Em.used X r = 0 := by
  induction X with
  | nil => rfl
  | cons x X ih => rw [used_cons, if_neg (h x (by simp)).1, if_neg (h x (by simp)).2, ih fun y hy => h y (by simp [hy])]
theorem mok_next {LF : Nat → Nat} {l : List Pt} {a b s : Nat} {X : List (Nat × Nat × Nat)} (h : MOK LF l ((a, b, s) :: X)) : MOK LF (joinPair l (a, b, s)) X ∧ ∀ st, st ≠ [] → mach LF ((a, b, s) :: X, st) l = mach LF (X, st) (joinPair l (a, b, s)) := by
  obtain ⟨ha, hb, hab⟩ := h.here (a, b, s) (by simp)
  simp only at ha hb hab
  have ho := List.pairwise_cons.1 h.out
  have hlt := List.pairwise_cons.1 h.late
  have hrj := rns_join (s := s) h.sorted ha hb hab
  have hmid : ∀ r, a < r → r < b → ∀ y ∈ X, y.1 ≠ r ∧ y.2.1 ≠ r := fun r h1 h2 y hy => by
    have := ho.1 y hy
    unfold Em.outside at this
    simp only at this
    exact ⟨fun e => this.1 (by omega), fun e => this.2 (by omega)⟩
  obtain ⟨A, p, B, q, C, rfl, hp, hq, h1, h2, h3, h4, h5⟩ := place_two h.sorted ha hb hab
  have hlate : ∀ y ∈ X, b ≤ y.2.1 := fun y hy => by have := hlt.1 y hy; unfold later at this; exact this
  constructor
  · refine ⟨hrj.1, fun x hx => ?_, ho.2, hlt.2, ?_⟩
    · have h6 := h.here x (by simp [hx])
      have h7 := ho.1 x hx
      exact ⟨hrj.2 _ h6.1 h7.1, hrj.2 _ h6.2.1 h7.2, h6.2.2⟩
    · rw [joinPair_eq h1 h2]
      have old : ∀ y ∈ A ++ p :: (B ++ q :: C), ∀ r, y.run = some r → r ≠ a → r ≠ b → y.left = LF r + Em.used X r ∧ y.inn = none_ := fun y hy r hr n1 n2 => by
        have h6 := h.left y hy r hr
        rw [used_cons, if_neg (Ne.symm n1), if_neg (Ne.symm n2), Nat.zero_add] at h6
        exact h6
      intro x hx r hr
      rcases List.mem_append.1 hx with hm | hm
      · have h6 := h3 r (mem_rns.2 ⟨x, hm, hr⟩)
        exact old x (by simp [hm]) r hr (by omega) (by omega)
      · rcases List.mem_cons.1 hm with rfl | hm
        · obtain rfl : a = r := by simp only at hr; rw [hp] at hr; exact Option.some.inj hr
          have h6 := h.left p (by simp) a hp
          rw [used_cons] at h6
          simp only at h6 ⊢
          rw [if_pos trivial, if_neg (by omega)] at h6
          exact ⟨by omega, h6.2⟩
        · rcases List.mem_cons.1 hm with rfl | hm
          · simp at hr
          · rcases List.mem_cons.1 hm with rfl | hm
            · obtain rfl : b = r := by simp only at hr; rw [hq] at hr; exact Option.some.inj hr
              have h6 := h.left q (by simp) b hq
              rw [used_cons] at h6
              simp only at h6 ⊢
              rw [if_neg (by omega), if_pos trivial] at h6
              exact ⟨by omega, h6.2⟩
            · have h6 := h5 r (mem_rns.2 ⟨x, hm, hr⟩)
              exact old x (by simp [hm]) r hr (by omega) (by omega)
  · intro st hst
    rw [joinPair_eq h1 h2, mach_append, mach_append]
    obtain ⟨s1, n1, e1, e2⟩ := mach_ahead (LF := LF) (x := (a, b, s)) (X := X) (A := A) hst (fun r hr => by
      have := h3 r hr
      refine ⟨by simp only; omega, fun y hy => ?_⟩
      rcases List.mem_cons.1 hy with rfl | hy
      · simp only; omega
      · have := hlate y hy; omega)
    rw [e1, e2, mach_cons, mach_cons, mach_cons, mach_append, mach_cons, mach_cons]
    have e3 : mstep LF ((a, b, s) :: X, s1) p = ((a, b, s) :: X, [] :: (List.replicate (opn X a) [] ++ topPut s1 (word (List.replicate (LF a) p.ch)))) := by
      unfold mstep; rw [hp]; simp only
      rw [run1_no (fun y hy => by
        rcases List.mem_cons.1 hy with rfl | hy
        · simp only; omega
        · have := hlate y hy; omega), opn_cons, if_pos rfl, List.replicate_succ]
      rfl
    have e4 : mstep LF (X, s1) { p with left := p.left - s } = (X, List.replicate (opn X a) [] ++ topPut s1 (word (List.replicate (LF a) p.ch))) := by
      unfold mstep; simp only [hp]
      rw [run1_no (fun y hy => by have := hlate y hy; omega)]
    rw [e3, e4]
    obtain ⟨T, hT⟩ : ∃ T, T = List.replicate (opn X a) ([] : List In) ++ topPut s1 (word (List.replicate (LF a) p.ch)) := ⟨_, rfl⟩
    have hTn : T ≠ [] := by rw [hT]; simp [topPut_ne n1]
    rw [← hT]
    have e5 : mach LF ((a, b, s) :: X, [] :: T) B = ((a, b, s) :: X, settle B :: T) := by
      refine mach_between (fun y hy r hr => ?_) (fun r hr y hy => ?_)
      · have h6 := h.left y (by simp [hy]) r hr
        have h7 := h4 r (mem_rns.2 ⟨y, hy, hr⟩)
        rw [used_cons] at h6
        simp only at h6
        rw [if_neg (by omega), if_neg (by omega), used_none (hmid r h7.1 h7.2)] at h6
        exact ⟨by omega, h6.2⟩
      · have h7 := h4 r hr
        rcases List.mem_cons.1 hy with rfl | hy
        · simp only; omega
        · exact hmid r h7.1 h7.2 y hy
    rw [e5]
    have e6 : mstep LF (X, T) ⟨.mk (if s = 2 then 3 else 2) [] [] (settle B), none, 0, 0⟩ = (X, topPut T (.mk (kd s) [] [] (settle B))) := rfl
    rw [e6]
    have e7 : mstep LF ((a, b, s) :: X, settle B :: T) q = mstep LF (X, topPut T (.mk (kd s) [] [] (settle B))) { q with left := q.left - s } := by
      unfold mstep; simp only [hq]
      unfold run1
      have e8 : closeAll b ((a, b, s) :: X) (settle B :: T) = closeAll b X (topPut T (.mk (kd s) [] [] (settle B))) := by
        conv => lhs; unfold closeAll
        rw [if_pos rfl]
        rfl
      simp only [e8]
    rw [e7]
/-- run by run comes to what pair by pair comes to -/
theorem mach_all {LF : Nat → Nat} : ∀ {X : List (Nat × Nat × Nat)} {l : List Pt}, MOK LF l X → mach LF (X, [[]]) l = ([], [settle (X.foldl joinPair l)])
  | [], l, h => by
    have := mach_between (LF := LF) (X := []) (T := []) (B := l) (t := []) (fun p hp r hr => by have := h.left p hp r hr; simpa [Em.used] using this) (by simp)
    exact this
  | (a, b, s) :: X, l, h => by
    have := mok_next h
    rw [this.2 [[]] (by simp), mach_all this.1]
    rfl
end Go.Proofs.YtkfhkfagmokjpaaGreatDoor.Il
