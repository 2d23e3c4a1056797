/- Package chunk: what was read of the documents so far: may a piece come, put it behind the others. A map of texts to numbers, as a function of its keys. No function of the program is spoken of here. Package attr: an info, written. Package attr: what a pair lays into what an info says. Package attr: what an info says. Package attr: an info, composed and written. Plain mathematics of infos: what is written, part by part; the document's value and the program's are one. No program is spoken of here. Plain mathematics of infos: an info read token by token. No program is spoken of here. Plain mathematics of infos: a word of small letters is a name, and needs no quotes. No program is spoken of here. Plain mathematics of infos: the infos of law 5's AttrOrder, read. No program is spoken of here. Plain mathematics of infos: what is written in quotes is read as it was. No program is spoken of here. Plain mathematics of infos: what is read is composed so that it is read again as it was. No program is spoken of here. Package chunk: a piece is put behind the others. Package chunk: a piece is put behind the others: the walk. -/
import Derived.Test.YtmmgfoepfapnkaaGreatDoorQ24
import Derived.Maps.OwnOps
import Derived.Test.YtmmgfoepfapnkaaGreatDoorQ07
import Derived.Test.YtmmgfoepfapnkaaGreatDoorQ15
import Derived.Test.YtmmgfoepfapnkaaGreatDoorQ14
import Derived.Test.YtmmgfoepfapnkaaGreatDoorQ03
namespace Go.Proofs.YtmmgfoepfapnkaaGreatDoor
open Go.RowKit Go.Maps
attribute [local go_sem] canOp readsAs readUpon

/-- where the first Def of a key is -/
def Ck.place (out : List Ck.Def) (k : List UInt8) : Option Nat := out.findIdx? fun d => decide (d.key = k)
theorem Ck.place_some {out : List Ck.Def} {k : List UInt8} {i : Nat} (h : Ck.place out k = some i) : ∃ hi : i < out.length, Ck.first out k = some out[i] := by
  obtain ⟨hi, h1, h2⟩ := List.findIdx?_eq_some_iff_getElem.1 h
  refine ⟨hi, ?_⟩
  unfold Ck.first
  rw [List.find?_eq_some_iff_getElem]
  exact ⟨h1, i, hi, rfl, fun j hj => by have := h2 j hj; simpa using this⟩
theorem Ck.place_none {out : List Ck.Def} {k : List UInt8} (h : Ck.place out k = none) : Ck.first out k = none := by
  unfold Ck.place at h
  unfold Ck.first
  rw [List.findIdx?_eq_none_iff] at h
  rw [List.find?_eq_none]
  intro x hx
  have := h x hx
  simpa using this
theorem Ck.place_snoc (out : List Ck.Def) (d : Ck.Def) (k : List UInt8) : Ck.place (out ++ [d]) k = match Ck.place out k with
    | some i => some i
    | none => if d.key = k then some out.length else none := by
  unfold Ck.place
  rw [List.findIdx?_append]
  cases List.findIdx? (fun d => decide (d.key = k)) out with
  | some i => rfl
  | none =>
    by_cases h : d.key = k
    · simp [List.findIdx?_cons, h]
    · simp [List.findIdx?_cons, h]
/-- a map of keys' places -/
def KMap (out : List Ck.Def) (D : DataW Unit) : Prop := ∀ k, Maps.has D (.string k) = (Ck.place out k).isSome ∧ D.atKey (.string k) (.lit (.int .i64 0)) = .lit (.int .i64 (((Ck.place out k).getD 0 : Nat) : Int))
def Ck.fits (out : List Ck.Def) (a : At.Attr) (key : List UInt8) : Bool := match Ck.first out key with
  | none => !a.append
  | some f => a.append && (Ck.isF f.attr == Ck.isF a)
def Ck.lay (out : List Ck.Def) (d : Ck.Def) : Ck.Def := match Ck.first out d.key with
  | none => d
  | some f => { d with attr := { d.attr with style := f.attr.style, noline := f.attr.noline, lang := f.attr.lang } }
theorem KMap.same {out : List Ck.Def} {D : DataW Unit} (h : KMap out D) {d : Ck.Def} {i : Nat} (hp : Ck.place out d.key = some i) (d' : Ck.Def) (hk : d'.key = d.key) : KMap (out ++ [d']) D := by
  intro k
  have := h k
  rw [Ck.place_snoc]
  cases hq : Ck.place out k with
  | some j => rw [hq] at this; exact this
  | none =>
    rw [hq] at this
    simp only
    rw [if_neg (fun e => by rw [hk] at e; rw [e, hq] at hp; cases hp)]
    exact this
theorem KMap.more {out : List Ck.Def} {D : DataW Unit} (h : KMap out D) (hD : IsMap D) {d : Ck.Def} (hp : Ck.place out d.key = none) (d' : Ck.Def) (hk : d'.key = d.key) : KMap (out ++ [d']) (D.put (.string d.key) (.lit (.int .i64 (out.length : Int)))) := by
  intro k
  have := h k
  rw [Ck.place_snoc]
  by_cases e : k = d.key
  · subst e
    rw [hp]
    simp only
    rw [if_pos hk, has_put_same hD (by trivial), atKey_put_same hD (by trivial)]
    exact ⟨rfl, rfl⟩
  · have hne : Lit.string k ≠ Lit.string d.key := fun e2 => e (by injection e2)
    rw [has_put_other hne, atKey_put_other hne]
    cases hq : Ck.place out k with
    | some j => rw [hq] at this; exact this
    | none =>
      rw [hq] at this
      simp only
      rw [if_neg (fun e2 => e (by rw [← e2, hk]))]
      exact this
/-- what was read so far, in memory; X: blocks that the row of Defs is not in -/
def Coll (w : World) (B g gm : Nat) (X : Nat → Prop) (out : List Ck.Def) : Prop := ∃ (v : Value) (n : Nat) (D : DataW Unit), w.heap[g]? = some (.cells #[v, .map (some gm)] 67 (0, 0)) ∧ OwnD w B v out ∧ w.ownsMap Tryz.prog 9 (plainElem Tryz.prog 3) gm n D ∧ n ≤ out.length ∧ KMap out D ∧ g < B ∧ gm < B ∧ g ≠ gm ∧ ∀ k, X k → v.ownBlock ≠ some k
theorem imap_ext {w w1 : World} {b n : Nat} {D : DataW Unit} (h : w.ownsMap Tryz.prog 9 (plainElem Tryz.prog 3) b n D) (hb : Below w.heap.size w w1) : w1.ownsMap Tryz.prog 9 (plainElem Tryz.prog 3) b n D := by
  have hlt := h.lt
  obtain ⟨es, clock, h1, r⟩ := h
  exact ⟨es, clock, (hb.block b hlt).trans h1, r⟩
theorem Coll.ext {w w' : World} {B g gm : Nat} {X : Nat → Prop} {out : List Ck.Def} (h : Coll w B g gm X out) (hb : Below w.heap.size w w') : Coll w' B g gm X out := by
  obtain ⟨v, n, D, h1, h2, h3, h4⟩ := h
  exact ⟨v, n, D, (keep h1 hb).1, h2.ext hb, imap_ext h3 hb, h4⟩
theorem zeroI (w : World) : (zeroValue 3).run Tryz.prog w = .ok (.int .i64 0) w := by kernel_rfl
theorem wfI {n : Nat} (h : n ≤ 1000000000) : (Lit.int .i64 (n : Int)).wf = true := by
  show (decide (IntKind.i64.min ≤ (n : Int)) && decide ((n : Int) ≤ IntKind.i64.max)) = true
  have h1 : IntKind.i64.min = -9223372036854775808 := by decide
  have h2 : IntKind.i64.max = 9223372036854775807 := by decide
  rw [h1, h2, Bool.and_eq_true, decide_eq_true_iff, decide_eq_true_iff]
  omega
set_option maxRecDepth 100000 in
/-- a key, looked up -/
theorem look_coll {u : World} {gm n : Nat} {D : DataW Unit} {out : List Ck.Def} (h : u.ownsMap Tryz.prog 9 (plainElem Tryz.prog 3) gm n D) (hk : KMap out D) {key : List UInt8} (hl : key.length ≤ 1000000000) :
    (Instr.lookup 54 (.map (some gm)) (.string (bs key)) true).run Tryz.prog u = .ok (.tuple #[.int .i64 (((Ck.place out key).getD 0 : Nat) : Int), .bool (Ck.place out key).isSome]) u := by
  obtain ⟨v, ps, h1, h2⟩ := h.look_ok strLaw Tryz.underlying54 (zeroI u) (plainElem_int Tryz.underlying3 (by decide)) (str_key hl)
  obtain ⟨c, rfl, hc, _⟩ := plainElem_int_inv Tryz.underlying3 h2
  obtain ⟨k1, k2⟩ := hk key
  rw [k2] at hc
  have hc1 := congrArg Prod.fst hc
  simp only at hc1
  injection hc1 with hc2
  injection hc2 with _ hc3
  rw [h1, k1, ← hc3]
theorem Coll.row {w : World} {B g gm : Nat} {X : Nat → Prop} {out : List Ck.Def} (h : Coll w B g gm X out) : ∃ A c n D css, w.heap[g]? = some (.cells #[.slice A out.length c, .map (some gm)] 67 (0, 0)) ∧ out.length ≤ c ∧ DRow w w.heap.size A out.length out css ∧ w.ownsMap Tryz.prog 9 (plainElem Tryz.prog 3) gm n D ∧ KMap out D := by
  obtain ⟨v, n, D, h1, h2, h3, h4, h5, _⟩ := h
  obtain ⟨css, ho, he⟩ := h2
  obtain ⟨A, c, rfl, hc⟩ := own_shape ho
  obtain ⟨css2, hr, _⟩ := OwnD.row ⟨css, ho, he⟩
  exact ⟨A, c, n, D, css2, h1, hc, hr, h3, h5⟩

set_option maxHeartbeats 4000000 in
set_option maxRecDepth 100000 in
theorem fits_any (w : World) (B g gm : Nat) (X : Nat → Prop) (out : List Ck.Def) (a : At.Attr) (key : List UInt8) (h : Coll w B g gm X out) (hl : key.length ≤ 1000000000) (hn : out.length ≤ 1000000) :
    Calls Tryz.prog 65 #[.pointer (some ⟨g, 0, none⟩), .agg (acells a), .string (bs key)] w fun e w' => e = .returned (.bool (Ck.fits out a key)) ∧ Below w.heap.size w w' := by
  obtain ⟨A, c, n, D, css, h1, h2, h3, h4, h5⟩ := h.row
  have hb0 := ext_alloc w (.cells (acells a) 50)
  have hq0 := heap_alloc_new w (.cells (acells a) 50)
  have e1 := (keep h1 hb0).1
  have k0 := cell12 e1 (j := 0) rfl
  have k1 := cell12 e1 (j := 1) rfl
  have hlk := look_coll (imap_ext h4 hb0) h5 hl
  have hr := h3.ext hb0
  obtain ⟨lang, name, file, style, ap, nl⟩ := a
  simp only [acells] at hb0 hq0 k0 k1 hlk hr ⊢
  have hfe : ((bs file).toList == []) = !Ck.isF ⟨lang, name, file, style, ap, nl⟩ := by rw [bs_toList]; unfold Ck.isF; cases file <;> simp
  cases hp : Ck.place out key with
  | none =>
    have hfin : Hid (Ck.fits out ⟨lang, name, file, style, ap, nl⟩ key = !ap) := Lib.hid (by unfold Ck.fits; rw [Ck.place_none hp])
    rw [hp] at hlk
    simp only [Option.getD_none, Option.isSome_none] at hlk
    replace hr := Lib.hid hr
    clear h1 h3 h4 h5 hp e1
    go_enter Tryz.func65, Tryz.ntmps65
    go_wp2_with fail
    go_ret
    exact ⟨by rw [hfin.out]; rfl, hb0⟩
  | some i =>
    obtain ⟨hi, hf⟩ := Ck.place_some hp
    rw [hp] at hlk
    simp only [Option.getD_some, Option.isSome_some] at hlk
    have hfin : Ck.fits out ⟨lang, name, file, style, ap, nl⟩ key = (ap && (Ck.isF out[i].attr == Ck.isF ⟨lang, name, file, style, ap, nl⟩)) := by unfold Ck.fits; rw [hf]
    obtain ⟨F, hF⟩ : ∃ F, Ck.isF ⟨lang, name, file, style, ap, nl⟩ = F := ⟨_, rfl⟩
    rw [hF] at hfe hfin
    obtain ⟨b, o, rfl, hbb, hc⟩ := hr.def_at (by omega)
    obtain ⟨LA, lc, g1, g2, hcc⟩ := hc i hi
    have hof := fun w => ofFile_any out[i] LA out[i].lines.length lc w
    obtain ⟨d, hde⟩ : ∃ d, out[i] = d := ⟨_, rfl⟩
    rw [hde] at g1 g2 hcc hof hfin
    obtain ⟨XF, hX⟩ : ∃ X, Ck.isF d.attr = X := ⟨_, rfl⟩
    rw [hX] at hof hfin
    obtain ⟨ln, hln⟩ : ∃ ln, d.lines.length = ln := ⟨_, rfl⟩
    rw [hln] at hcc hof
    obtain ⟨m, hm⟩ : ∃ m, out.length = m := ⟨_, rfl⟩
    rw [hm] at hi k0 hn h2
    replace hfin := Lib.hid hfin
    clear h h1 h3 h4 h5 hp e1 hr hc hF hX hde g1 g2 hf hm
    cases ap with
    | false =>
      go_enter Tryz.func65, Tryz.ntmps65
      go_wp2_with fail
      go_quiet (fail)
      go_wp2_with fail
      go_ret
      exact ⟨by rw [hfin.out]; rfl, below_drewN hb0 _⟩
    | true =>
      go_enter Tryz.func65, Tryz.ntmps65
      go_wp2_with fail
      obtain ⟨wx, hwx⟩ : ∃ wx, w.alloc (.cells #[.string (bs lang), .string (bs name), .string (bs file), .string (bs style), .bool true, .bool nl] 50) = wx := ⟨_, rfl⟩
      rw [hwx] at hq0 k0 k1 hb0 hcc hlk hbb ⊢
      have q2 := cell12 hq0 (j := 2) rfl
      have q4 := cell12 hq0 (j := 4) rfl
      have hgx : g < wx.heap.size := by
        rcases Nat.lt_or_ge g wx.heap.size with h | h
        · exact h
        · have : wx.cell? ⟨g, 0, none⟩ = none := by
            unfold World.cell?
            rw [Array.getElem?_eq_none h]
          rw [this] at k0; cases k0
      have hqx : w.heap.size < wx.heap.size := (Array.getElem?_eq_some_iff.1 hq0).1
      have hi0 : (0 : Int) ≤ (i : Int) := by omega
      have hi1 : (i : Int) < (m : Int) := by omega
      have hi2 : ¬ (m : Int) ≤ (i : Int) := by omega
      have hi3 : ¬ (i : Int) < 0 := by omega
      refine wp_region_can [(true, 0), (true, 1), (true, 2), (true, 3), (true, 4), (true, 5), (true, 6), (true, 7), (true, 8), (true, 9), (true, 11), (true, 12), (true, 13), (false, 10), (true, 14), (true, 15), (true, 16)] (Ext wx) (ext_drew wx) (by kernel_rfl) (by kernel_rfl) (by kernel_rfl) (fun _ _ d _ _ h => by cases d <;> exact h) ?_
      refine wpCan_cons rfl ?_
      intro K hK
      go_simp
      refine hK _ _ _ ?_
      clear hK K
      refine wpCan_read (.bool true) rfl rfl (ext_drew wx) (fun u hu => by have z := (hu.cell (p := ⟨w.heap.size, 4, none⟩) hqx).trans q4; go_simp) ?_
      repeat (first | refine wpCan_move rfl ?_ | (refine wpCan_cons rfl ?_; intro K hK; go_simp; refine hK _ _ _ ?_; clear hK K))
      refine wpCan_read (.slice (some ⟨b, o, none⟩) m c) rfl rfl (ext_drew wx) (fun u hu => by have z := (hu.cell (p := ⟨g, 0, none⟩) hgx).trans k0; go_simp) ?_
      repeat (first | refine wpCan_move rfl ?_ | (refine wpCan_cons rfl ?_; intro K hK; go_simp; refine hK _ _ _ ?_; clear hK K))
      refine wpCan_read (.agg (darr d (.slice LA ln lc))) rfl rfl (ext_drew wx) (fun u hu => by
        have z := fun j v hj => (hu.cell (p := ⟨b, o + i * 12 + j, none⟩) hbb).trans (hcc j v hj)
        have z0 := z 0 _ rfl
        have z1 := z 1 _ rfl
        have z2 := z 2 _ rfl
        have z3 := z 3 _ rfl
        have z4 := z 4 _ rfl
        have z5 := z 5 _ rfl
        have z6 := z 6 _ rfl
        have z7 := z 7 _ rfl
        have z8 := z 8 _ rfl
        have z9 := z 9 _ rfl
        have z10 := z 10 _ rfl
        have z11 := z 11 _ rfl
        rw [Nat.add_zero] at z0
        go_simp) ?_
      repeat (first | refine wpCan_move rfl ?_ | (refine wpCan_cons rfl ?_; intro K hK; go_simp; refine hK _ _ _ ?_; clear hK K))
      refine wpCan_read (.string (bs file)) rfl rfl (ext_drew wx) (fun u hu => by have z := (hu.cell (p := ⟨w.heap.size, 2, none⟩) hqx).trans q2; go_simp) ?_
      repeat (first | refine wpCan_move rfl ?_ | (refine wpCan_cons rfl ?_; intro K hK; go_simp; refine hK _ _ _ ?_; clear hK K))
      refine wpCan_cons rfl ?_
      intro K hK
      go_simp
      refine (hof _).mono ?_
      rintro e w3 ⟨rfl, hb3⟩
      refine can_ext (ext_trans (ext_drew _) hb3) (hK _ _ _ ?_)
      clear hK K
      repeat (first | refine wpCan_move rfl ?_ | (refine wpCan_cons rfl ?_; intro K hK; go_simp; refine hK _ _ _ ?_; clear hK K))
      refine wpCan_nil ?_
      go_wp2_with fail
      go_ret
      exact ⟨by rw [hfin.out]; simp, ext_trans hb0 (ext_trans (ext_drew _) hb3)⟩
end Go.Proofs.YtmmgfoepfapnkaaGreatDoor

namespace Go.Proofs.YtmmgfoepfapnkaaGreatDoor
open Go.RowKit Go.Maps

def SMap (w : World) (gm m : Nat) (f : List UInt8 → Int) : Prop := ∃ (n : Nat) (D : DataW Unit), w.ownsMap Tryz.prog 9 (plainElem Tryz.prog 3) gm n D ∧ n ≤ m ∧ ∀ k, D.atKey (.string k) (.lit (.int .i64 0)) = .lit (.int .i64 (f k))
theorem SMap.made (w : World) : SMap (w.alloc (.map #[] 0)) w.heap.size 0 (fun _ => 0) := ⟨0, .map [], World.ownsMap_made w Tryz.prog 9 (plainElem Tryz.prog 3), Nat.le_refl _, fun _ => rfl⟩
theorem SMap.lt {w : World} {gm m : Nat} {f : List UInt8 → Int} (h : SMap w gm m f) : gm < w.heap.size := by
  obtain ⟨n, D, h, _⟩ := h
  exact h.lt
theorem SMap.ext {w w' : World} {gm m : Nat} {f : List UInt8 → Int} (h : SMap w gm m f) (hb : Below w.heap.size w w') : SMap w' gm m f := by
  obtain ⟨n, D, h1, h2⟩ := h
  exact ⟨n, D, imap_ext h1 hb, h2⟩
theorem SMap.is {w : World} {gm m : Nat} {f f' : List UInt8 → Int} (h : SMap w gm m f) (e : ∀ k, f k = f' k) : SMap w gm m f' := by
  obtain ⟨n, D, h1, h2, h3⟩ := h
  exact ⟨n, D, h1, h2, fun k => by rw [h3 k, e k]⟩
set_option maxRecDepth 100000 in
theorem SMap.look {w : World} {gm m : Nat} {f : List UInt8 → Int} (h : SMap w gm m f) {key : List UInt8} (hl : key.length ≤ 1000000000) :
    (Instr.lookup 54 (.map (some gm)) (.string (bs key)) false).run Tryz.prog w = .ok (.int .i64 (f key)) w := by
  obtain ⟨n, D, h1, _, h3⟩ := h
  obtain ⟨c, hrun, hat, _⟩ := h1.lookup_int strLaw Tryz.underlying54 Tryz.underlying3 (zeroI w) (str_key hl)
  rw [h3 key] at hat
  injection hat with e
  injection e with _ e
  rw [hrun, e]
set_option maxRecDepth 100000 in
theorem wpList_seen {w : World} {ops : Array Oper} {rest : List Oper} {o : Oper} {a : Act} {Q : Exit → Act → World → Prop} (hg : o.guard = none) (m x v : Operand) (hop : o.op = Op.mapUpdate 54 m x v)
    {gm mm : Nat} {f : List UInt8 → Int} (hm : a.eval m = .map (some gm)) (hS : SMap w gm mm f) (h9 : mm ≤ 1000000000) {key : List UInt8} {c : Nat} (hx : a.eval x = .string (bs key)) (hv : a.eval v = .int .i64 (c : Int)) (hl : key.length ≤ 1000000000) (hc : c ≤ 1000000000)
    (hK : ∀ w', SMap w' gm (mm + 1) (fun k => if k = key then (c : Int) else f k) → w.grownBy w' (some gm) → wpList Tryz.prog ops Q rest (a.put o.dst undef) w') : wpList Tryz.prog ops Q (o :: rest) a w := by
  obtain ⟨n, D, h1, h2, h3⟩ := hS
  have hD := h1.isMap
  refine wpList_mapUpdate_own w hg m x v _ hop 9 3 strLaw Tryz.underlying54 (plainElem Tryz.prog 3) gm n D hm h1 (by unfold maxLen; omega) _ _ _ hx hv (str_key hl) _ [] (plainElem_int Tryz.underlying3 (wfI hc)) (fun w' hm' hg' => ?_)
  refine hK w' ⟨n + 1, _, hm', by omega, fun k => ?_⟩ hg'
  by_cases e : k = key
  · subst e
    show _ = DataW.lit (.int .i64 (if k = k then (c : Int) else f k))
    rw [if_pos rfl, atKey_put_same hD (by trivial)]
  · have hne : Lit.string k ≠ Lit.string key := fun e2 => e (by injection e2)
    show _ = DataW.lit (.int .i64 (if k = key then (c : Int) else f k))
    rw [if_neg e, atKey_put_other hne, h3 k]
theorem Aside.grown {g : Nat} {a b c : World} (h : Aside g a b) (hg : b.grownBy c (some g)) (hlt : g < a.heap.size) : Aside g a c :=
  ⟨h.1.grown hg (by have := h.2.1; omega) (fun k hk => by cases hk; exact Nat.le_refl _), Nat.le_trans h.2.1 hg.size, fun i hi hne => (hg.block i (Nat.lt_of_lt_of_le hi h.2.1) (fun e => by injection e with e; exact hne e)).trans (h.2.2 i hi hne)⟩
end Go.Proofs.YtmmgfoepfapnkaaGreatDoor

namespace Go.Proofs.YtmmgfoepfapnkaaGreatDoor
open Go.RowKit

end Go.Proofs.YtmmgfoepfapnkaaGreatDoor

namespace Go.Proofs.YtmmgfoepfapnkaaGreatDoor
open Go.RowKit

/-- what put leaves -/
def PutOut (a : At.Attr) (p : At.Pr) (g : Nat) (w : World) (e : Ending) (w' : World) : Prop :=
  ∃ ok a', e = .returned (.bool ok) ∧ w'.heap[g]? = some (.cells (acells a') 50) ∧ At.step a p = (if ok = true then some a' else none) ∧ Below g w w'
theorem at_new {w : World} {g : Nat} {o p : Obj} (h : w.heap[g]? = some o) : (w.alloc p).heap[g]? = some o := (keep h (ext_alloc w p)).1
theorem set_new {w : World} {g c : Nat} {v : Value} {o : Obj} (h : (w.setCell ⟨g, c, none⟩ v).heap[g]? = some o) (p : Obj) : ((w.setCell ⟨g, c, none⟩ v).alloc p).heap[g]? = some o := at_new h
theorem below_set (w : World) (g : Nat) (hg : g < w.heap.size) (c : Nat) (v : Value) (o : Obj) : Below g w ((w.setCell ⟨g, c, none⟩ v).alloc o) := ((Below.refl _ _).setCell (p := ⟨g, c, none⟩) (Nat.le_refl g) v).alloc (by simp [World.setCell]; omega) _
theorem below_new (w : World) (g : Nat) (hg : g < w.heap.size) (o : Obj) : Below g w (w.alloc o) := (Below.refl _ _).alloc (Nat.le_of_lt hg) _

set_option maxHeartbeats 4000000 in
set_option maxRecDepth 100000 in
theorem put_name_text (a : At.Attr) (key text : List UInt8) (g : Nat) (w : World) (hA : w.heap[g]? = some (.cells (acells a) 50)) (hT : ATabs w) (hg2 : 2 ≤ g) (hl : text.length ≤ 1000000000) (hk : key = At.wName) :
    Calls Tryz.prog 81 #[.pointer (some ⟨g, 0, none⟩), .agg #[.string (bs key), .iface 9 (.string (bs text))]] w fun e w' => PutOut a ⟨key, text, false⟩ g w e w' := by
  have u1 := hg2
  have u2 := hl
  have u3 := hT
  clear u1 u2 u3
  have hg : g < w.heap.size := (Array.getElem?_eq_some_iff.1 hA).1
  have hstep := (show At.step a ⟨key, text, false⟩ = (if At.name text = true then some { a with name := text } else none) from by subst hk; cases h : At.name text <;> simp [At.step, h, At.wName, At.wFile, At.wComment, At.wAppend, At.wNoline])
  have t0 : ((bs key).toList == [110, 97, 109, 101]) = true := key_is (w := At.wName) hk
  obtain ⟨y0, y1, y2, y3, y4, y5⟩ := six hA
  have yf := blk_free hA
  replace hstep := Lib.hid hstep
  replace hA := Lib.hid hA
  replace hT := Lib.hid hT
  have ha := asText_text text
  have hW := below_new w g hg (.cells #[.string (bs key), .iface 9 (.string (bs text))] 144)
  have hA2 := set_new (heap_setCell_same _ _ 1 _ _ (.string (bs text)) hA.out) (.cells #[.string (bs key), .iface 9 (.string (bs text))] 144)
  have hW2 := below_set w g hg 1 (.string (bs text)) (.cells #[.string (bs key), .iface 9 (.string (bs text))] 144)
  have hnm := pname_any text _ hl (tabs_low hT.out hW2 hg2)
  replace hA2 := Lib.hid hA2
  replace hW2 := Lib.hid hW2
  clear hk hW
  go_enter Tryz.func81, Tryz.ntmps81
  go_wp2_with (first | (go_at_call 101; refine (ha _).mono ?_; rintro e w' ⟨rfl, rfl⟩) | (go_at_call 32; refine hnm.mono ?_; rintro e w5 ⟨rfl, hb5⟩))
  go_ret
  exact ⟨_, { a with name := text }, rfl, (keep hA2.out hb5).1, hstep.out, hW2.out.trans (hb5.mono (Nat.le_of_lt (by simp; omega)))⟩

set_option maxHeartbeats 4000000 in
set_option maxRecDepth 100000 in
theorem put_name_alone (a : At.Attr) (key text : List UInt8) (g : Nat) (w : World) (hA : w.heap[g]? = some (.cells (acells a) 50)) (hT : ATabs w) (hg2 : 2 ≤ g) (hl : text.length ≤ 1000000000) (hk : key = At.wName) :
    Calls Tryz.prog 81 #[.pointer (some ⟨g, 0, none⟩), .agg #[.string (bs key), .iface 4 (.bool true)]] w fun e w' => PutOut a ⟨key, text, true⟩ g w e w' := by
  have u1 := hg2
  have u2 := hl
  have u3 := hT
  clear u1 u2 u3
  have hg : g < w.heap.size := (Array.getElem?_eq_some_iff.1 hA).1
  have hstep := (show At.step a ⟨key, text, true⟩ = (if false = true then some { a with name := [] } else none) from by subst hk; simp [At.step, At.wName, At.wFile, At.wComment, At.wAppend, At.wNoline])
  have t0 : ((bs key).toList == [110, 97, 109, 101]) = true := key_is (w := At.wName) hk
  obtain ⟨y0, y1, y2, y3, y4, y5⟩ := six hA
  have yf := blk_free hA
  replace hstep := Lib.hid hstep
  replace hA := Lib.hid hA
  replace hT := Lib.hid hT
  have ha := asText_flag
  have hW := below_new w g hg (.cells #[.string (bs key), .iface 4 (.bool true)] 144)
  have hA2 := set_new (heap_setCell_same _ _ 1 _ _ (.string ⟨#[]⟩) hA.out) (.cells #[.string (bs key), .iface 4 (.bool true)] 144)
  have hW2 := below_set w g hg 1 (.string ⟨#[]⟩) (.cells #[.string (bs key), .iface 4 (.bool true)] 144)
  replace hA2 := Lib.hid hA2
  replace hW2 := Lib.hid hW2
  clear hk hW
  go_enter Tryz.func81, Tryz.ntmps81
  go_wp2_with (go_at_call 101; refine (ha _).mono ?_; rintro e w' ⟨rfl, rfl⟩)
  go_ret
  exact ⟨_, { a with name := [] }, rfl, hA2.out, hstep.out, hW2.out⟩

set_option maxHeartbeats 4000000 in
set_option maxRecDepth 100000 in
theorem put_file_text (a : At.Attr) (key text : List UInt8) (g : Nat) (w : World) (hA : w.heap[g]? = some (.cells (acells a) 50)) (hT : ATabs w) (hg2 : 2 ≤ g) (hl : text.length ≤ 1000000000) (hk : key = At.wFile) :
    Calls Tryz.prog 81 #[.pointer (some ⟨g, 0, none⟩), .agg #[.string (bs key), .iface 9 (.string (bs text))]] w fun e w' => PutOut a ⟨key, text, false⟩ g w e w' := by
  have u1 := hg2
  have u2 := hl
  have u3 := hT
  clear u1 u2 u3
  have hg : g < w.heap.size := (Array.getElem?_eq_some_iff.1 hA).1
  have hstep := (show At.step a ⟨key, text, false⟩ = (if At.name text = true then some { a with file := text } else none) from by subst hk; cases h : At.name text <;> simp [At.step, h, At.wName, At.wFile, At.wComment, At.wAppend, At.wNoline])
  have t0 : ((bs key).toList == [110, 97, 109, 101]) = false := key_not (w := At.wName) (by rw [hk]; decide)
  have t1 : ((bs key).toList == [102, 105, 108, 101]) = true := key_is (w := At.wFile) hk
  obtain ⟨y0, y1, y2, y3, y4, y5⟩ := six hA
  have yf := blk_free hA
  replace hstep := Lib.hid hstep
  replace hA := Lib.hid hA
  replace hT := Lib.hid hT
  have ha := asText_text text
  have hW := below_new w g hg (.cells #[.string (bs key), .iface 9 (.string (bs text))] 144)
  have hA2 := set_new (heap_setCell_same _ _ 2 _ _ (.string (bs text)) hA.out) (.cells #[.string (bs key), .iface 9 (.string (bs text))] 144)
  have hW2 := below_set w g hg 2 (.string (bs text)) (.cells #[.string (bs key), .iface 9 (.string (bs text))] 144)
  have hnm := pname_any text _ hl (tabs_low hT.out hW2 hg2)
  replace hA2 := Lib.hid hA2
  replace hW2 := Lib.hid hW2
  clear hk hW
  go_enter Tryz.func81, Tryz.ntmps81
  go_wp2_with (first | (go_at_call 101; refine (ha _).mono ?_; rintro e w' ⟨rfl, rfl⟩) | (go_at_call 32; refine hnm.mono ?_; rintro e w5 ⟨rfl, hb5⟩))
  go_ret
  exact ⟨_, { a with file := text }, rfl, (keep hA2.out hb5).1, hstep.out, hW2.out.trans (hb5.mono (Nat.le_of_lt (by simp; omega)))⟩

set_option maxHeartbeats 4000000 in
set_option maxRecDepth 100000 in
theorem put_file_alone (a : At.Attr) (key text : List UInt8) (g : Nat) (w : World) (hA : w.heap[g]? = some (.cells (acells a) 50)) (hT : ATabs w) (hg2 : 2 ≤ g) (hl : text.length ≤ 1000000000) (hk : key = At.wFile) :
    Calls Tryz.prog 81 #[.pointer (some ⟨g, 0, none⟩), .agg #[.string (bs key), .iface 4 (.bool true)]] w fun e w' => PutOut a ⟨key, text, true⟩ g w e w' := by
  have u1 := hg2
  have u2 := hl
  have u3 := hT
  clear u1 u2 u3
  have hg : g < w.heap.size := (Array.getElem?_eq_some_iff.1 hA).1
  have hstep := (show At.step a ⟨key, text, true⟩ = (if false = true then some { a with file := [] } else none) from by subst hk; simp [At.step, At.wName, At.wFile, At.wComment, At.wAppend, At.wNoline])
  have t0 : ((bs key).toList == [110, 97, 109, 101]) = false := key_not (w := At.wName) (by rw [hk]; decide)
  have t1 : ((bs key).toList == [102, 105, 108, 101]) = true := key_is (w := At.wFile) hk
  obtain ⟨y0, y1, y2, y3, y4, y5⟩ := six hA
  have yf := blk_free hA
  replace hstep := Lib.hid hstep
  replace hA := Lib.hid hA
  replace hT := Lib.hid hT
  have ha := asText_flag
  have hW := below_new w g hg (.cells #[.string (bs key), .iface 4 (.bool true)] 144)
  have hA2 := set_new (heap_setCell_same _ _ 2 _ _ (.string ⟨#[]⟩) hA.out) (.cells #[.string (bs key), .iface 4 (.bool true)] 144)
  have hW2 := below_set w g hg 2 (.string ⟨#[]⟩) (.cells #[.string (bs key), .iface 4 (.bool true)] 144)
  replace hA2 := Lib.hid hA2
  replace hW2 := Lib.hid hW2
  clear hk hW
  go_enter Tryz.func81, Tryz.ntmps81
  go_wp2_with (go_at_call 101; refine (ha _).mono ?_; rintro e w' ⟨rfl, rfl⟩)
  go_ret
  exact ⟨_, { a with file := [] }, rfl, hA2.out, hstep.out, hW2.out⟩

set_option maxHeartbeats 4000000 in
set_option maxRecDepth 100000 in
theorem put_style_text (a : At.Attr) (key text : List UInt8) (g : Nat) (w : World) (hA : w.heap[g]? = some (.cells (acells a) 50)) (hT : ATabs w) (hg2 : 2 ≤ g) (hl : text.length ≤ 1000000000) (hk : key = At.wComment) :
    Calls Tryz.prog 81 #[.pointer (some ⟨g, 0, none⟩), .agg #[.string (bs key), .iface 9 (.string (bs text))]] w fun e w' => PutOut a ⟨key, text, false⟩ g w e w' := by
  have u1 := hg2
  have u2 := hl
  have u3 := hT
  clear u1 u2 u3
  have hg : g < w.heap.size := (Array.getElem?_eq_some_iff.1 hA).1
  have hstep := (show At.step a ⟨key, text, false⟩ = (if At.style text = true then some { a with style := text } else none) from by subst hk; cases h : At.style text <;> simp [At.step, h, At.wName, At.wFile, At.wComment, At.wAppend, At.wNoline])
  have t0 : ((bs key).toList == [110, 97, 109, 101]) = false := key_not (w := At.wName) (by rw [hk]; decide)
  have t1 : ((bs key).toList == [102, 105, 108, 101]) = false := key_not (w := At.wFile) (by rw [hk]; decide)
  have t2 : ((bs key).toList == [99, 111, 109, 109, 101, 110, 116]) = true := key_is (w := At.wComment) hk
  obtain ⟨y0, y1, y2, y3, y4, y5⟩ := six hA
  have yf := blk_free hA
  replace hstep := Lib.hid hstep
  replace hA := Lib.hid hA
  replace hT := Lib.hid hT
  have ha := asText_text text
  have hsy := fun w => pstyle_any text w (by omega)
  have hW := below_new w g hg (.cells #[.string (bs key), .iface 9 (.string (bs text))] 144)
  have hA2 := set_new (heap_setCell_same _ _ 3 _ _ (.string (bs text)) hA.out) (.cells #[.string (bs key), .iface 9 (.string (bs text))] 144)
  have hW2 := below_set w g hg 3 (.string (bs text)) (.cells #[.string (bs key), .iface 9 (.string (bs text))] 144)
  replace hA2 := Lib.hid hA2
  replace hW2 := Lib.hid hW2
  clear hk hW
  go_enter Tryz.func81, Tryz.ntmps81
  go_wp2_with (first | (go_at_call 101; refine (ha _).mono ?_; rintro e w' ⟨rfl, rfl⟩) | (go_at_call 102; refine (hsy _).mono ?_; rintro e w' ⟨rfl, rfl⟩))
  go_ret
  exact ⟨_, { a with style := text }, rfl, hA2.out, hstep.out, hW2.out⟩

set_option maxHeartbeats 4000000 in
set_option maxRecDepth 100000 in
theorem put_style_alone (a : At.Attr) (key text : List UInt8) (g : Nat) (w : World) (hA : w.heap[g]? = some (.cells (acells a) 50)) (hT : ATabs w) (hg2 : 2 ≤ g) (hl : text.length ≤ 1000000000) (hk : key = At.wComment) :
    Calls Tryz.prog 81 #[.pointer (some ⟨g, 0, none⟩), .agg #[.string (bs key), .iface 4 (.bool true)]] w fun e w' => PutOut a ⟨key, text, true⟩ g w e w' := by
  have u1 := hg2
  have u2 := hl
  have u3 := hT
  clear u1 u2 u3
  have hg : g < w.heap.size := (Array.getElem?_eq_some_iff.1 hA).1
  have hstep := (show At.step a ⟨key, text, true⟩ = (if false = true then some { a with style := [] } else none) from by subst hk; simp [At.step, At.wName, At.wFile, At.wComment, At.wAppend, At.wNoline])
  have t0 : ((bs key).toList == [110, 97, 109, 101]) = false := key_not (w := At.wName) (by rw [hk]; decide)
  have t1 : ((bs key).toList == [102, 105, 108, 101]) = false := key_not (w := At.wFile) (by rw [hk]; decide)
  have t2 : ((bs key).toList == [99, 111, 109, 109, 101, 110, 116]) = true := key_is (w := At.wComment) hk
  obtain ⟨y0, y1, y2, y3, y4, y5⟩ := six hA
  have yf := blk_free hA
  replace hstep := Lib.hid hstep
  replace hA := Lib.hid hA
  replace hT := Lib.hid hT
  have ha := asText_flag
  have hW := below_new w g hg (.cells #[.string (bs key), .iface 4 (.bool true)] 144)
  have hA2 := set_new (heap_setCell_same _ _ 3 _ _ (.string ⟨#[]⟩) hA.out) (.cells #[.string (bs key), .iface 4 (.bool true)] 144)
  have hW2 := below_set w g hg 3 (.string ⟨#[]⟩) (.cells #[.string (bs key), .iface 4 (.bool true)] 144)
  replace hA2 := Lib.hid hA2
  replace hW2 := Lib.hid hW2
  clear hk hW
  go_enter Tryz.func81, Tryz.ntmps81
  go_wp2_with (go_at_call 101; refine (ha _).mono ?_; rintro e w' ⟨rfl, rfl⟩)
  go_ret
  exact ⟨_, { a with style := [] }, rfl, hA2.out, hstep.out, hW2.out⟩

set_option maxHeartbeats 4000000 in
set_option maxRecDepth 100000 in
theorem put_append_alone (a : At.Attr) (key text : List UInt8) (g : Nat) (w : World) (hA : w.heap[g]? = some (.cells (acells a) 50)) (hT : ATabs w) (hg2 : 2 ≤ g) (hl : text.length ≤ 1000000000) (hk : key = At.wAppend) :
    Calls Tryz.prog 81 #[.pointer (some ⟨g, 0, none⟩), .agg #[.string (bs key), .iface 4 (.bool true)]] w fun e w' => PutOut a ⟨key, text, true⟩ g w e w' := by
  have u1 := hg2
  have u2 := hl
  have u3 := hT
  clear u1 u2 u3
  have hg : g < w.heap.size := (Array.getElem?_eq_some_iff.1 hA).1
  have hstep := (show At.step a ⟨key, text, true⟩ = (if true = true then some { a with append := true } else none) from by subst hk; simp [At.step, At.wName, At.wFile, At.wComment, At.wAppend])
  have t0 : ((bs key).toList == [110, 97, 109, 101]) = false := key_not (w := At.wName) (by rw [hk]; decide)
  have t1 : ((bs key).toList == [102, 105, 108, 101]) = false := key_not (w := At.wFile) (by rw [hk]; decide)
  have t2 : ((bs key).toList == [99, 111, 109, 109, 101, 110, 116]) = false := key_not (w := At.wComment) (by rw [hk]; decide)
  have t3 : ((bs key).toList == [97, 112, 112, 101, 110, 100]) = true := key_is (w := At.wAppend) hk
  obtain ⟨y0, y1, y2, y3, y4, y5⟩ := six hA
  have yf := blk_free hA
  replace hstep := Lib.hid hstep
  replace hA := Lib.hid hA
  replace hT := Lib.hid hT
  have ha := fun w => as_yes 4 20 _ (.bool true) w Tryz.underlying4 (.inr rfl)
  have hW := below_new w g hg (.cells #[.string (bs key), .iface 4 (.bool true)] 144)
  have hA2 := set_new (heap_setCell_same _ _ 4 _ _ (.bool true) hA.out) (.cells #[.string (bs key), .iface 4 (.bool true)] 144)
  have hW2 := below_set w g hg 4 (.bool true) (.cells #[.string (bs key), .iface 4 (.bool true)] 144)
  replace hA2 := Lib.hid hA2
  replace hW2 := Lib.hid hW2
  clear hk hW
  go_enter Tryz.func81, Tryz.ntmps81
  go_wp2_with fail
  go_ret
  exact ⟨_, { a with append := true }, rfl, hA2.out, hstep.out, hW2.out⟩

set_option maxHeartbeats 4000000 in
set_option maxRecDepth 100000 in
theorem put_append_text (a : At.Attr) (key text : List UInt8) (g : Nat) (w : World) (hA : w.heap[g]? = some (.cells (acells a) 50)) (hT : ATabs w) (hg2 : 2 ≤ g) (hl : text.length ≤ 1000000000) (hk : key = At.wAppend) :
    Calls Tryz.prog 81 #[.pointer (some ⟨g, 0, none⟩), .agg #[.string (bs key), .iface 9 (.string (bs text))]] w fun e w' => PutOut a ⟨key, text, false⟩ g w e w' := by
  have u1 := hg2
  have u2 := hl
  have u3 := hT
  clear u1 u2 u3
  have hg : g < w.heap.size := (Array.getElem?_eq_some_iff.1 hA).1
  have hstep := (show At.step a ⟨key, text, false⟩ = (if false = true then some { a with append := false } else none) from by subst hk; simp [At.step, At.wName, At.wFile, At.wComment, At.wAppend, At.wNoline])
  have t0 : ((bs key).toList == [110, 97, 109, 101]) = false := key_not (w := At.wName) (by rw [hk]; decide)
  have t1 : ((bs key).toList == [102, 105, 108, 101]) = false := key_not (w := At.wFile) (by rw [hk]; decide)
  have t2 : ((bs key).toList == [99, 111, 109, 109, 101, 110, 116]) = false := key_not (w := At.wComment) (by rw [hk]; decide)
  have t3 : ((bs key).toList == [97, 112, 112, 101, 110, 100]) = true := key_is (w := At.wAppend) hk
  obtain ⟨y0, y1, y2, y3, y4, y5⟩ := six hA
  have yf := blk_free hA
  replace hstep := Lib.hid hstep
  replace hA := Lib.hid hA
  replace hT := Lib.hid hT
  have ha := fun w => as_no_flag (.string (bs text)) 20 w
  have hW := below_new w g hg (.cells #[.string (bs key), .iface 9 (.string (bs text))] 144)
  have hA2 := set_new (heap_setCell_same _ _ 4 _ _ (.bool false) hA.out) (.cells #[.string (bs key), .iface 9 (.string (bs text))] 144)
  have hW2 := below_set w g hg 4 (.bool false) (.cells #[.string (bs key), .iface 9 (.string (bs text))] 144)
  replace hA2 := Lib.hid hA2
  replace hW2 := Lib.hid hW2
  clear hk hW
  go_enter Tryz.func81, Tryz.ntmps81
  go_wp2_with fail
  go_ret
  exact ⟨_, { a with append := false }, rfl, hA2.out, hstep.out, hW2.out⟩

set_option maxHeartbeats 4000000 in
set_option maxRecDepth 100000 in
theorem put_noline_alone (a : At.Attr) (key text : List UInt8) (g : Nat) (w : World) (hA : w.heap[g]? = some (.cells (acells a) 50)) (hT : ATabs w) (hg2 : 2 ≤ g) (hl : text.length ≤ 1000000000) (hk : key = At.wNoline) :
    Calls Tryz.prog 81 #[.pointer (some ⟨g, 0, none⟩), .agg #[.string (bs key), .iface 4 (.bool true)]] w fun e w' => PutOut a ⟨key, text, true⟩ g w e w' := by
  have u1 := hg2
  have u2 := hl
  have u3 := hT
  clear u1 u2 u3
  have hg : g < w.heap.size := (Array.getElem?_eq_some_iff.1 hA).1
  have hstep := (show At.step a ⟨key, text, true⟩ = (if true = true then some { a with noline := true } else none) from by subst hk; simp [At.step, At.wName, At.wFile, At.wComment, At.wAppend, At.wNoline])
  have t0 : ((bs key).toList == [110, 97, 109, 101]) = false := key_not (w := At.wName) (by rw [hk]; decide)
  have t1 : ((bs key).toList == [102, 105, 108, 101]) = false := key_not (w := At.wFile) (by rw [hk]; decide)
  have t2 : ((bs key).toList == [99, 111, 109, 109, 101, 110, 116]) = false := key_not (w := At.wComment) (by rw [hk]; decide)
  have t3 : ((bs key).toList == [97, 112, 112, 101, 110, 100]) = false := key_not (w := At.wAppend) (by rw [hk]; decide)
  have t4 : ((bs key).toList == [110, 111, 108, 105, 110, 101]) = true := key_is (w := At.wNoline) hk
  obtain ⟨y0, y1, y2, y3, y4, y5⟩ := six hA
  have yf := blk_free hA
  replace hstep := Lib.hid hstep
  replace hA := Lib.hid hA
  replace hT := Lib.hid hT
  have ha := fun w => as_yes 4 20 _ (.bool true) w Tryz.underlying4 (.inr rfl)
  have hW := below_new w g hg (.cells #[.string (bs key), .iface 4 (.bool true)] 144)
  have hA2 := set_new (heap_setCell_same _ _ 5 _ _ (.bool true) hA.out) (.cells #[.string (bs key), .iface 4 (.bool true)] 144)
  have hW2 := below_set w g hg 5 (.bool true) (.cells #[.string (bs key), .iface 4 (.bool true)] 144)
  replace hA2 := Lib.hid hA2
  replace hW2 := Lib.hid hW2
  clear hk hW
  go_enter Tryz.func81, Tryz.ntmps81
  go_wp2_with fail
  go_ret
  exact ⟨_, { a with noline := true }, rfl, hA2.out, hstep.out, hW2.out⟩

set_option maxHeartbeats 4000000 in
set_option maxRecDepth 100000 in
theorem put_noline_text (a : At.Attr) (key text : List UInt8) (g : Nat) (w : World) (hA : w.heap[g]? = some (.cells (acells a) 50)) (hT : ATabs w) (hg2 : 2 ≤ g) (hl : text.length ≤ 1000000000) (hk : key = At.wNoline) :
    Calls Tryz.prog 81 #[.pointer (some ⟨g, 0, none⟩), .agg #[.string (bs key), .iface 9 (.string (bs text))]] w fun e w' => PutOut a ⟨key, text, false⟩ g w e w' := by
  have u1 := hg2
  have u2 := hl
  have u3 := hT
  clear u1 u2 u3
  have hg : g < w.heap.size := (Array.getElem?_eq_some_iff.1 hA).1
  have hstep := (show At.step a ⟨key, text, false⟩ = (if false = true then some { a with noline := false } else none) from by subst hk; simp [At.step, At.wName, At.wFile, At.wComment, At.wAppend, At.wNoline])
  have t0 : ((bs key).toList == [110, 97, 109, 101]) = false := key_not (w := At.wName) (by rw [hk]; decide)
  have t1 : ((bs key).toList == [102, 105, 108, 101]) = false := key_not (w := At.wFile) (by rw [hk]; decide)
  have t2 : ((bs key).toList == [99, 111, 109, 109, 101, 110, 116]) = false := key_not (w := At.wComment) (by rw [hk]; decide)
  have t3 : ((bs key).toList == [97, 112, 112, 101, 110, 100]) = false := key_not (w := At.wAppend) (by rw [hk]; decide)
  have t4 : ((bs key).toList == [110, 111, 108, 105, 110, 101]) = true := key_is (w := At.wNoline) hk
  obtain ⟨y0, y1, y2, y3, y4, y5⟩ := six hA
  have yf := blk_free hA
  replace hstep := Lib.hid hstep
  replace hA := Lib.hid hA
  replace hT := Lib.hid hT
  have ha := fun w => as_no_flag (.string (bs text)) 20 w
  have hW := below_new w g hg (.cells #[.string (bs key), .iface 9 (.string (bs text))] 144)
  have hA2 := set_new (heap_setCell_same _ _ 5 _ _ (.bool false) hA.out) (.cells #[.string (bs key), .iface 9 (.string (bs text))] 144)
  have hW2 := below_set w g hg 5 (.bool false) (.cells #[.string (bs key), .iface 9 (.string (bs text))] 144)
  replace hA2 := Lib.hid hA2
  replace hW2 := Lib.hid hW2
  clear hk hW
  go_enter Tryz.func81, Tryz.ntmps81
  go_wp2_with fail
  go_ret
  exact ⟨_, { a with noline := false }, rfl, hA2.out, hstep.out, hW2.out⟩

set_option maxHeartbeats 4000000 in
set_option maxRecDepth 100000 in
theorem put_none_alone (a : At.Attr) (key text : List UInt8) (g : Nat) (w : World) (hA : w.heap[g]? = some (.cells (acells a) 50)) (hT : ATabs w) (hg2 : 2 ≤ g) (hl : text.length ≤ 1000000000) (hn : key ≠ At.wName ∧ key ≠ At.wFile ∧ key ≠ At.wComment ∧ key ≠ At.wAppend ∧ key ≠ At.wNoline) :
    Calls Tryz.prog 81 #[.pointer (some ⟨g, 0, none⟩), .agg #[.string (bs key), .iface 4 (.bool true)]] w fun e w' => PutOut a ⟨key, text, true⟩ g w e w' := by
  have u1 := hg2
  have u2 := hl
  have u3 := hT
  clear u1 u2 u3
  have hg : g < w.heap.size := (Array.getElem?_eq_some_iff.1 hA).1
  have hstep := (show At.step a ⟨key, text, true⟩ = (if false = true then some a else none) from by obtain ⟨h1, h2, h3, h4, h5⟩ := hn; simp [At.step, h1, h2, h3, h4, h5])
  have t0 : ((bs key).toList == [110, 97, 109, 101]) = false := key_not (w := At.wName) hn.1
  have t1 : ((bs key).toList == [102, 105, 108, 101]) = false := key_not (w := At.wFile) hn.2.1
  have t2 : ((bs key).toList == [99, 111, 109, 109, 101, 110, 116]) = false := key_not (w := At.wComment) hn.2.2.1
  have t3 : ((bs key).toList == [97, 112, 112, 101, 110, 100]) = false := key_not (w := At.wAppend) hn.2.2.2.1
  have t4 : ((bs key).toList == [110, 111, 108, 105, 110, 101]) = false := key_not (w := At.wNoline) hn.2.2.2.2
  obtain ⟨y0, y1, y2, y3, y4, y5⟩ := six hA
  have yf := blk_free hA
  replace hstep := Lib.hid hstep
  replace hA := Lib.hid hA
  replace hT := Lib.hid hT
  have hA2 := at_new (p := .cells #[.string (bs key), .iface 4 (.bool true)] 144) hA.out
  have hW := below_new w g hg (.cells #[.string (bs key), .iface 4 (.bool true)] 144)
  replace hA2 := Lib.hid hA2
  clear hn
  go_enter Tryz.func81, Tryz.ntmps81
  go_wp2_with fail
  go_ret
  exact ⟨_, a, rfl, hA2.out, hstep.out, hW⟩

set_option maxHeartbeats 4000000 in
set_option maxRecDepth 100000 in
theorem put_none_text (a : At.Attr) (key text : List UInt8) (g : Nat) (w : World) (hA : w.heap[g]? = some (.cells (acells a) 50)) (hT : ATabs w) (hg2 : 2 ≤ g) (hl : text.length ≤ 1000000000) (hn : key ≠ At.wName ∧ key ≠ At.wFile ∧ key ≠ At.wComment ∧ key ≠ At.wAppend ∧ key ≠ At.wNoline) :
    Calls Tryz.prog 81 #[.pointer (some ⟨g, 0, none⟩), .agg #[.string (bs key), .iface 9 (.string (bs text))]] w fun e w' => PutOut a ⟨key, text, false⟩ g w e w' := by
  have u1 := hg2
  have u2 := hl
  have u3 := hT
  clear u1 u2 u3
  have hg : g < w.heap.size := (Array.getElem?_eq_some_iff.1 hA).1
  have hstep := (show At.step a ⟨key, text, false⟩ = (if false = true then some a else none) from by obtain ⟨h1, h2, h3, h4, h5⟩ := hn; simp [At.step, h1, h2, h3, h4, h5])
  have t0 : ((bs key).toList == [110, 97, 109, 101]) = false := key_not (w := At.wName) hn.1
  have t1 : ((bs key).toList == [102, 105, 108, 101]) = false := key_not (w := At.wFile) hn.2.1
  have t2 : ((bs key).toList == [99, 111, 109, 109, 101, 110, 116]) = false := key_not (w := At.wComment) hn.2.2.1
  have t3 : ((bs key).toList == [97, 112, 112, 101, 110, 100]) = false := key_not (w := At.wAppend) hn.2.2.2.1
  have t4 : ((bs key).toList == [110, 111, 108, 105, 110, 101]) = false := key_not (w := At.wNoline) hn.2.2.2.2
  obtain ⟨y0, y1, y2, y3, y4, y5⟩ := six hA
  have yf := blk_free hA
  replace hstep := Lib.hid hstep
  replace hA := Lib.hid hA
  replace hT := Lib.hid hT
  have hA2 := at_new (p := .cells #[.string (bs key), .iface 9 (.string (bs text))] 144) hA.out
  have hW := below_new w g hg (.cells #[.string (bs key), .iface 9 (.string (bs text))] 144)
  replace hA2 := Lib.hid hA2
  clear hn
  go_enter Tryz.func81, Tryz.ntmps81
  go_wp2_with fail
  go_ret
  exact ⟨_, a, rfl, hA2.out, hstep.out, hW⟩

/-- whatever the pair is -/
theorem put_any (a : At.Attr) (p : At.Pr) (g : Nat) (w : World) (hA : w.heap[g]? = some (.cells (acells a) 50)) (hT : ATabs w) (hg2 : 2 ≤ g) (hl : p.text.length ≤ 1000000000) :
    Calls Tryz.prog 81 #[.pointer (some ⟨g, 0, none⟩), .agg #[.string (bs p.key), av p]] w fun e w' => PutOut a p g w e w' := by
  obtain ⟨key, text, alone⟩ := p
  by_cases h0 : key = At.wName
  · cases alone with
    | true => exact put_name_alone a key text g w hA hT hg2 hl h0
    | false => exact put_name_text a key text g w hA hT hg2 hl h0
  by_cases h1 : key = At.wFile
  · cases alone with
    | true => exact put_file_alone a key text g w hA hT hg2 hl h1
    | false => exact put_file_text a key text g w hA hT hg2 hl h1
  by_cases h2 : key = At.wComment
  · cases alone with
    | true => exact put_style_alone a key text g w hA hT hg2 hl h2
    | false => exact put_style_text a key text g w hA hT hg2 hl h2
  by_cases h3 : key = At.wAppend
  · cases alone with
    | true => exact put_append_alone a key text g w hA hT hg2 hl h3
    | false => exact put_append_text a key text g w hA hT hg2 hl h3
  by_cases h4 : key = At.wNoline
  · cases alone with
    | true => exact put_noline_alone a key text g w hA hT hg2 hl h4
    | false => exact put_noline_text a key text g w hA hT hg2 hl h4
  cases alone with
  | true => exact put_none_alone a key text g w hA hT hg2 hl ⟨h0, h1, h2, h3, h4⟩
  | false => exact put_none_text a key text g w hA hT hg2 hl ⟨h0, h1, h2, h3, h4⟩
end Go.Proofs.YtmmgfoepfapnkaaGreatDoor

namespace Go.Proofs.YtmmgfoepfapnkaaGreatDoor
open Go.RowKit

/-- the cells of a row of pairs -/
theorem qpair_cell {ls : List At.Pr} {w : World} {B : Nat} {A : Option Addr} (h : Row w B 2 A ls.length (qcells ls)) (hn : 0 < ls.length) :
    ∃ b o, A = some ⟨b, o, none⟩ ∧ b < B ∧ ∀ k, (hk : k < ls.length) → w.cell? ⟨b, o + k * 2, none⟩ = some (.string (bs ls[k].key)) ∧ w.cell? ⟨b, o + k * 2 + 1, none⟩ = some (av ls[k]) := by
  obtain ⟨b, o, e, hb, hc⟩ := h.2 hn
  have key : ∀ (ls : List At.Pr) (k : Nat), (hk : k < ls.length) → (qcells ls)[k * 2]? = some (.string (bs ls[k].key)) ∧ (qcells ls)[k * 2 + 1]? = some (av ls[k]) := by
    intro ls
    induction ls with
    | nil => intro k hk; simp at hk
    | cons x r ih =>
      intro k hk
      match k, hk with
      | 0, _ => simp [qcells]
      | k + 1, hk =>
        have := ih k (by simpa using hk)
        have e : qcells (x :: r) = [.string (bs x.key), av x] ++ qcells r := rfl
        rw [e, Nat.add_mul]
        simpa [List.getElem?_append, Nat.add_assoc] using this
  refine ⟨b, o, e, hb, fun k hk => ?_⟩
  obtain ⟨k0, k1⟩ := key ls k hk
  refine ⟨hc _ _ k0, ?_⟩
  have := hc _ _ k1
  rwa [← Nat.add_assoc] at this

set_option maxHeartbeats 8000000 in
set_option maxRecDepth 100000 in
theorem pread_any (l : List UInt8) (w : World) (hl : l.length ≤ 1000000000) (hT : ATabs w) :
    Calls Tryz.prog 64 #[.string (bs l)] w fun e w' => e = .returned (attrv (At.read l)) ∧ Below w.heap.size w w' := by
  have hpr := fun w => ppairs_any l w hl
  have htx : ∀ p ∈ (At.pairs l).2.1, p.text.length ≤ l.length := At.prs_text _ _ _ _ _ (fun p hp => by cases hp)
  have hrd : At.read l = (At.steps (At.pairs l).2.1 ⟨(At.pairs l).1, [], [], [], false, false⟩).bind fun a => if (At.pairs l).2.2 = false ∨ (a.name ≠ [] ∧ a.file ≠ []) then none else some a := rfl
  obtain ⟨Q, hQ⟩ : ∃ Q, At.pairs l = Q := ⟨_, rfl⟩
  rw [hQ] at hpr htx hrd
  obtain ⟨lang, out, ok⟩ := Q
  simp only at hpr htx hrd
  clear hQ
  have hsz2 := tabs_size hT
  replace hrd := Lib.hid hrd
  replace htx := Lib.hid htx
  replace hT := Lib.hid hT
  go_enter Tryz.func64, Tryz.ntmps64
  go_wp2_with fail
  refine (hpr _).mono ?_
  rintro e w1 ⟨⟨v, rfl, hown⟩, hb1⟩
  obtain ⟨A, c, rfl, hlc⟩ := own_shape hown
  have hom := own_max hown
  have hR := Lib.hid (Row.own hown)
  have f1 := Lib.hid (blk hb1)
  have hg1 : w.heap.size < w1.heap.size := (keep (heap_alloc_new w _) hb1).2
  replace hb1 := Lib.hid (ext_trans (ext_alloc _ _) hb1)
  clear hown hpr
  cases ok with
  | false =>
    have hfin : Hid (At.read l = none) := Lib.hid (by
      rw [hrd.out]
      cases At.steps out ⟨lang, [], [], [], false, false⟩ with
      | none => rfl
      | some a => simp)
    obtain ⟨z0, z1, z2, z3, z4, z5⟩ := six f1.out
    have zf := blk_free f1.out
    go_wp2_with fail
    exact bodyPost_ret (v := attrv none) (by rw [results_cell_tmp rfl]; go_simp; rfl) rfl ⟨by rw [hfin.out], (((((hb1.out.setCell (Nat.le_refl _) _).setCell (Nat.le_refl _) _).setCell (Nat.le_refl _) _).setCell (Nat.le_refl _) _).setCell (Nat.le_refl _) _).setCell (Nat.le_refl _) _⟩
  | true =>
    go_wp2_with fail
    go_loopw [23] (fun u wr => ∃ (k : Nat) (a : At.Attr), k ≤ out.length ∧ u = .int .i64 (k : Int) ∧ Hid (At.steps (out.drop k) a = At.steps out ⟨lang, [], [], [], false, false⟩) ∧ Hid (wr.heap[w1.heap.size]? = some (.cells (acells a) 50)) ∧ Below w1.heap.size w1 wr) (fun u _ => out.length - (intOf u).toNat)
    case atStart => exact ⟨0, ⟨lang, [], [], [], false, false⟩, by omega, rfl, Lib.hid rfl, Lib.hid (heap_alloc_new w1 _), ext_alloc _ _⟩
    case round =>
      obtain ⟨k, a, hk, rfl, hst, fa, hb⟩ := hrel
      have hga : w1.heap.size < wr.heap.size := (Array.getElem?_eq_some_iff.1 fa.out).1
      by_cases hlt : k < out.length
      · obtain ⟨bb, oo, rfl, hbb, hc⟩ := qpair_cell hR.out (by omega)
        obtain ⟨c0, c1⟩ := hc k hlt
        have d0 := (hb.cell hbb).trans c0
        have d1 := (hb.cell hbb).trans c1
        have hsa := @steps_at out k a hlt
        have htl := htx.out _ (List.getElem_mem hlt)
        obtain ⟨p, hp⟩ : ∃ p, out[k] = p := ⟨_, rfl⟩
        rw [hp] at d0 d1 hsa htl
        obtain ⟨vt, vx, hav⟩ := av_shape p
        have hTr := tabs_low hT.out (hb1.out.trans (hb.mono (Nat.le_of_lt hg1))) hsz2
        have hput := fun o => put_any a p w1.heap.size (wr.alloc o) (at_new fa.out) (tabs_ext hTr (ext_alloc _ _)) (by omega) (by omega)
        rw [hav] at d1 hput
        replace hst := Lib.hid (hsa.symm.trans hst.out)
        clear hc c0 c1 hp hav hsa hTr
        go_wp2_with fail
        refine (hput _).mono ?_
        rintro e w5 ⟨okp, a', rfl, fa5, hstep, hb5⟩
        have hb6 := hb.trans ((below_new _ _ hga _).trans hb5)
        have fz := Lib.hid ((hb6.block _ hg1).trans f1.out)
        cases okp with
        | false =>
          have hfin : Hid (At.read l = none) := Lib.hid (by rw [hrd.out, ← hst.out, hstep]; rfl)
          obtain ⟨z0, z1, z2, z3, z4, z5⟩ := six fz.out
          have zf := blk_free fz.out
          have hbz := Lib.hid (hb1.out.trans (hb6.mono (Nat.le_of_lt hg1)))
          clear hb5 hb6 fa5 hstep hput
          go_wp2_with fail
          exact bodyPost_ret (v := attrv none) (by rw [results_cell_tmp rfl]; go_simp; rfl) rfl ⟨by rw [hfin.out], (((((hbz.out.setCell (Nat.le_refl _) _).setCell (Nat.le_refl _) _).setCell (Nat.le_refl _) _).setCell (Nat.le_refl _) _).setCell (Nat.le_refl _) _).setCell (Nat.le_refl _) _⟩
        | true =>
          have hst2 : Hid (At.steps (out.drop (k + 1)) a' = At.steps out ⟨lang, [], [], [], false, false⟩) := Lib.hid (by rw [← hst.out, hstep]; rfl)
          replace fa5 := Lib.hid fa5
          clear hb5 hstep hput
          go_wp2_with fail
          go_roundw
          case rel => exact ⟨k + 1, a', by omega, by go_num, hst2, fa5, hb6⟩
          case measure => simp [intOf]; omega
      · have hnil : At.steps out ⟨lang, [], [], [], false, false⟩ = some a := by
          rw [← hst.out, List.drop_eq_nil_of_le (by omega)]; rfl
        have hrd2 : At.read l = if true = false ∨ (a.name ≠ [] ∧ a.file ≠ []) then none else some a := by rw [hrd.out, hnil]; rfl
        have fz := Lib.hid ((hb.block _ hg1).trans f1.out)
        have hbz := Lib.hid (hb1.out.trans (hb.mono (Nat.le_of_lt hg1)))
        obtain ⟨z0, z1, z2, z3, z4, z5⟩ := six fz.out
        have zf := blk_free fz.out
        obtain ⟨y0, y1, y2, y3, y4, y5⟩ := six fa.out
        obtain ⟨an, nm, fl, sy, ap, nl⟩ := a
        simp only at hrd2 y0 y1 y2 y3 y4 y5
        clear hnil hst
        rcases nm with _ | ⟨n1, n2⟩
        · have hfin : Hid (At.read l = some ⟨an, [], fl, sy, ap, nl⟩) := Lib.hid (by rw [hrd2, if_neg (by simp)])
          have tn := text_nil
          clear hrd2
          go_wp2_with fail
          exact bodyPost_ret (v := attrv (some ⟨an, [], fl, sy, ap, nl⟩)) (by rw [results_cell_tmp rfl]; go_simp; rfl) rfl ⟨by rw [hfin.out], (((((hbz.out.setCell (Nat.le_refl _) _).setCell (Nat.le_refl _) _).setCell (Nat.le_refl _) _).setCell (Nat.le_refl _) _).setCell (Nat.le_refl _) _).setCell (Nat.le_refl _) _⟩
        · have tn := text_cons n1 n2
          rcases fl with _ | ⟨m1, m2⟩
          · have hfin : Hid (At.read l = some ⟨an, n1 :: n2, [], sy, ap, nl⟩) := Lib.hid (by rw [hrd2, if_neg (by simp)])
            have tm := text_nil
            clear hrd2
            go_wp2_with fail
            exact bodyPost_ret (v := attrv (some ⟨an, n1 :: n2, [], sy, ap, nl⟩)) (by rw [results_cell_tmp rfl]; go_simp; rfl) rfl ⟨by rw [hfin.out], (((((hbz.out.setCell (Nat.le_refl _) _).setCell (Nat.le_refl _) _).setCell (Nat.le_refl _) _).setCell (Nat.le_refl _) _).setCell (Nat.le_refl _) _).setCell (Nat.le_refl _) _⟩
          · have hfin : Hid (At.read l = none) := Lib.hid (by rw [hrd2, if_pos (.inr ⟨by simp, by simp⟩)])
            have tm := text_cons m1 m2
            clear hrd2
            go_wp2_with fail
            exact bodyPost_ret (v := attrv none) (by rw [results_cell_tmp rfl]; go_simp; rfl) rfl ⟨by rw [hfin.out], (((((hbz.out.setCell (Nat.le_refl _) _).setCell (Nat.le_refl _) _).setCell (Nat.le_refl _) _).setCell (Nat.le_refl _) _).setCell (Nat.le_refl _) _).setCell (Nat.le_refl _) _⟩
end Go.Proofs.YtmmgfoepfapnkaaGreatDoor

namespace Go.Proofs.YtmmgfoepfapnkaaGreatDoor
open Go.RowKit

section
variable {a1 a2 a3 a4 b1 b2 b3 b4 : List UInt8} {a5 a6 b5 b6 : Bool}
end

end Go.Proofs.YtmmgfoepfapnkaaGreatDoor

namespace Go.Proofs.YtmmgfoepfapnkaaGreatDoor
open Go.RowKit

end Go.Proofs.YtmmgfoepfapnkaaGreatDoor

namespace Go.Proofs.YtmmgfoepfapnkaaGreatDoor.At
open Go.Proofs.YtmmgfoepfapnkaaGreatDoor.Cl (isGap gaps)

section
variable {f : Nat} {first : Bool} {lang key v w r : List UInt8} {out : List Pr}
end
end Go.Proofs.YtmmgfoepfapnkaaGreatDoor.At

namespace Go.Proofs.YtmmgfoepfapnkaaGreatDoor.At
open Go.Lib Go.RowKit

end Go.Proofs.YtmmgfoepfapnkaaGreatDoor.At

namespace Go.Proofs.YtmmgfoepfapnkaaGreatDoor.At

section
variable {n s : List UInt8}
end
end Go.Proofs.YtmmgfoepfapnkaaGreatDoor.At

namespace Go.Proofs.YtmmgfoepfapnkaaGreatDoor.At

end Go.Proofs.YtmmgfoepfapnkaaGreatDoor.At

namespace Go.Proofs.YtmmgfoepfapnkaaGreatDoor.At
open Go.Proofs.YtmmgfoepfapnkaaGreatDoor.Cl (isGap gaps)

/-- what a text that is read may say -/
def said (a : Attr) : Prop := (a.name = [] ∨ name a.name = true) ∧ (a.file = [] ∨ name a.file = true) ∧ (a.style = [] ∨ style a.style = true)

theorem steps_said : ∀ (L : List Pr) (a b : Attr), said a → steps L a = some b → said b ∧ b.lang = a.lang := by
  intro L
  induction L with
  | nil => intro a b ha h; cases h; exact ⟨ha, rfl⟩
  | cons p L ih =>
    intro a b ha h
    rw [steps] at h
    obtain ⟨c, hc, h⟩ := Option.bind_eq_some_iff.1 h
    have key : said c ∧ c.lang = a.lang := by
      unfold step at hc
      split at hc
      · rename_i hh; cases hc; exact ⟨⟨.inr hh.2.2, ha.2.1, ha.2.2⟩, rfl⟩
      · split at hc
        · rename_i hh; cases hc; exact ⟨⟨ha.1, .inr hh.2.2, ha.2.2⟩, rfl⟩
        · split at hc
          · rename_i hh; cases hc; exact ⟨⟨ha.1, ha.2.1, .inr hh.2.2⟩, rfl⟩
          · split at hc
            · cases hc; exact ⟨ha, rfl⟩
            · split at hc
              · cases hc; exact ⟨ha, rfl⟩
              · cases hc
    obtain ⟨h1, h2⟩ := ih c b key.1 h
    exact ⟨h1, h2.trans key.2⟩

/-- what is read is no longer than what it is read of -/
theorem run_lang_len (n : Nat) : ∀ (f : Nat) (first : Bool) (lang r : List UInt8) (out : List Pr), lang.length ≤ n → r.length ≤ n → (run f first lang out r).1.length ≤ n := by
  intro f
  induction f with
  | zero => intro first lang r out _ _; exact Nat.zero_le _
  | succ f ih =>
    intro first lang r out hl hr
    have hd : (r.drop (gaps r)).length ≤ n := by rw [List.length_drop]; omega
    have ht := tw_len word (r.drop (gaps r))
    rw [run]
    split
    · exact hl
    · split
      · exact ih _ _ _ _ (by omega) (by rw [List.length_drop]; omega)
      · split
        · exact Nat.zero_le _
        · split
          · exact Nat.zero_le _
          · exact ih _ _ _ _ hl (by rw [List.length_drop]; omega)
theorem name_len {l : List UInt8} (h : name l = true) : l.length ≤ 60 := by
  unfold name at h; simp only [Bool.and_eq_true, decide_eq_true_eq] at h; exact h.1.1.1.1.2
theorem style_len {l : List UInt8} (h : style l = true) : l.length ≤ 4 := by
  unfold style at h; simp only [Bool.and_eq_true, decide_eq_true_eq] at h; exact h.2.2
end Go.Proofs.YtmmgfoepfapnkaaGreatDoor.At

namespace Go.Proofs.YtmmgfoepfapnkaaGreatDoor
open Go.RowKit Go.Maps
attribute [local go_sem] canOp readsAs readUpon

theorem wpCan_set {P : Program} {ops : Array Oper} {Q : Exit → Act → World → Prop} {S : World → Prop} {i : Nat} {r : List (Bool × Nat)} {a : Act} {w w' : World} {o : Oper} (ho : ops[i]? = some o) (hw : Region.wanted o (yielded ops a.tmps) = true)
    (hrun : (execOp a.eval o).run P w = .ok .skip w') (hS : S w') (h : wpCan P ops Q r S (a.put o.dst undef) w') : wpCan P ops Q ((false, i) :: r) S a w :=
  ⟨o, ho, by
    unfold canOp
    rw [if_pos hw, if_neg (by simp)]
    unfold Oper.wp
    rw [hrun]
    exact ⟨S, hS, fun _ h => h, h⟩⟩
theorem wpT_set {P : Program} {ops : Array Oper} {Q : Exit → Act → World → Prop} {S : World → Prop} {i : Nat} {r : OT} {a : Act} {w w' : World} {o : Oper} (ho : ops[i]? = some o) (hw : Region.wanted o (yielded ops a.tmps) = true)
    (hrun : (execOp a.eval o).run P w = .ok .skip w') (hS : S w') (h : wpT P ops Q r S (a.put o.dst undef) w') : wpT P ops Q (.mk i r) S a w :=
  ⟨o, ho, by
    unfold canOp
    rw [if_pos hw, if_neg (by simp)]
    unfold Oper.wp
    rw [hrun]
    exact ⟨S, hS, fun _ h => h, h⟩⟩
theorem exec_str {P : Program} {ev : Operand → Value} {T : TypeId} {p x : Operand} {o : Oper} {w : World} {g off : Nat} {s : ByteArray} {z0 : Value} (ho : o.op = .store T p x) (hsz : (sizeOf T).run P w = .ok 1 w) (hp : ev p = .pointer (some ⟨g, off, none⟩)) (hx : ev x = .string s)
    (h0 : w.cell? ⟨g, off, none⟩ = some z0) (hf : ∀ j, w.frozen? ⟨g, j, none⟩ = false) : (execOp ev o).run P w = .ok .skip (w.setCell ⟨g, off, none⟩ (.string s)) := by
  unfold execOp
  rw [ho]
  go_simp
theorem exec_bool {P : Program} {ev : Operand → Value} {T : TypeId} {p x : Operand} {o : Oper} {w : World} {g off : Nat} {s : Bool} {z0 : Value} (ho : o.op = .store T p x) (hsz : (sizeOf T).run P w = .ok 1 w) (hp : ev p = .pointer (some ⟨g, off, none⟩)) (hx : ev x = .bool s)
    (h0 : w.cell? ⟨g, off, none⟩ = some z0) (hf : ∀ j, w.frozen? ⟨g, j, none⟩ = false) : (execOp ev o).run P w = .ok .skip (w.setCell ⟨g, off, none⟩ (.bool s)) := by
  unfold execOp
  rw [ho]
  go_simp
theorem exec_slice {P : Program} {ev : Operand → Value} {T : TypeId} {p x : Operand} {o : Oper} {w : World} {g off : Nat} {A : Option Addr} {n c : Nat} {z0 : Value} (ho : o.op = .store T p x) (hsz : (sizeOf T).run P w = .ok 1 w) (hp : ev p = .pointer (some ⟨g, off, none⟩)) (hx : ev x = .slice A n c)
    (h0 : w.cell? ⟨g, off, none⟩ = some z0) (hf : ∀ j, w.frozen? ⟨g, j, none⟩ = false) : (execOp ev o).run P w = .ok .skip (w.setCell ⟨g, off, none⟩ (.slice A n c)) := by
  unfold execOp
  rw [ho]
  go_simp
theorem exec_mapset {P : Program} {ev : Operand → Value} {T : TypeId} {mo x y : Operand} {o : Oper} {w w' : World} {m k c : Value} (ho : o.op = .mapUpdate T mo x y) (hm : ev mo = m) (hx : ev x = k) (hv : ev y = c)
    (hrun : (Instr.mapUpdate T m k c).run P w = .ok () w') : (execOp ev o).run P w = .ok .skip w' := by
  unfold execOp
  rw [ho]
  simp [hm, hx, hv, hrun, Result.andThen]
theorem wpT_app_big {P : Program} {w0 : World} {ops : Array Oper} {Q : Exit → Act → World → Prop} {S : World → Prop} {j : Nat} {r : OT} {o : Oper} {a : Act} (hoj : ops[j]? = some o) (hgd : o.guard = none) (s x : Operand) {T : TypeId}
    (ho : o.op = .call { callee := .builtin .append, args := #[s, x], argTypes := #[T, T] })
    {E : TypeId} {size bytes : Nat} (hE : EI P T E size bytes) {base n : Nat} {v : Value} {xs : List Value} (hs : a.eval s = v) (hown : w0.ownsRow base E size v n xs)
    {g k c : Nat} {cs : Array Value} (hx : a.eval x = .slice (some ⟨g, 0, none⟩) k c) (hg : g = w0.heap.size) (hcs : cs.size = k * size) (h1 : ∀ u ∈ cs.toList, u.oneCell' = true)
    (h63 : n + k ≤ 10000000000) (hbytes : bytes ≤ 1000) (hbase : base ≤ w0.heap.size)
    (h : ∀ v' w', w'.ownsRow base E size v' (n + k) (xs ++ cs.toList) → Hid (w0.grownBy w' v.ownBlock) → Below base w0 w' → Hid (At w0.heap.size v v') → ∃ S' : World → Prop, S' w' ∧ (∀ u, S' u → S u) ∧ wpT P ops Q r S' (a.put o.dst v') w') :
    wpT P ops Q (.mk j r) S a (w0.alloc (.cells cs E)) := by
  obtain ⟨i, z, hi, hz, hs1, hs2, hs3⟩ := hE.info
  refine ⟨o, hoj, ?_⟩
  unfold canOp
  rw [if_pos (by simp [Region.wanted, hgd]), if_neg (by simp)]
  obtain ⟨v', w', hrun, h2, h3, _, h5⟩ := run_append_own_at (P := P) (w0.alloc (.cells cs E)) base T o.type E i z size bytes hE.ht hi hz hs1 hs2 hs3 hE.pos v n xs (hown.alloc _) ⟨g, 0, none⟩ k c cs.toList (by simpa using hcs) (cells_new w0 cs E hg) h1
    (by unfold maxLen; omega) (by have := Nat.mul_le_mul h63 hbytes; omega) (by simp; omega)
  unfold Oper.wp execOp
  simp only [ho, resolve, invoke, builtin, Sem.run_bind, Sem.run_pure, Result.andThen_ok, List.map_toArray, List.map_cons, List.map_nil, hs, hx, hrun]
  refine h v' w' h2 (Lib.hid (grown_new h3)) (below_grown (Below.refl _ _) (hown.alloc _) ((Below.refl _ _).alloc hbase _) h3 (by simp; omega)) (Lib.hid fun q hq => ?_)
  rcases h5 with e | e
  · rw [e] at hq; exact .inl hq
  · rw [e] at hq; simp at hq; exact .inr (by omega)

/-- the last step: the row grows, its slice is kept -/
theorem coll_more {w w9 : World} {B g gm n c c2 : Nat} {X : Nat → Prop} {A LA : Option Addr} {v9 : Value} {D : DataW Unit} {out : List Ck.Def} {d : Ck.Def} {css : List (List Value)}
    (hg : w.heap[g]? = some (.cells #[.slice A out.length c, .map (some gm)] 67 (0, 0)))
    (he : Els (DC w (fun b => B ≤ b ∧ b < w.heap.size ∧ (Value.slice A out.length c).ownBlock ≠ some b)) out css) (hm : w.ownsMap Tryz.prog 9 (plainElem Tryz.prog 3) gm n D) (hn : n ≤ out.length + 1) (hk : KMap (out ++ [d]) D) (hgB : g < B) (hgmB : gm < B) (hne : g ≠ gm)
    (hown : w9.ownsRow B 52 12 v9 (out.length + 1) (css.flatten ++ dcells d (.slice LA d.lines.length c2))) (hgr : w.grownBy w9 (Value.slice A out.length c).ownBlock) (hat : At w.heap.size (.slice A out.length c) v9) (hvB : ∀ k, (Value.slice A out.length c).ownBlock = some k → B ≤ k)
    (hl : RowE w (fun b => B ≤ b ∧ b < w.heap.size ∧ (Value.slice A out.length c).ownBlock ≠ some b) 1 LA d.lines.length (scells d.lines)) (hlc : d.lines.length ≤ c2) (hX : ∀ k, X k → (Value.slice A out.length c).ownBlock ≠ some k) (hXl : ∀ k, X k → k < w.heap.size) :
    Coll (w9.setCell ⟨g, 0, none⟩ v9) B g gm X (out ++ [d]) := by
  have hO := OwnD.more he rfl hown hgr hat hl hlc
  have g9 := grown_blk hgr hg (fun e => by have := hvB g e; omega)
  have hs := heap_setCell_same w9 g 0 _ _ v9 g9
  refine ⟨v9, n, D, hs, hO.grown (grown_set w9 ⟨g, 0, none⟩ v9) hgB, ?_, by rw [List.length_append]; exact hn, hk, hgB, hgmB, hne, fun k hk e => (hat k e).elim (hX k hk) (fun e2 => by have := hXl k hk; omega)⟩
  have hm9 := World.ownsMap.kept hm hgr (fun e => by have := hvB gm e.symm; omega)
  exact World.ownsMap.kept hm9 (grown_set w9 ⟨g, 0, none⟩ v9) (fun e => hne (by injection e with e; exact e.symm))
end Go.Proofs.YtmmgfoepfapnkaaGreatDoor

namespace Go.Proofs.YtmmgfoepfapnkaaGreatDoor
open Go.RowKit Go.Maps
attribute [local go_sem] canOp readsAs readUpon

set_option maxHeartbeats 8000000 in
set_option maxRecDepth 100000 in
theorem add_any (w0 w : World) (B B0 g gm : Nat) (X : Nat → Prop) (out : List Ck.Def) (d : Ck.Def) (LA : Option Addr) (LC : Nat) (h : Coll w0 B g gm X out) (hB : B ≤ w0.heap.size) (hb : Below w0.heap.size w0 w)
    (hl : RowE w (fun b => w0.heap.size ≤ b ∧ b < w.heap.size) 1 LA d.lines.length (scells d.lines)) (hlc : d.lines.length ≤ LC) (hkl : d.key.length ≤ 1000000000) (hol : out.length ≤ 1000000) (hg0 : B0 ≤ g) (hgm0 : B0 ≤ gm) (hX : ∀ k, X k → k < w.heap.size ∧ k ≠ g ∧ k ≠ gm) :
    Calls Tryz.prog 66 #[.pointer (some ⟨g, 0, none⟩), .agg (darr d (.slice LA d.lines.length LC))] w fun e w' => e = .returned (.tuple #[]) ∧ Coll w' B g gm X (out ++ [Ck.lay out d]) ∧ Below B0 w w' ∧ ∀ k, X k → w'.heap[k]? = w.heap[k]? := by
  obtain ⟨v, n, D, h1, ⟨css, ho, he⟩, hm, hn, hkm, hgB, hgmB, hne, hXv⟩ := h
  obtain ⟨A, c, rfl, hc⟩ := own_shape ho
  have hvlt := ho.lt
  have hsz := hb.size
  -- all of it, in w
  have h1 := (keep h1 hb).1
  have ho := own_below ho hb
  have he : Els (DC w (fun b => B ≤ b ∧ b < w.heap.size ∧ (Value.slice A out.length c).ownBlock ≠ some b)) out css := he.mono fun _ _ hd => hd.frame (fun b hq => hb.block b hq.2.1) (fun b hq => ⟨hq.1, Nat.lt_of_lt_of_le hq.2.1 hsz, hq.2.2⟩)
  have hm := imap_ext hm hb
  have hl : RowE w (fun b => B ≤ b ∧ b < w.heap.size ∧ (Value.slice A out.length c).ownBlock ≠ some b) 1 LA d.lines.length (scells d.lines) := hl.frame (fun _ _ => rfl) (fun b hq => ⟨by omega, hq.2, fun e => by have := hvlt b e; omega⟩)
  have hb0 := ext_alloc w (.cells (darr d (.slice LA d.lines.length LC)) 52)
  have hq0 := heap_alloc_new w (.cells (darr d (.slice LA d.lines.length LC)) 52)
  have hvw : ∀ k, (Value.slice A out.length c).ownBlock = some k → B ≤ k ∧ k < w.heap.size := fun k e => ho.lt k e
  obtain ⟨wx, hwx⟩ : ∃ wx, w.alloc (.cells (darr d (.slice LA d.lines.length LC)) 52) = wx := ⟨_, rfl⟩
  rw [hwx] at hb0 hq0
  have g1 := (keep h1 hb0).1
  have o1 := own_below ho hb0
  have e1 : Els (DC wx (fun b => B ≤ b ∧ b < w.heap.size ∧ (Value.slice A out.length c).ownBlock ≠ some b)) out css := he.mono fun _ _ hd => hd.frame (fun b hq => hb0.block b hq.2.1) (fun b hq => hq)
  have m1 := imap_ext hm hb0
  have l1 : RowE wx (fun b => B ≤ b ∧ b < w.heap.size ∧ (Value.slice A out.length c).ownBlock ≠ some b) 1 LA d.lines.length (scells d.lines) := hl.frame (fun b hq => hb0.block b hq.2.1) (fun b hq => hq)
  have hlk := look_coll m1 hkm hkl
  obtain ⟨gd, hgd⟩ : ∃ gd, w.heap.size = gd := ⟨_, rfl⟩
  rw [hgd] at hq0 hvw hsz e1 l1
  have hzx : gd < wx.heap.size := (Array.getElem?_eq_some_iff.1 hq0).1
  have hwB : B ≤ gd := by omega
  have k1 := cell12 g1 (j := 1) rfl
  have hvgd : Hid ((Value.slice A out.length c).ownBlock ≠ some gd) := Lib.hid (fun e => by have := hvw gd e; omega)
  have hvB := Lib.hid (fun k (e : (Value.slice A out.length c).ownBlock = some k) => (hvw k e).1)
  have hbw : Below B0 w wx := hb0.mono (by omega)
  have hfr : Hid (∀ k, X k → wx.heap[k]? = w.heap[k]?) := Lib.hid (fun k hk => hb0.block k (hX k hk).1)
  have hXl : Hid (∀ k, X k → k < wx.heap.size) := Lib.hid (fun k hk => Nat.lt_of_lt_of_le (hX k hk).1 hb0.size)
  rw [hgd] at hX
  replace hX := Lib.hid hX
  replace hXv := Lib.hid hXv
  have hrow : Hid (DRow wx wx.heap.size A out.length out css) := Lib.hid ⟨rfl, Row.own o1, e1.mono fun _ _ hd => hd.frame (fun _ _ => rfl) (fun b hq => Nat.lt_trans hq.2.1 hzx)⟩
  obtain ⟨doc, line, frm, upto, a, key, lines⟩ := d
  obtain ⟨lang, name, file, style, ap, nl⟩ := a
  simp only at hlc hkl hlk hq0 l1 hwx
  simp only [darr] at hwx hq0 ⊢
  have q10 := cell12 hq0 (j := 10) rfl
  replace hbw := Lib.hid hbw
  replace hbs := Lib.hid hb
  clear h1 ho he hm hl hvlt hb hb0 hvw
  cases hp : Ck.place out key with
  | none =>
    have hlay : Hid (Ck.lay out ⟨doc, line, frm, upto, ⟨lang, name, file, style, ap, nl⟩, key, lines⟩ = ⟨doc, line, frm, upto, ⟨lang, name, file, style, ap, nl⟩, key, lines⟩) := Lib.hid (by unfold Ck.lay; rw [show Ck.first out key = none from Ck.place_none hp])
    rw [hp] at hlk
    simp only [Option.getD_none, Option.isSome_none] at hlk
    have hlkd : (Instr.lookup 54 (.map (some gm)) (.string (bs key)) true).run Tryz.prog wx.drew = .ok (.tuple #[.int .i64 0, .bool false]) wx.drew := by have := look_coll (u := wx.drew) m1 hkm hkl; rw [hp] at this; exact this
    have hkmN := hkm.more m1.isMap hp ⟨doc, line, frm, upto, ⟨lang, name, file, style, ap, nl⟩, key, lines⟩ rfl
    simp only at hkmN
    replace hkmN := Lib.hid hkmN
    replace g1 := Lib.hid g1
    replace o1 := Lib.hid o1
    replace e1 := Lib.hid e1
    replace m1 := Lib.hid m1
    replace l1 := Lib.hid l1
    replace hkm := Lib.hid hkm
    replace hq0 := Lib.hid hq0
    have k0 := cell12 g1.out (j := 0) rfl
    go_enter Tryz.func66, Tryz.ntmps66
    go_upto_region 1 with fail
    have hS0 : wx.drew.heap[g]? = some (.cells #[.slice A out.length c, .map (some gm)] 67 (0, 0)) ∧ wx.drew.heap[gd]? = some (.cells #[.int .i64 (doc : Int), .int .i64 (line : Int), .int .i64 (frm : Int), .int .i64 (upto : Int), .string (bs lang), .string (bs name), .string (bs file), .string (bs style), .bool ap, .bool nl, .string (bs key), .slice LA lines.length LC] 52 (0, 0)) := ⟨g1.out, hq0.out⟩
    refine wp_region_can [(true, 0), (true, 1), (true, 2), (true, 3), (true, 4), (true, 5), (false, 6), (true, 7), (true, 8), (true, 9), (true, 10), (true, 11)] (fun u : World => u.heap[g]? = some (.cells #[.slice A out.length c, .map (some gm)] 67 (0, 0)) ∧ u.heap[gd]? = some (.cells #[.int .i64 (doc : Int), .int .i64 (line : Int), .int .i64 (frm : Int), .int .i64 (upto : Int), .string (bs lang), .string (bs name), .string (bs file), .string (bs style), .bool ap, .bool nl, .string (bs key), .slice LA lines.length LC] 52 (0, 0))) hS0 (by kernel_rfl) (by kernel_rfl) (by kernel_rfl) (fun _ _ d _ _ h => by cases d <;> exact h) ?_
    repeat (first | refine wpCan_move rfl ?_ | (refine wpCan_cons rfl ?_; intro K hK; go_simp; refine hK _ _ _ ?_; clear hK K))
    refine wpCan_read (.map (some gm)) rfl rfl hS0 (fun u hu => by have z := cell12 hu.1 (j := 1) rfl; go_simp) ?_
    repeat (first | refine wpCan_move rfl ?_ | (refine wpCan_cons rfl ?_; intro K hK; go_simp; refine hK _ _ _ ?_; clear hK K))
    refine wpCan_read (.string (bs key)) rfl rfl hS0 (fun u hu => by have z := cell12 hu.2 (j := 10) rfl; go_simp) ?_
    repeat (first | refine wpCan_move rfl ?_ | (refine wpCan_cons rfl ?_; intro K hK; go_simp; refine hK _ _ _ ?_; clear hK K))
    refine wpCan_cons rfl ?_
    intro K hK
    go_simp
    refine ⟨_, hS0, fun _ h => h, hK _ _ _ ?_⟩
    clear hK K
    repeat (first | refine wpCan_move rfl ?_ | (refine wpCan_cons rfl ?_; intro K hK; go_simp; refine hK _ _ _ ?_; clear hK K))
    refine wpCan_nil ?_
    go_upto_region 5 with fail
    obtain ⟨w', hrun, hmX, hgX⟩ := World.ownsMap.update (w := wx.drew.drew) (show wx.drew.drew.ownsMap Tryz.prog 9 (plainElem Tryz.prog 3) gm n D from m1.out) strLaw Tryz.underlying54 (by unfold maxLen; omega) (str_key hkl) (plainElem_int Tryz.underlying3 (wfI (n := out.length) (by omega)))
    refine wp_region_can [(true, 0), (true, 1), (true, 2), (true, 3), (true, 4), (true, 5), (true, 6), (true, 7), (true, 8), (true, 9), (true, 10), (false, 11)] (fun u : World => u.heap[g]? = some (.cells #[.slice A out.length c, .map (some gm)] 67 (0, 0)) ∧ u.heap[gd]? = some (.cells #[.int .i64 (doc : Int), .int .i64 (line : Int), .int .i64 (frm : Int), .int .i64 (upto : Int), .string (bs lang), .string (bs name), .string (bs file), .string (bs style), .bool ap, .bool nl, .string (bs key), .slice LA lines.length LC] 52 (0, 0))) hS0 (by kernel_rfl) (by kernel_rfl) (by kernel_rfl) (fun _ _ d _ _ h => by cases d <;> exact h) ?_
    repeat (first | refine wpCan_move rfl ?_ | (refine wpCan_cons rfl ?_; intro K hK; go_simp; refine hK _ _ _ ?_; clear hK K))
    refine wpCan_read (.map (some gm)) rfl rfl hS0 (fun u hu => by have z := cell12 hu.1 (j := 1) rfl; go_simp) ?_
    repeat (first | refine wpCan_move rfl ?_ | (refine wpCan_cons rfl ?_; intro K hK; go_simp; refine hK _ _ _ ?_; clear hK K))
    refine wpCan_read (.string (bs key)) rfl rfl hS0 (fun u hu => by have z := cell12 hu.2 (j := 10) rfl; go_simp) ?_
    repeat (first | refine wpCan_move rfl ?_ | (refine wpCan_cons rfl ?_; intro K hK; go_simp; refine hK _ _ _ ?_; clear hK K))
    refine wpCan_read (.slice A out.length c) rfl rfl hS0 (fun u hu => by have z := cell12 hu.1 (j := 0) rfl; go_simp) ?_
    repeat (first | refine wpCan_move rfl ?_ | (refine wpCan_cons rfl ?_; intro K hK; go_simp; refine hK _ _ _ ?_; clear hK K))
    have hxg : w'.heap[g]? = some (.cells #[.slice A out.length c, .map (some gm)] 67 (0, 0)) := grown_blk hgX (show wx.drew.drew.heap[g]? = _ from g1.out) (fun e => hne (by injection e with e; exact e.symm))
    have hxd : w'.heap[gd]? = some (.cells #[.int .i64 (doc : Int), .int .i64 (line : Int), .int .i64 (frm : Int), .int .i64 (upto : Int), .string (bs lang), .string (bs name), .string (bs file), .string (bs style), .bool ap, .bool nl, .string (bs key), .slice LA lines.length LC] 52 (0, 0)) := grown_blk hgX (show wx.drew.drew.heap[gd]? = _ from hq0.out) (fun e => by injection e with e; omega)
    refine wpCan_set (o := ⟨none, .mapUpdate 54 (.tmp 41) (.tmp 43) (.tmp 48), _, _, _, none⟩) rfl rfl (exec_mapset rfl rfl rfl rfl hrun) ⟨hxg, hxd⟩ ?_
    refine wpCan_nil ?_
    have hgr : wx.grownBy w' (some gm) := ⟨hgX.os, hgX.tape, hgX.output, hgX.size, hgX.block⟩
    have hbw2 : Hid (Below B0 w w') := Lib.hid (hbw.out.grown hgr (by omega) (fun k e => by injection e with e; omega))
    have hszX : wx.heap.size ≤ w'.heap.size := hgr.size
    have hfr2 : Hid (∀ k, X k → w'.heap[k]? = w.heap[k]?) := Lib.hid (fun k hk => (hgr.block k (hXl.out k hk) (fun e => (hX.out k hk).2.2 (by injection e))).trans (hfr.out k hk))
    have hXl2 : Hid (∀ k, X k → k < w'.heap.size) := Lib.hid (fun k hk => Nat.lt_of_lt_of_le (hXl.out k hk) hszX)
    have hoX := Lib.hid (World.ownsRow.kept o1.out hgr (.inr (fun e => by have := hvB.out gm e; omega)))
    have heX : Hid (Els (DC w' (fun b => B ≤ b ∧ b < w'.heap.size ∧ (Value.slice A out.length c).ownBlock ≠ some b)) out css) := Lib.hid (e1.out.mono fun _ _ hd => hd.frame (fun b hq => hgr.block b (Nat.lt_trans hq.2.1 hzx) (fun e => by injection e with e; omega)) (fun b hq => ⟨hq.1, Nat.lt_of_lt_of_le (Nat.lt_trans hq.2.1 hzx) hszX, hq.2.2⟩))
    have hlX : Hid (RowE w' (fun b => B ≤ b ∧ b < w'.heap.size ∧ (Value.slice A out.length c).ownBlock ≠ some b) 1 LA lines.length (scells lines)) := Lib.hid (l1.out.frame (fun b hq => hgr.block b (Nat.lt_trans hq.2.1 hzx) (fun e => by injection e with e; omega)) (fun b hq => ⟨hq.1, Nat.lt_of_lt_of_le (Nat.lt_trans hq.2.1 hzx) hszX, hq.2.2⟩))
    replace hmX := Lib.hid hmX
    clear hrun hgX hgr hS0 hlkd g1 o1 e1 m1 l1 hq0 k0 k1 q10 hbw
    have hgX := Lib.hid hxg
    have hdX := Lib.hid hxd
    clear hxg hxd
    generalize w' = wy at hfr2 hXl2 hbw2 hszX hoX heX hlX hgX hdX hmX ⊢
    have hbw := hbw2
    have hlcX := hlc
    go_upto_region 6 with fail
    have zg : wy.drew.heap[g]? = some (.cells #[.slice A out.length c, .map (some gm)] 67 (0, 0)) := hgX.out
    have zd : wy.drew.heap[gd]? = some (.cells #[.int .i64 (doc : Int), .int .i64 (line : Int), .int .i64 (frm : Int), .int .i64 (upto : Int), .string (bs lang), .string (bs name), .string (bs file), .string (bs style), .bool ap, .bool nl, .string (bs key), .slice LA lines.length LC] 52 (0, 0)) := hdX.out
    have zo : wy.drew.ownsRow B 52 12 (.slice A out.length c) out.length css.flatten := hoX.out
    have ze : Els (DC wy.drew (fun b9 => B ≤ b9 ∧ b9 < wy.drew.heap.size ∧ (Value.slice A out.length c).ownBlock ≠ some b9)) out css := heX.out
    have zm : wy.drew.ownsMap Tryz.prog 9 (plainElem Tryz.prog 3) gm (n + 1) (D.put (.string key) (.lit (.int .i64 (out.length : Int)))) := hmX.out
    have zl : RowE wy.drew (fun b9 => B ≤ b9 ∧ b9 < wy.drew.heap.size ∧ (Value.slice A out.length c).ownBlock ≠ some b9) 1 LA lines.length (scells lines) := hlX.out
    have zb : Below B0 w wy.drew := below_drewN hbw.out 1
    have zf : ∀ k, X k → wy.drew.heap[k]? = w.heap[k]? := hfr2.out
    have zx : ∀ k, X k → k < wy.drew.heap.size := hXl2.out
    refine wp_region_tree (.rd 0 (.rd 1 (.rd 2 (.rd 3 (.rd 5 (.fk 4 (.mk 6 (.mk 7 (.rd 8 (.rd 9 (.mk 10 .fin))))) 6 (.mk 4 (.mk 7 (.rd 8 (.rd 9 (.mk 10 .fin))))))))))) (fun u : World => u.heap[gd]? = some (.cells #[.int .i64 (doc : Int), .int .i64 (line : Int), .int .i64 (frm : Int), .int .i64 (upto : Int), .string (bs lang), .string (bs name), .string (bs file), .string (bs style), .bool ap, .bool nl, .string (bs key), .slice LA lines.length LC] 52 (0, 0))) zd (by kernel_rfl) (by kernel_rfl) (by kernel_rfl) (fun _ _ d _ _ h => by cases d <;> exact h) ?_
    generalize wy.drew = wd at zg zd zo ze zm zl zb zf zx ⊢
    replace zf := Lib.hid zf
    replace zx := Lib.hid zx
    have hsd : gd < wd.heap.size := (Array.getElem?_eq_some_iff.1 zd).1
    repeat (first | refine wpT_move rfl ?_ | (refine wpT_rd rfl ?_; intro K hK; go_simp; refine hK _ _ _ ?_; clear hK K))
    refine wpT_read (.agg #[.int .i64 (doc : Int), .int .i64 (line : Int), .int .i64 (frm : Int), .int .i64 (upto : Int), .string (bs lang), .string (bs name), .string (bs file), .string (bs style), .bool ap, .bool nl, .string (bs key), .slice LA lines.length LC]) rfl rfl zd (fun u hu => by
      have z0 := cell12 hu (j := 0) rfl
      have z1 := cell12 hu (j := 1) rfl
      have z2 := cell12 hu (j := 2) rfl
      have z3 := cell12 hu (j := 3) rfl
      have z4 := cell12 hu (j := 4) rfl
      have z5 := cell12 hu (j := 5) rfl
      have z6 := cell12 hu (j := 6) rfl
      have z7 := cell12 hu (j := 7) rfl
      have z8 := cell12 hu (j := 8) rfl
      have z9 := cell12 hu (j := 9) rfl
      have z10 := cell12 hu (j := 10) rfl
      have z11 := cell12 hu (j := 11) rfl
      go_simp) ?_
    have kX := cell12 zg (j := 0) rfl
    replace zo := Lib.hid zo
    replace ze := Lib.hid ze
    replace zm := Lib.hid zm
    replace zl := Lib.hid zl
    replace zb := Lib.hid zb
    refine wpT_fk ?wa ?wb
    case' wa =>
      refine wpT_mk rfl ?_
      intro K hK
      go_simp
      refine ⟨(fun u : World => u.heap[gd]? = some (.cells #[.int .i64 (doc : Int), .int .i64 (line : Int), .int .i64 (frm : Int), .int .i64 (upto : Int), .string (bs lang), .string (bs name), .string (bs file), .string (bs style), .bool ap, .bool nl, .string (bs key), .slice LA lines.length LC] 52 (0, 0))), zd, fun _ h => h, hK _ _ _ ?_⟩
      clear hK K
      refine wpT_mk rfl ?_
      intro K hK
      go_simp
      refine ⟨(fun u : World => u.heap[gd]? = some (.cells #[.int .i64 (doc : Int), .int .i64 (line : Int), .int .i64 (frm : Int), .int .i64 (upto : Int), .string (bs lang), .string (bs name), .string (bs file), .string (bs style), .bool ap, .bool nl, .string (bs key), .slice LA lines.length LC] 52 (0, 0))), (keep zd (ext_alloc _ _)).1, fun _ h => h, hK _ _ _ ?_⟩
      clear hK K
      refine wpT_app_big rfl rfl (.tmp 53) (.tmp 55) rfl defEI rfl zo.out rfl rfl rfl (by intro u hu; exact darr_one ⟨doc, line, frm, upto, ⟨lang, name, file, style, ap, nl⟩, key, lines⟩ LA lines.length LC u hu) (by omega) (by omega) (by omega) ?_
      intro v9 w9 hown9 hg9 hb9 hat9
      have gd9 := grown_blk hg9.out zd (fun e => hvgd.out e)
      refine ⟨(fun u : World => u.heap[gd]? = some (.cells #[.int .i64 (doc : Int), .int .i64 (line : Int), .int .i64 (frm : Int), .int .i64 (upto : Int), .string (bs lang), .string (bs name), .string (bs file), .string (bs style), .bool ap, .bool nl, .string (bs key), .slice LA lines.length LC] 52 (0, 0))), gd9, fun _ h => h, ?_⟩
      have hfin := coll_more (d := ⟨doc, line, frm, upto, ⟨lang, name, file, style, ap, nl⟩, key, lines⟩) zg ze.out zm.out (by omega) hkmN.out hgB hgmB hne hown9 hg9.out hat9.out hvB.out zl.out hlc hXv.out zx.out
      have hBf : Below B0 wd (w9.setCell ⟨g, 0, none⟩ v9) := (hb9.mono (by omega)).setCell (p := ⟨g, 0, none⟩) hg0 _
      have g9 := grown_blk hg9.out zg (fun e => by have := hvB.out g e; omega)
      have k9 := cell12 g9 (j := 0) rfl
      have f9 := blk_free g9
      obtain ⟨A9, c9, rfl, hc9⟩ := own_shape hown9
      repeat (first | refine wpT_move rfl ?_ | (refine wpT_rd rfl ?_; intro K hK; go_simp; refine hK _ _ _ ?_; clear hK K))
      refine wpT_set (o := ⟨none, .store 35 (.tmp 58) (.tmp 56), _, _, _, none⟩) rfl rfl (exec_slice rfl (by kernel_rfl) rfl rfl k9 f9) ((Below.heap_setCell _ _ _ _ (by show gd ≠ g; omega)).trans gd9) ?_
      refine wpT_fin ?_
      have hfin' := Lib.hid hfin
      have hFf : Hid (∀ k, X k → (w9.setCell ⟨g, 0, none⟩ (.slice A9 (out.length + 1) c9)).heap[k]? = w.heap[k]?) := Lib.hid (fun k hk => (Below.heap_setCell _ _ _ _ (hX.out k hk).2.1).trans ((hg9.out.block k (zx.out k hk) (fun e => hXv.out k hk e.symm)).trans (zf.out k hk)))
      have hBf' := Lib.hid (zb.out.trans hBf)
      clear k9 f9 hfin hBf g9 hown9 hg9 hb9 hat9 gd9
      generalize w9.setCell ⟨g, 0, none⟩ (.slice A9 (out.length + 1) c9) = wz at hfin' hBf' hFf ⊢
      go_wp2_with fail
      go_returns
      exact ⟨rfl, by rw [hlay.out]; exact hfin'.out, hBf'.out, hFf.out⟩
    case' wb =>
      refine wpT_mk rfl ?_
      intro K hK
      go_simp
      refine ⟨(fun u : World => u.heap[gd]? = some (.cells #[.int .i64 (doc : Int), .int .i64 (line : Int), .int .i64 (frm : Int), .int .i64 (upto : Int), .string (bs lang), .string (bs name), .string (bs file), .string (bs style), .bool ap, .bool nl, .string (bs key), .slice LA lines.length LC] 52 (0, 0))), (keep zd (ext_alloc _ _)).1, fun _ h => h, hK _ _ _ ?_⟩
      clear hK K
      have kY := cell12 (keep zg (ext_alloc wd (.cells #[.int .i64 (doc : Int), .int .i64 (line : Int), .int .i64 (frm : Int), .int .i64 (upto : Int), .string (bs lang), .string (bs name), .string (bs file), .string (bs style), .bool ap, .bool nl, .string (bs key), .slice LA lines.length LC] 52))).1 (j := 0) rfl
      refine wpT_mk rfl ?_
      intro K hK
      go_simp
      refine ⟨(fun u : World => u.heap[gd]? = some (.cells #[.int .i64 (doc : Int), .int .i64 (line : Int), .int .i64 (frm : Int), .int .i64 (upto : Int), .string (bs lang), .string (bs name), .string (bs file), .string (bs style), .bool ap, .bool nl, .string (bs key), .slice LA lines.length LC] 52 (0, 0))), (keep zd (ext_alloc _ _)).1, fun _ h => h, hK _ _ _ ?_⟩
      clear hK K
      refine wpT_app_big rfl rfl (.tmp 53) (.tmp 55) rfl defEI rfl zo.out rfl rfl rfl (by intro u hu; exact darr_one ⟨doc, line, frm, upto, ⟨lang, name, file, style, ap, nl⟩, key, lines⟩ LA lines.length LC u hu) (by omega) (by omega) (by omega) ?_
      intro v9 w9 hown9 hg9 hb9 hat9
      have gd9 := grown_blk hg9.out zd (fun e => hvgd.out e)
      refine ⟨(fun u : World => u.heap[gd]? = some (.cells #[.int .i64 (doc : Int), .int .i64 (line : Int), .int .i64 (frm : Int), .int .i64 (upto : Int), .string (bs lang), .string (bs name), .string (bs file), .string (bs style), .bool ap, .bool nl, .string (bs key), .slice LA lines.length LC] 52 (0, 0))), gd9, fun _ h => h, ?_⟩
      have hfin := coll_more (d := ⟨doc, line, frm, upto, ⟨lang, name, file, style, ap, nl⟩, key, lines⟩) zg ze.out zm.out (by omega) hkmN.out hgB hgmB hne hown9 hg9.out hat9.out hvB.out zl.out hlc hXv.out zx.out
      have hBf : Below B0 wd (w9.setCell ⟨g, 0, none⟩ v9) := (hb9.mono (by omega)).setCell (p := ⟨g, 0, none⟩) hg0 _
      have g9 := grown_blk hg9.out zg (fun e => by have := hvB.out g e; omega)
      have k9 := cell12 g9 (j := 0) rfl
      have f9 := blk_free g9
      obtain ⟨A9, c9, rfl, hc9⟩ := own_shape hown9
      repeat (first | refine wpT_move rfl ?_ | (refine wpT_rd rfl ?_; intro K hK; go_simp; refine hK _ _ _ ?_; clear hK K))
      refine wpT_set (o := ⟨none, .store 35 (.tmp 58) (.tmp 56), _, _, _, none⟩) rfl rfl (exec_slice rfl (by kernel_rfl) rfl rfl k9 f9) ((Below.heap_setCell _ _ _ _ (by show gd ≠ g; omega)).trans gd9) ?_
      refine wpT_fin ?_
      have hfin' := Lib.hid hfin
      have hFf : Hid (∀ k, X k → (w9.setCell ⟨g, 0, none⟩ (.slice A9 (out.length + 1) c9)).heap[k]? = w.heap[k]?) := Lib.hid (fun k hk => (Below.heap_setCell _ _ _ _ (hX.out k hk).2.1).trans ((hg9.out.block k (zx.out k hk) (fun e => hXv.out k hk e.symm)).trans (zf.out k hk)))
      have hBf' := Lib.hid (zb.out.trans hBf)
      clear k9 f9 hfin hBf g9 hown9 hg9 hb9 hat9 gd9
      generalize w9.setCell ⟨g, 0, none⟩ (.slice A9 (out.length + 1) c9) = wz at hfin' hBf' hFf ⊢
      go_wp2_with fail
      go_returns
      exact ⟨rfl, by rw [hlay.out]; exact hfin'.out, hBf'.out, hFf.out⟩
  | some i =>
    obtain ⟨hi, hf⟩ := Ck.place_some hp
    have hlay : Hid (Ck.lay out ⟨doc, line, frm, upto, ⟨lang, name, file, style, ap, nl⟩, key, lines⟩ = ⟨doc, line, frm, upto, ⟨out[i].attr.lang, name, file, out[i].attr.style, ap, out[i].attr.noline⟩, key, lines⟩) := Lib.hid (by unfold Ck.lay; rw [show Ck.first out key = some out[i] from hf])
    have hlkd : (Instr.lookup 54 (.map (some gm)) (.string (bs key)) true).run Tryz.prog wx.drew = .ok (.tuple #[.int .i64 (i : Int), .bool true]) wx.drew := by have := look_coll (u := wx.drew) m1 hkm hkl; rw [hp] at this; exact this
    have hkmN := hkm.same (d := ⟨doc, line, frm, upto, ⟨lang, name, file, style, ap, nl⟩, key, lines⟩) hp ⟨doc, line, frm, upto, ⟨out[i].attr.lang, name, file, out[i].attr.style, ap, out[i].attr.noline⟩, key, lines⟩ rfl
    obtain ⟨b, o, hAe, hbb, hcc⟩ := hrow.out.def_at (by omega)
    obtain ⟨LA2, lc2, _, _, hcd⟩ := hcc i hi
    obtain ⟨f, hfe⟩ : ∃ f, out[i] = f := ⟨_, rfl⟩
    rw [hfe] at hlay hkmN hcd
    obtain ⟨⟨flang, fname, ffile, fstyle, fap, fnl⟩, hfa⟩ : ∃ a, f.attr = a := ⟨_, rfl⟩
    have hcd2 : ∀ j u, (dcells f (.slice LA2 f.lines.length lc2))[j]? = some u → wx.cell? ⟨b, o + i * 12 + j, none⟩ = some u := hcd
    simp only [dcells, hfa] at hcd2 hlay hkmN
    have hvb : (Value.slice A out.length c).ownBlock = some b := by rw [hAe]; rfl
    have c4 := hcd2 4 _ rfl
    have c5 := hcd2 5 _ rfl
    have c6 := hcd2 6 _ rfl
    have c7 := hcd2 7 _ rfl
    have c8 := hcd2 8 _ rfl
    have c9 := hcd2 9 _ rfl
    replace hkmN := Lib.hid hkmN
    replace g1 := Lib.hid g1
    replace o1 := Lib.hid o1
    replace e1 := Lib.hid e1
    replace m1 := Lib.hid m1
    replace l1 := Lib.hid l1
    replace hkm := Lib.hid hkm
    replace hq0 := Lib.hid hq0
    have k0 := cell12 g1.out (j := 0) rfl
    have hi0 : (0 : Int) ≤ (i : Int) := by omega
    have hi1 : (i : Int) < (out.length : Int) := by omega
    have hi2 : ¬ (out.length : Int) ≤ (i : Int) := by omega
    have hi3 : ¬ (i : Int) < 0 := by omega
    replace hvb := Lib.hid hvb
    replace hAe := Lib.hid hAe
    clear hcd hcd2 hcc hfe hfa hf hp hrow
    go_enter Tryz.func66, Tryz.ntmps66
    go_upto_region 1 with fail
    have hS0 : wx.drew.heap[g]? = some (.cells #[.slice A out.length c, .map (some gm)] 67 (0, 0)) ∧ wx.drew.heap[gd]? = some (.cells #[.int .i64 (doc : Int), .int .i64 (line : Int), .int .i64 (frm : Int), .int .i64 (upto : Int), .string (bs lang), .string (bs name), .string (bs file), .string (bs style), .bool ap, .bool nl, .string (bs key), .slice LA lines.length LC] 52 (0, 0)) := ⟨g1.out, hq0.out⟩
    refine wp_region_can [(true, 0), (true, 1), (true, 2), (true, 3), (true, 4), (true, 5), (false, 6), (true, 7), (true, 8), (true, 9), (true, 10), (true, 11)] (fun u : World => u.heap[g]? = some (.cells #[.slice A out.length c, .map (some gm)] 67 (0, 0)) ∧ u.heap[gd]? = some (.cells #[.int .i64 (doc : Int), .int .i64 (line : Int), .int .i64 (frm : Int), .int .i64 (upto : Int), .string (bs lang), .string (bs name), .string (bs file), .string (bs style), .bool ap, .bool nl, .string (bs key), .slice LA lines.length LC] 52 (0, 0))) hS0 (by kernel_rfl) (by kernel_rfl) (by kernel_rfl) (fun _ _ d _ _ h => by cases d <;> exact h) ?_
    repeat (first | refine wpCan_move rfl ?_ | (refine wpCan_cons rfl ?_; intro K hK; go_simp; refine hK _ _ _ ?_; clear hK K))
    refine wpCan_read (.map (some gm)) rfl rfl hS0 (fun u hu => by have z := cell12 hu.1 (j := 1) rfl; go_simp) ?_
    repeat (first | refine wpCan_move rfl ?_ | (refine wpCan_cons rfl ?_; intro K hK; go_simp; refine hK _ _ _ ?_; clear hK K))
    refine wpCan_read (.string (bs key)) rfl rfl hS0 (fun u hu => by have z := cell12 hu.2 (j := 10) rfl; go_simp) ?_
    repeat (first | refine wpCan_move rfl ?_ | (refine wpCan_cons rfl ?_; intro K hK; go_simp; refine hK _ _ _ ?_; clear hK K))
    refine wpCan_cons rfl ?_
    intro K hK
    go_simp
    refine ⟨_, hS0, fun _ h => h, hK _ _ _ ?_⟩
    clear hK K
    repeat (first | refine wpCan_move rfl ?_ | (refine wpCan_cons rfl ?_; intro K hK; go_simp; refine hK _ _ _ ?_; clear hK K))
    refine wpCan_nil ?_
    have hAe' := hAe.out
    subst hAe'
    go_upto_region 4 with fail
    have hwa := ext_alloc wx (.cells #[.string (bs flang), .string (bs fname), .string (bs ffile), .string (bs fstyle), .bool fap, .bool fnl] 50)
    have hba : Below wx.heap.size wx (wx.alloc (.cells #[.string (bs flang), .string (bs fname), .string (bs ffile), .string (bs fstyle), .bool fap, .bool fnl] 50)).drew := below_drewN hwa 1
    have ya : (wx.alloc (.cells #[.string (bs flang), .string (bs fname), .string (bs ffile), .string (bs fstyle), .bool fap, .bool fnl] 50)).drew.drew.heap[wx.heap.size]? = some (.cells #[.string (bs flang), .string (bs fname), .string (bs ffile), .string (bs fstyle), .bool fap, .bool fnl] 50 (0, 0)) := heap_alloc_new wx _
    have yd : (wx.alloc (.cells #[.string (bs flang), .string (bs fname), .string (bs ffile), .string (bs fstyle), .bool fap, .bool fnl] 50)).drew.drew.heap[gd]? = some (.cells #[.int .i64 (doc : Int), .int .i64 (line : Int), .int .i64 (frm : Int), .int .i64 (upto : Int), .string (bs lang), .string (bs name), .string (bs file), .string (bs style), .bool ap, .bool nl, .string (bs key), .slice LA lines.length LC] 52 (0, 0)) := (keep hq0.out hba).1
    have hby : Below wx.heap.size wx (wx.alloc (.cells #[.string (bs flang), .string (bs fname), .string (bs ffile), .string (bs fstyle), .bool fap, .bool fnl] 50)).drew.drew := below_drewN hba 1
    obtain ⟨ga, hga⟩ : ∃ ga, wx.heap.size = ga := ⟨_, rfl⟩
    rw [hga] at ya ⊢
    refine wp_region_can [(true, 0), (true, 1), (true, 2), (true, 3), (true, 4), (true, 5), (true, 6), (true, 7), (false, 8), (true, 9), (true, 10), (false, 11), (true, 12), (true, 13), (false, 14)] (fun u : World => u.heap[ga]? = some (.cells #[.string (bs flang), .string (bs fname), .string (bs ffile), .string (bs fstyle), .bool fap, .bool fnl] 50 (0, 0))) ya (by kernel_rfl) (by kernel_rfl) (by kernel_rfl) (fun _ _ d _ _ h => by cases d <;> exact h) ?_
    generalize (wx.alloc (.cells #[.string (bs flang), .string (bs fname), .string (bs ffile), .string (bs fstyle), .bool fap, .bool fnl] 50)).drew.drew = wy at ya yd hby ⊢
    repeat (first | refine wpCan_move rfl ?_ | (refine wpCan_cons rfl ?_; intro K hK; go_simp; refine hK _ _ _ ?_; clear hK K))
    refine wpCan_read (.string (bs fstyle)) rfl rfl ya (fun u hu => by have z := cell12 hu (j := 3) rfl; go_simp) ?_
    repeat (first | refine wpCan_move rfl ?_ | (refine wpCan_cons rfl ?_; intro K hK; go_simp; refine hK _ _ _ ?_; clear hK K))
    refine wpCan_read (.bool fnl) rfl rfl ya (fun u hu => by have z := cell12 hu (j := 5) rfl; go_simp) ?_
    repeat (first | refine wpCan_move rfl ?_ | (refine wpCan_cons rfl ?_; intro K hK; go_simp; refine hK _ _ _ ?_; clear hK K))
    refine wpCan_read (.string (bs flang)) rfl rfl ya (fun u hu => by have z := cell12 hu (j := 0) rfl; go_simp) ?_
    repeat (first | refine wpCan_move rfl ?_ | (refine wpCan_cons rfl ?_; intro K hK; go_simp; refine hK _ _ _ ?_; clear hK K))
    have hgad : ga ≠ gd := by omega
    refine wpCan_set (o := ⟨none, .store 9 (.tmp 33) (.tmp 27), _, _, _, none⟩) rfl rfl (exec_str rfl (by kernel_rfl) rfl rfl (cell12 yd (j := 7) rfl) (blk_free yd)) ((Below.heap_setCell _ _ _ _ hgad).trans ya) ?_
    have d1 : (wy.setCell ⟨gd, 7, none⟩ (.string (bs fstyle))).heap[gd]? = some (.cells #[.int .i64 (doc : Int), .int .i64 (line : Int), .int .i64 (frm : Int), .int .i64 (upto : Int), .string (bs lang), .string (bs name), .string (bs file), .string (bs fstyle), .bool ap, .bool nl, .string (bs key), .slice LA lines.length LC] 52 (0, 0)) := heap_setCell_same wy gd 7 _ _ (.string (bs fstyle)) yd
    have yd1 := (Below.heap_setCell wy ⟨gd, 7, none⟩ (.string (bs fstyle)) ga hgad).trans ya
    have bd1 : Below gd wx (wy.setCell ⟨gd, 7, none⟩ (.string (bs fstyle))) := (hby.mono (by omega : gd ≤ wx.heap.size)).setCell (p := ⟨gd, 7, none⟩) (Nat.le_refl _) _
    have sd1 : wx.grownBy (wy.setCell ⟨gd, 7, none⟩ (.string (bs fstyle))) (some gd) := (grown_ext hby _).trans (grown_set wy ⟨gd, 7, none⟩ (.string (bs fstyle)))
    generalize wy.setCell ⟨gd, 7, none⟩ (.string (bs fstyle)) = w1 at d1 yd1 bd1 sd1 ⊢
    repeat (first | refine wpCan_move rfl ?_ | (refine wpCan_cons rfl ?_; intro K hK; go_simp; refine hK _ _ _ ?_; clear hK K))
    refine wpCan_set (o := ⟨none, .store 4 (.tmp 35) (.tmp 29), _, _, _, none⟩) rfl rfl (exec_bool rfl (by kernel_rfl) rfl rfl (cell12 d1 (j := 9) rfl) (blk_free d1)) ((Below.heap_setCell _ _ _ _ hgad).trans yd1) ?_
    have d2 : (w1.setCell ⟨gd, 9, none⟩ (.bool fnl)).heap[gd]? = some (.cells #[.int .i64 (doc : Int), .int .i64 (line : Int), .int .i64 (frm : Int), .int .i64 (upto : Int), .string (bs lang), .string (bs name), .string (bs file), .string (bs fstyle), .bool ap, .bool fnl, .string (bs key), .slice LA lines.length LC] 52 (0, 0)) := heap_setCell_same w1 gd 9 _ _ (.bool fnl) d1
    have yd2 := (Below.heap_setCell w1 ⟨gd, 9, none⟩ (.bool fnl) ga hgad).trans yd1
    have bd2 : Below gd wx (w1.setCell ⟨gd, 9, none⟩ (.bool fnl)) := bd1.setCell (p := ⟨gd, 9, none⟩) (Nat.le_refl _) _
    have sd2 : wx.grownBy (w1.setCell ⟨gd, 9, none⟩ (.bool fnl)) (some gd) := sd1.trans (grown_set w1 ⟨gd, 9, none⟩ (.bool fnl))
    generalize w1.setCell ⟨gd, 9, none⟩ (.bool fnl) = w2 at d2 yd2 bd2 sd2 ⊢
    repeat (first | refine wpCan_move rfl ?_ | (refine wpCan_cons rfl ?_; intro K hK; go_simp; refine hK _ _ _ ?_; clear hK K))
    refine wpCan_set (o := ⟨none, .store 9 (.tmp 37) (.tmp 31), _, _, _, none⟩) rfl rfl (exec_str rfl (by kernel_rfl) rfl rfl (cell12 d2 (j := 4) rfl) (blk_free d2)) ((Below.heap_setCell _ _ _ _ hgad).trans yd2) ?_
    have d3 : (w2.setCell ⟨gd, 4, none⟩ (.string (bs flang))).heap[gd]? = some (.cells #[.int .i64 (doc : Int), .int .i64 (line : Int), .int .i64 (frm : Int), .int .i64 (upto : Int), .string (bs flang), .string (bs name), .string (bs file), .string (bs fstyle), .bool ap, .bool fnl, .string (bs key), .slice LA lines.length LC] 52 (0, 0)) := heap_setCell_same w2 gd 4 _ _ (.string (bs flang)) d2
    have yd3 := (Below.heap_setCell w2 ⟨gd, 4, none⟩ (.string (bs flang)) ga hgad).trans yd2
    have bd3 : Below gd wx (w2.setCell ⟨gd, 4, none⟩ (.string (bs flang))) := bd2.setCell (p := ⟨gd, 4, none⟩) (Nat.le_refl _) _
    have sd3 : wx.grownBy (w2.setCell ⟨gd, 4, none⟩ (.string (bs flang))) (some gd) := sd2.trans (grown_set w2 ⟨gd, 4, none⟩ (.string (bs flang)))
    generalize w2.setCell ⟨gd, 4, none⟩ (.string (bs flang)) = w3 at d3 yd3 bd3 sd3 ⊢
    refine wpCan_nil ?_
    have hszX : wx.heap.size ≤ w3.heap.size := sd3.size
    have hfr2 : Hid (∀ k, X k → w3.heap[k]? = w.heap[k]?) := Lib.hid (fun k hk => (sd3.block k (hXl.out k hk) (fun e => by injection e with e; have := (hX.out k hk).1; omega)).trans (hfr.out k hk))
    have hXl2 : Hid (∀ k, X k → k < w3.heap.size) := Lib.hid (fun k hk => Nat.lt_of_lt_of_le (hXl.out k hk) hszX)
    have hbw2 : Hid (Below B0 w w3) := Lib.hid (hbw.out.trans (bd3.mono (by omega)))
    have hgX := Lib.hid (grown_blk sd3 g1.out (fun e => by injection e with e; omega))
    have hdX := Lib.hid d3
    have hoX := Lib.hid (World.ownsRow.kept o1.out sd3 (.inr hvgd.out))
    have hmX := Lib.hid (World.ownsMap.kept m1.out sd3 (fun e => by injection e with e; omega))
    have heX : Hid (Els (DC w3 (fun b9 => B ≤ b9 ∧ b9 < w3.heap.size ∧ (Value.slice (some ⟨b, o, none⟩) out.length c).ownBlock ≠ some b9)) out css) := Lib.hid (e1.out.mono fun _ _ hd => hd.frame (fun b hq => sd3.block b (Nat.lt_trans hq.2.1 hzx) (fun e => by injection e with e; omega)) (fun b hq => ⟨hq.1, Nat.lt_of_lt_of_le (Nat.lt_trans hq.2.1 hzx) hszX, hq.2.2⟩))
    have hlX : Hid (RowE w3 (fun b9 => B ≤ b9 ∧ b9 < w3.heap.size ∧ (Value.slice (some ⟨b, o, none⟩) out.length c).ownBlock ≠ some b9) 1 LA lines.length (scells lines)) := Lib.hid (l1.out.frame (fun b hq => sd3.block b (Nat.lt_trans hq.2.1 hzx) (fun e => by injection e with e; omega)) (fun b hq => ⟨hq.1, Nat.lt_of_lt_of_le (Nat.lt_trans hq.2.1 hzx) hszX, hq.2.2⟩))
    clear ya yd hby d1 d2 d3 yd1 yd2 yd3 bd1 bd2 bd3 sd1 sd2 sd3 g1 o1 e1 m1 l1 hq0 k0 k1 q10 hbw hS0 hlkd hba hwa hwx hgad hga
    have hbw := hbw2
    go_upto_region 6 with fail
    have zg : w3.drew.heap[g]? = some (.cells #[.slice (some ⟨b, o, none⟩) out.length c, .map (some gm)] 67 (0, 0)) := hgX.out
    have zd : w3.drew.heap[gd]? = some (.cells #[.int .i64 (doc : Int), .int .i64 (line : Int), .int .i64 (frm : Int), .int .i64 (upto : Int), .string (bs flang), .string (bs name), .string (bs file), .string (bs fstyle), .bool ap, .bool fnl, .string (bs key), .slice LA lines.length LC] 52 (0, 0)) := hdX.out
    have zo : w3.drew.ownsRow B 52 12 (.slice (some ⟨b, o, none⟩) out.length c) out.length css.flatten := hoX.out
    have ze : Els (DC w3.drew (fun b9 => B ≤ b9 ∧ b9 < w3.drew.heap.size ∧ (Value.slice (some ⟨b, o, none⟩) out.length c).ownBlock ≠ some b9)) out css := heX.out
    have zm : w3.drew.ownsMap Tryz.prog 9 (plainElem Tryz.prog 3) gm n D := hmX.out
    have zl : RowE w3.drew (fun b9 => B ≤ b9 ∧ b9 < w3.drew.heap.size ∧ (Value.slice (some ⟨b, o, none⟩) out.length c).ownBlock ≠ some b9) 1 LA lines.length (scells lines) := hlX.out
    have zb : Below B0 w w3.drew := below_drewN hbw.out 1
    have zf : ∀ k, X k → w3.drew.heap[k]? = w.heap[k]? := hfr2.out
    have zx : ∀ k, X k → k < w3.drew.heap.size := hXl2.out
    refine wp_region_tree (.rd 0 (.rd 1 (.rd 2 (.rd 3 (.rd 5 (.fk 4 (.mk 6 (.mk 7 (.rd 8 (.rd 9 (.mk 10 .fin))))) 6 (.mk 4 (.mk 7 (.rd 8 (.rd 9 (.mk 10 .fin))))))))))) (fun u : World => u.heap[gd]? = some (.cells #[.int .i64 (doc : Int), .int .i64 (line : Int), .int .i64 (frm : Int), .int .i64 (upto : Int), .string (bs flang), .string (bs name), .string (bs file), .string (bs fstyle), .bool ap, .bool fnl, .string (bs key), .slice LA lines.length LC] 52 (0, 0))) zd (by kernel_rfl) (by kernel_rfl) (by kernel_rfl) (fun _ _ d _ _ h => by cases d <;> exact h) ?_
    generalize w3.drew = wd at zg zd zo ze zm zl zb zf zx ⊢
    replace zf := Lib.hid zf
    replace zx := Lib.hid zx
    have hsd : gd < wd.heap.size := (Array.getElem?_eq_some_iff.1 zd).1
    repeat (first | refine wpT_move rfl ?_ | (refine wpT_rd rfl ?_; intro K hK; go_simp; refine hK _ _ _ ?_; clear hK K))
    refine wpT_read (.agg #[.int .i64 (doc : Int), .int .i64 (line : Int), .int .i64 (frm : Int), .int .i64 (upto : Int), .string (bs flang), .string (bs name), .string (bs file), .string (bs fstyle), .bool ap, .bool fnl, .string (bs key), .slice LA lines.length LC]) rfl rfl zd (fun u hu => by
      have z0 := cell12 hu (j := 0) rfl
      have z1 := cell12 hu (j := 1) rfl
      have z2 := cell12 hu (j := 2) rfl
      have z3 := cell12 hu (j := 3) rfl
      have z4 := cell12 hu (j := 4) rfl
      have z5 := cell12 hu (j := 5) rfl
      have z6 := cell12 hu (j := 6) rfl
      have z7 := cell12 hu (j := 7) rfl
      have z8 := cell12 hu (j := 8) rfl
      have z9 := cell12 hu (j := 9) rfl
      have z10 := cell12 hu (j := 10) rfl
      have z11 := cell12 hu (j := 11) rfl
      go_simp) ?_
    have kX := cell12 zg (j := 0) rfl
    replace zo := Lib.hid zo
    replace ze := Lib.hid ze
    replace zm := Lib.hid zm
    replace zl := Lib.hid zl
    replace zb := Lib.hid zb
    refine wpT_fk ?wc ?wd
    case' wc =>
      refine wpT_mk rfl ?_
      intro K hK
      go_simp
      refine ⟨(fun u : World => u.heap[gd]? = some (.cells #[.int .i64 (doc : Int), .int .i64 (line : Int), .int .i64 (frm : Int), .int .i64 (upto : Int), .string (bs flang), .string (bs name), .string (bs file), .string (bs fstyle), .bool ap, .bool fnl, .string (bs key), .slice LA lines.length LC] 52 (0, 0))), zd, fun _ h => h, hK _ _ _ ?_⟩
      clear hK K
      refine wpT_mk rfl ?_
      intro K hK
      go_simp
      refine ⟨(fun u : World => u.heap[gd]? = some (.cells #[.int .i64 (doc : Int), .int .i64 (line : Int), .int .i64 (frm : Int), .int .i64 (upto : Int), .string (bs flang), .string (bs name), .string (bs file), .string (bs fstyle), .bool ap, .bool fnl, .string (bs key), .slice LA lines.length LC] 52 (0, 0))), (keep zd (ext_alloc _ _)).1, fun _ h => h, hK _ _ _ ?_⟩
      clear hK K
      refine wpT_app_big rfl rfl (.tmp 53) (.tmp 55) rfl defEI rfl zo.out rfl rfl rfl (by intro u hu; exact darr_one ⟨doc, line, frm, upto, ⟨flang, name, file, fstyle, ap, fnl⟩, key, lines⟩ LA lines.length LC u hu) (by omega) (by omega) (by omega) ?_
      intro v9 w9 hown9 hg9 hb9 hat9
      have gd9 := grown_blk hg9.out zd (fun e => hvgd.out e)
      refine ⟨(fun u : World => u.heap[gd]? = some (.cells #[.int .i64 (doc : Int), .int .i64 (line : Int), .int .i64 (frm : Int), .int .i64 (upto : Int), .string (bs flang), .string (bs name), .string (bs file), .string (bs fstyle), .bool ap, .bool fnl, .string (bs key), .slice LA lines.length LC] 52 (0, 0))), gd9, fun _ h => h, ?_⟩
      have hfin := coll_more (d := ⟨doc, line, frm, upto, ⟨flang, name, file, fstyle, ap, fnl⟩, key, lines⟩) zg ze.out zm.out (by omega) hkmN.out hgB hgmB hne hown9 hg9.out hat9.out hvB.out zl.out hlc hXv.out zx.out
      have hBf : Below B0 wd (w9.setCell ⟨g, 0, none⟩ v9) := (hb9.mono (by omega)).setCell (p := ⟨g, 0, none⟩) hg0 _
      have g9 := grown_blk hg9.out zg (fun e => by have := hvB.out g e; omega)
      have k9 := cell12 g9 (j := 0) rfl
      have f9 := blk_free g9
      obtain ⟨A9, c9, rfl, hc9⟩ := own_shape hown9
      repeat (first | refine wpT_move rfl ?_ | (refine wpT_rd rfl ?_; intro K hK; go_simp; refine hK _ _ _ ?_; clear hK K))
      refine wpT_set (o := ⟨none, .store 35 (.tmp 58) (.tmp 56), _, _, _, none⟩) rfl rfl (exec_slice rfl (by kernel_rfl) rfl rfl k9 f9) ((Below.heap_setCell _ _ _ _ (by show gd ≠ g; omega)).trans gd9) ?_
      refine wpT_fin ?_
      have hfin' := Lib.hid hfin
      have hFf : Hid (∀ k, X k → (w9.setCell ⟨g, 0, none⟩ (.slice A9 (out.length + 1) c9)).heap[k]? = w.heap[k]?) := Lib.hid (fun k hk => (Below.heap_setCell _ _ _ _ (hX.out k hk).2.1).trans ((hg9.out.block k (zx.out k hk) (fun e => hXv.out k hk e.symm)).trans (zf.out k hk)))
      have hBf' := Lib.hid (zb.out.trans hBf)
      clear k9 f9 hfin hBf g9 hown9 hg9 hb9 hat9 gd9
      generalize w9.setCell ⟨g, 0, none⟩ (.slice A9 (out.length + 1) c9) = wz at hfin' hBf' hFf ⊢
      go_wp2_with fail
      go_returns
      exact ⟨rfl, by rw [hlay.out]; exact hfin'.out, hBf'.out, hFf.out⟩
    case' wd =>
      refine wpT_mk rfl ?_
      intro K hK
      go_simp
      refine ⟨(fun u : World => u.heap[gd]? = some (.cells #[.int .i64 (doc : Int), .int .i64 (line : Int), .int .i64 (frm : Int), .int .i64 (upto : Int), .string (bs flang), .string (bs name), .string (bs file), .string (bs fstyle), .bool ap, .bool fnl, .string (bs key), .slice LA lines.length LC] 52 (0, 0))), (keep zd (ext_alloc _ _)).1, fun _ h => h, hK _ _ _ ?_⟩
      clear hK K
      have kY := cell12 (keep zg (ext_alloc wd (.cells #[.int .i64 (doc : Int), .int .i64 (line : Int), .int .i64 (frm : Int), .int .i64 (upto : Int), .string (bs flang), .string (bs name), .string (bs file), .string (bs fstyle), .bool ap, .bool fnl, .string (bs key), .slice LA lines.length LC] 52))).1 (j := 0) rfl
      refine wpT_mk rfl ?_
      intro K hK
      go_simp
      refine ⟨(fun u : World => u.heap[gd]? = some (.cells #[.int .i64 (doc : Int), .int .i64 (line : Int), .int .i64 (frm : Int), .int .i64 (upto : Int), .string (bs flang), .string (bs name), .string (bs file), .string (bs fstyle), .bool ap, .bool fnl, .string (bs key), .slice LA lines.length LC] 52 (0, 0))), (keep zd (ext_alloc _ _)).1, fun _ h => h, hK _ _ _ ?_⟩
      clear hK K
      refine wpT_app_big rfl rfl (.tmp 53) (.tmp 55) rfl defEI rfl zo.out rfl rfl rfl (by intro u hu; exact darr_one ⟨doc, line, frm, upto, ⟨flang, name, file, fstyle, ap, fnl⟩, key, lines⟩ LA lines.length LC u hu) (by omega) (by omega) (by omega) ?_
      intro v9 w9 hown9 hg9 hb9 hat9
      have gd9 := grown_blk hg9.out zd (fun e => hvgd.out e)
      refine ⟨(fun u : World => u.heap[gd]? = some (.cells #[.int .i64 (doc : Int), .int .i64 (line : Int), .int .i64 (frm : Int), .int .i64 (upto : Int), .string (bs flang), .string (bs name), .string (bs file), .string (bs fstyle), .bool ap, .bool fnl, .string (bs key), .slice LA lines.length LC] 52 (0, 0))), gd9, fun _ h => h, ?_⟩
      have hfin := coll_more (d := ⟨doc, line, frm, upto, ⟨flang, name, file, fstyle, ap, fnl⟩, key, lines⟩) zg ze.out zm.out (by omega) hkmN.out hgB hgmB hne hown9 hg9.out hat9.out hvB.out zl.out hlc hXv.out zx.out
      have hBf : Below B0 wd (w9.setCell ⟨g, 0, none⟩ v9) := (hb9.mono (by omega)).setCell (p := ⟨g, 0, none⟩) hg0 _
      have g9 := grown_blk hg9.out zg (fun e => by have := hvB.out g e; omega)
      have k9 := cell12 g9 (j := 0) rfl
      have f9 := blk_free g9
      obtain ⟨A9, c9, rfl, hc9⟩ := own_shape hown9
      repeat (first | refine wpT_move rfl ?_ | (refine wpT_rd rfl ?_; intro K hK; go_simp; refine hK _ _ _ ?_; clear hK K))
      refine wpT_set (o := ⟨none, .store 35 (.tmp 58) (.tmp 56), _, _, _, none⟩) rfl rfl (exec_slice rfl (by kernel_rfl) rfl rfl k9 f9) ((Below.heap_setCell _ _ _ _ (by show gd ≠ g; omega)).trans gd9) ?_
      refine wpT_fin ?_
      have hfin' := Lib.hid hfin
      have hFf : Hid (∀ k, X k → (w9.setCell ⟨g, 0, none⟩ (.slice A9 (out.length + 1) c9)).heap[k]? = w.heap[k]?) := Lib.hid (fun k hk => (Below.heap_setCell _ _ _ _ (hX.out k hk).2.1).trans ((hg9.out.block k (zx.out k hk) (fun e => hXv.out k hk e.symm)).trans (zf.out k hk)))
      have hBf' := Lib.hid (zb.out.trans hBf)
      clear k9 f9 hfin hBf g9 hown9 hg9 hb9 hat9 gd9
      generalize w9.setCell ⟨g, 0, none⟩ (.slice A9 (out.length + 1) c9) = wz at hfin' hBf' hFf ⊢
      go_wp2_with fail
      go_returns
      exact ⟨rfl, by rw [hlay.out]; exact hfin'.out, hBf'.out, hFf.out⟩
end Go.Proofs.YtmmgfoepfapnkaaGreatDoor
