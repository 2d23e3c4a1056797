/- Package inline: no link begins: a rune is read as it is. Package inline: a link that is its own text is read: its kids are made in a row of their own. Package inline: a [ that begins no link is read as it is, whatever tells so. Where brackets close that stand in one another: what is known of those that are open, place by place (no program). Package inline's brackets in memory: what is kept of them in a map, what is open in a row. Package inline's brackets: seek. Package inline's brackets: end. Package inline: a link is read, whatever tells where it closes and reads what is in it. Package inline: what the reader does at a place, by the byte there. Package inline: a line's end is read. Package inline: what is read at a place is the document's own piece. What is left for the whole text: one piece more keeps what is asked of what has been read (no program). One piece more: the signs of the runs, how many they are (no program). Package inline: parse, Parse: a text parted, as the document says. -/
import Derived.Test.YtkfhkfagmokjpaaGreatDoorMp26
import Derived.Test.YtkfhkfagmokjpaaGreatDoorMp24
import Derived.Test.YtkfhkfagmokjpaaGreatDoorMp17
import Derived.Test.YtkfhkfagmokjpaaGreatDoorMp15
import Derived.Test.YtkfhkfagmokjpaaGreatDoorMp25
import Derived.Test.YtkfhkfagmokjpaaGreatDoorMp20
namespace Go.Proofs.YtkfhkfagmokjpaaGreatDoor
open Go.RowKit Go.Maps
attribute [local go_sem] canOp readsAs readUpon

section
variable {w w' : World} {B bR : Nat} {s : List UInt8} {link : Bool} {st : Il.Sc} {gm nm : Nat} {D : DataW Unit} {vr vF : Value} {rs : List Il.Rw} {V : List V3} {i mk : Nat}
theorem RdOK.ext (h : RdOK w B bR s link st i mk) (hb : Below w.heap.size w w') : RdOK w' B bR s link st i mk := by
  obtain ⟨hB, gm, nm, D, vr, vF, rs, V, hR, hw, hnm⟩ := h
  exact ⟨Nat.le_trans hB hb.size, gm, nm, D, vr, vF, rs, V, hR.ext hB hb, hw, hnm⟩
theorem RdOK.size (h : RdOK w B bR s link st i mk) : B ≤ w.heap.size := h.1
theorem RdOK.cells (h : RdOK w B bR s link st i mk) : w.cell? ⟨bR, 0, none⟩ = some (.string (bs s)) ∧ w.cell? ⟨bR, 1, none⟩ = some (.bool link) ∧ w.cell? ⟨bR, 2, none⟩ = some (.string (bs s)) := by
  obtain ⟨hB, gm, nm, D, vr, vF, rs, V, hR, hw, hnm⟩ := h
  obtain ⟨f0, f1, f2, _⟩ := hR.cells
  exact ⟨f0, f1, f2⟩
/-- what 'plain' answers -/
def PlainTo (w : World) (B bR : Nat) (s : List UInt8) (link : Bool) (st : Il.Sc) (i mk : Nat) (e : Ending) (w' : World) : Prop :=
  e = .returned (.int .i64 ((Es.next s i).2.1 : Int)) ∧ RdOK w' B bR s link ⟨Il.pput st.l (Lib.encodeRune ((Es.next s i).1 : Int)), st.runs⟩ (Es.next s i).2.1 mk ∧ Below B w w'
set_option maxHeartbeats 8000000 in
set_option maxRecDepth 100000 in
theorem rd_linkT (h : RdOK w B bR s true st i mk) (ok : Il.ScOK st i) (hi : i < s.length) (hs : s.length ≤ 4000000) :
    Calls Tryz.prog 38 #[.pointer (some ⟨bR, 0, none⟩), .int .i64 (i : Int)] w fun e w' => PlainTo w B bR s true st i mk e w' := by
  have hpl := Lib.hid (fun (w1 : World) (hr : RdOK w1 B bR s true st i mk) => (show Calls _ _ _ _ (fun e w' => PlainTo w1 B bR s true st i mk e w') from rd_plain hr ok hi hs))
  unfold PlainTo at hpl ⊢
  obtain ⟨f0, f1, f2⟩ := h.cells
  replace h := Lib.hid h
  obtain ⟨en, hen⟩ : ∃ en, en = Es.next s i := ⟨_, rfl⟩
  rw [← hen] at hpl ⊢
  clear hen
  go_enter Tryz.func38, Tryz.ntmps38
  go_wp2_with fail
  refine (hpl.out _ h.out).mono ?_
  rintro e w2 ⟨rfl, hr2, hb2⟩
  replace hr2 := Lib.hid hr2
  replace hb2 := Lib.hid hb2
  clear hpl
  go_wp2
  go_ret
  exact ⟨rfl, hr2.out, hb2.out⟩
set_option maxHeartbeats 8000000 in
set_option maxRecDepth 100000 in
theorem rd_autoN (h : RdOK w B bR s link st i mk) (ok : Il.ScOK st i) (hi : i < s.length) (hs : s.length ≤ 4000000) (hc : link = true ∨ Lk.auto s (i : Int) = none) :
    Calls Tryz.prog 37 #[.pointer (some ⟨bR, 0, none⟩), .int .i64 (i : Int)] w fun e w' => PlainTo w B bR s link st i mk e w' := by
  have hpl := Lib.hid (fun (w1 : World) (hr : RdOK w1 B bR s link st i mk) => (show Calls _ _ _ _ (fun e w' => PlainTo w1 B bR s link st i mk e w') from rd_plain hr ok hi hs))
  unfold PlainTo at hpl ⊢
  obtain ⟨f0, f1, f2⟩ := h.cells
  have hB := h.size
  have hau := Lib.hid (pauto_any s (i : Int) (by omega) w)
  have hcl := Lib.hid (fun (w1 : World) (hb : Below w.heap.size w w1) => (h.ext hb).cells)
  have hext := Lib.hid (fun (w1 : World) (hb : Below w.heap.size w w1) => h.ext hb)
  clear h
  obtain ⟨en, hen⟩ : ∃ en, en = Es.next s i := ⟨_, rfl⟩
  rw [← hen] at hpl ⊢
  clear hen
  obtain ⟨X, hX⟩ : ∃ X, X = Lk.auto s (i : Int) := ⟨_, rfl⟩
  rw [← hX] at hau hc
  clear hX
  rcases X with _ | ⟨t, n⟩
  · unfold spanV at hau
    clear hc
    go_enter Tryz.func37, Tryz.ntmps37
    go_wp2_with fail
    refine hau.out.mono ?_
    rintro e w1 ⟨rfl, hb1⟩
    obtain ⟨c0, c1, c2⟩ := hcl.out _ hb1
    have hr := Lib.hid (hext.out _ hb1)
    replace hb1 := Lib.hid hb1
    clear f0 f1 f2 hau hcl hext
    go_wp2_with fail
    refine (hpl.out _ hr.out).mono ?_
    rintro e w2 ⟨rfl, hr2, hb2⟩
    replace hr2 := Lib.hid hr2
    have hb := Lib.hid ((hb1.out.mono hB).trans hb2)
    clear hpl hb2 c0 c1 c2
    go_wp2
    go_ret
    exact ⟨rfl, hr2.out, hb.out⟩
  · obtain rfl : link = true := by rcases hc with h | h; exact h; cases h
    unfold spanV at hau
    clear hc
    go_enter Tryz.func37, Tryz.ntmps37
    go_wp2_with fail
    refine hau.out.mono ?_
    rintro e w1 ⟨rfl, hb1⟩
    obtain ⟨c0, c1, c2⟩ := hcl.out _ hb1
    have hr := Lib.hid (hext.out _ hb1)
    replace hb1 := Lib.hid hb1
    clear f0 f1 f2 hau hcl hext
    go_wp2_with fail
    refine (hpl.out _ hr.out).mono ?_
    rintro e w2 ⟨rfl, hr2, hb2⟩
    replace hr2 := Lib.hid hr2
    have hb := Lib.hid ((hb1.out.mono hB).trans hb2)
    clear hpl hb2 c0 c1 c2
    go_wp2
    go_ret
    exact ⟨rfl, hr2.out, hb.out⟩
end
end Go.Proofs.YtkfhkfagmokjpaaGreatDoor

namespace Go.Proofs.YtkfhkfagmokjpaaGreatDoor
open Go.RowKit Go.Maps
attribute [local go_sem] canOp readsAs readUpon

theorem enc_runes_len (t : List UInt8) : (Ru.enc (Ru.runes t)).length ≤ 4 * t.length := by
  have h1 := (Ru.enc_len (Ru.runes t)).2
  have h2 := Ru.runes_len t
  omega
section
variable {m : Ky → Option Pa} {k : Ks} {C : Value → Value → Pa} {R : Il.Rw} {vi vp : Value} {css : List (List Value)} {w w' : World} {B : Nat}
/-- a new row of no inlines, in a block of its own -/
theorem rowm_start (hk : k.ok) (h : Hq w B m) (hB : B ≤ w.heap.size) (hg : m k.g = none) (hi : m k.i = none) (hp : m k.p = none) (T : TypeId) :
    Turn B m w (rowm m k (fun a b => .blk w.heap.size #[a, b] T) Il.Rw.nil (.slice none 0 0) (.slice none 0 0) []) (w.alloc (.cells #[.slice none 0 0, .slice none 0 0] T)) := by
  have t1 := h.tmore (k := k.g) (w' := w.alloc (.cells #[.slice none 0 0, .slice none 0 0] T)) (.blk w.heap.size #[.slice none 0 0, .slice none 0 0] T) hg (ext_alloc w _) ⟨hB, heap_alloc_new _ _⟩ (fun g e => by cases e; exact Nat.le_refl _) hB
  have hB1 := Nat.le_trans hB t1.bel.size
  have t2 := t1.hp.tmore (k := k.i) (w' := w.alloc (.cells #[.slice none 0 0, .slice none 0 0] T)) (rinl Il.Rw.nil (.slice none 0 0) []) (by rw [uq_other _ _ hk.gi]; exact hi) (Below.refl _ _) (World.ownsRow_nil _ _ _ _) (fun g e => by cases e) hB1
  have t3 := t2.hp.tmore (k := k.p) (w' := w.alloc (.cells #[.slice none 0 0, .slice none 0 0] T)) (rpln Il.Rw.nil (.slice none 0 0)) (by rw [uq_other _ _ hk.ip, uq_other _ _ hk.gp]; exact hp) (Below.refl _ _) (World.ownsRow_nil _ _ _ _) (fun g e => by cases e) hB1
  exact t1.trans (t2.trans t3)
/-- such a row is let go: its inlines are somebody's else -/
theorem rowm_drop (hk : k.ok) (h : Hq w B (rowm m k C R vi vp css)) (hg : m k.g = none) (hi : m k.i = none) (hp : m k.p = none) :
    Turn B (rowm m k C R vi vp css) w m w ∧ ∀ (A : Option Addr) (c : Nat), vi = .slice A R.l.length c → RowI w (Fr w B m) 4 A R.l.length css.flatten := by
  have hsub : ∀ q a, m q = some a → rowm m k C R vi vp css q = some a := fun q a hq => by
    rw [rowm_other (fun e => by rw [e, hg] at hq; cases hq) (fun e => by rw [e, hi] at hq; cases hq) (fun e => by rw [e, hp] at hq; cases hq)]; exact hq
  refine ⟨h.tsub id (fun q a hq => .inl (hsub q a hq)) (fun _ _ _ _ _ _ _ e => e), fun A c hv => ?_⟩
  have ho : w.ownsRow B 41 4 vi R.l.length css.flatten := h.holds _ _ (rowm_i hk)
  refine ⟨ho.1, fun hn => ?_⟩
  obtain ⟨g, c', hv', _, hBg, hgz⟩ := hq_some ho hn
  obtain rfl : A = some ⟨g, 0, none⟩ := by rw [hv] at hv'; injection hv'
  refine ⟨g, 0, rfl, ⟨hBg, hgz, fun q a hq e => ?_⟩, fun j u hj => by rw [Nat.zero_add]; rw [hv'] at ho; exact il_own_cell ho hj⟩
  have := h.apart k.i q _ a g (rowm_i hk) (hsub q a hq) (by rw [hv']; rfl) e
  rw [← this, hi] at hq
  cases hq
end
section
variable {w w' : World} {B bR : Nat} {s : List UInt8} {link : Bool} {st : Il.Sc} {gm nm : Nat} {D : DataW Unit} {vr vF : Value} {rs : List Il.Rw} {V : List V3} {i mk : Nat}
theorem rdM_none (q : Ky) (h : 6 ≤ q.1) : rowsF (rdM bR gm nm s link D vr vF st.runs) 3 4 5 vF rs V q = none := by
  obtain ⟨a, b⟩ := q
  simp only at h
  unfold rowsF rdM
  rw [if_neg (by simp; omega), if_neg (by simp; omega), if_neg (by simp; omega), if_neg (by simp; omega), if_neg (by simp; omega), if_neg (by simp; omega)]
def kKs : Ks := ⟨(9, 0), (10, 0), (11, 0)⟩
theorem kKs_ok : kKs.ok := ⟨by decide, by decide, by decide⟩
theorem RD.alongs (h : RD w B bR s link st gm nm D vr vF rs V) (t : Turn B (rowsF (rdM bR gm nm s link D vr vF st.runs) 3 4 5 vF rs V) w (rowsF (rdM bR gm nm s link D vr vF st.runs) 3 4 5 vF rs V) w') : RD w' B bR s link st gm nm D vr vF rs V := ⟨h.rw.along t, h.rel, h.ends⟩
set_option maxHeartbeats 8000000 in
set_option maxRecDepth 100000 in
theorem rd_autoY (h : RdOK w B bR s false st i mk) (ok : Il.ScOK st i) (hi : i < s.length) (hs : s.length ≤ 4000000) {t : List UInt8} {n : Nat} (hc : Lk.auto s (i : Int) = some (t, n)) (hn : i < n) (ht0 : Ru.enc (Ru.runes t) ≠ []) (ht1 : t.length ≤ 4000000) :
    Calls Tryz.prog 37 #[.pointer (some ⟨bR, 0, none⟩), .int .i64 (i : Int)] w fun e w' => e = .returned (.int .i64 (n : Int)) ∧
      RdOK w' B bR s false ⟨st.l ++ [⟨.mk 4 [] t [Il.word (Ru.enc (Ru.runes t))], none, 0, 0⟩], st.runs⟩ n mk ∧ Below B w w' := by
  obtain ⟨hB, gm, nm, D, vr, vF, rs, V, hR, hw, hnm⟩ := h
  have hl1 := RdOK.runs_le ok (by omega) hs hR
  have hau := Lib.hid (pauto_any s (i : Int) (by omega) w)
  rw [hc] at hau
  unfold spanV at hau
  obtain ⟨f0, f1, f2, f3, f4, f5, f6⟩ := hR.cells
  obtain ⟨g, c, hv, hlast⟩ := hR.lastp (by omega)
  replace hlast := Lib.hid hlast
  replace hv := Lib.hid hv
  have hbs : bs [] = ⟨#[]⟩ := rfl
  have hwl := Lib.hid (wts_put rs (.mk 4 [] t [Il.word (Ru.enc (Ru.runes t))]))
  have hcl := Lib.hid (fun (w1 : World) (hb : Below w.heap.size w w1) => (hR.ext hB hb).cells)
  have hst := Lib.hid (fun (w1 : World) (hb : Below w.heap.size w w1) => rowm_start kKs_ok (hR.ext hB hb).rw.hp (Nat.le_trans hB hb.size) (rdM_none _ (by decide)) (rdM_none _ (by decide)) (rdM_none _ (by decide)) 54)
  have hal := Lib.hid (fun (w1 : World) (hb : Below w.heap.size w w1) => hR.ext hB hb)
  replace hR := Lib.hid hR
  go_enter Tryz.func37, Tryz.ntmps37
  go_wp2_with fail
  refine hau.out.mono ?_
  rintro e w1 ⟨rfl, hb1⟩
  obtain ⟨c0, c1, c2, c3, c4, c5, c6⟩ := hcl.out w1 hb1
  have t1 := hst.out w1 hb1
  have hR1 := Lib.hid (hal.out w1 hb1)
  have hB1 := Nat.le_trans hB hb1.size
  replace hb1 := Lib.hid hb1
  clear f0 f1 f2 f3 f4 f5 f6 hau hcl hst hal
  have hB2 := Nat.le_trans hB1 t1.bel.size
  have hsay := Lib.hid (psay_any kKs_ok (cn_blk _ _) t1.hp hB2 t (by show 0 + _ ≤ _; omega))
  replace t1 := Lib.hid t1
  go_wp2_with fail
  refine hsay.out.mono ?_
  rintro e w2 ⟨rfl, vp2, t2⟩
  have t12 := Lib.hid (t1.out.trans t2)
  have hB3 := Nat.le_trans hB2 t2.bel.size
  have hall := Lib.hid (pall_any kKs_ok (cn_blk _ _) t2.hp (show ICs _ _ [] [] from ICs_nil) hB3 (by show (([] : List UInt8) ++ Ru.enc (Ru.runes t)).length ≤ _; have := (enc_runes_len t); simp only [List.nil_append]; omega) (by show 0 ≤ _; omega))
  obtain ⟨d0, d1, d2, d3, d4, d5, d6⟩ := (hR1.out.alongs (t12.out.trans (rowm_drop kKs_ok t2.hp (rdM_none _ (by decide)) (rdM_none _ (by decide)) (rdM_none _ (by decide))).1)).cells
  clear t2 c0 c1 c2 c3 c4 c5 c6 hsay t1
  have hfull : (Il.Rw.nil.say (Ru.enc (Ru.runes t))).full = [Il.word (Ru.enc (Ru.runes t))] := by
    unfold Il.Rw.full Il.Rw.say
    rw [if_neg (by simpa [Il.Rw.nil] using ht0)]
    rfl
  rw [hfull] at hall
  go_wp2_with fail
  refine (hlast.out _).mono ?_
  rintro e w2' ⟨rfl, rfl⟩
  go_wp2_with fail
  refine hall.out.mono ?_
  rintro e w3 ⟨vi3, rfl, vp3, css3, t3, hI3⟩
  have ho3 := t3.hp.holds _ _ (rowm_i kKs_ok)
  obtain ⟨A3, c3, rfl, hc3⟩ := own_shape (show w3.ownsRow B 41 4 vi3 [Il.word (Ru.enc (Ru.runes t))].length css3.flatten from ho3)
  obtain ⟨t4, hrow4⟩ := rowm_drop kKs_ok t3.hp (rdM_none _ (by decide)) (rdM_none _ (by decide)) (rdM_none _ (by decide))
  have tot := t12.out.trans (t3.trans t4)
  have hR3 := hR1.out.alongs tot
  have hB4 := Nat.le_trans hB1 tot.bel.size
  have hput := Lib.hid (rd_put hR3 hB4 4 (by decide) [] t [Il.word (Ru.enc (Ru.runes t))] A3 c3 (by omega) hv.out (by
    unfold IC
    exact ⟨A3, c3, css3, rfl, hc3, hrow4 A3 c3 rfl, t4.kids hI3⟩))
  have hbel := Lib.hid ((hb1.out.mono hB).trans tot.bel)
  clear hI3 ho3 hrow4 t4 t3 tot hR3 t12 hall d0 d1 d2 d3 d4 d5 d6
  go_wp2_with fail
  refine hput.out.mono ?_
  rintro e w4 ⟨rfl, V', hR4, hb4⟩
  have hb := Lib.hid (hbel.out.trans hb4)
  replace hR4 := Lib.hid hR4
  clear hb4 hput
  go_wp2
  go_ret
  exact ⟨rfl, ⟨Nat.le_trans hB hb.out.size, gm, nm, D, vr, _, _, V', hR4.out, by have h9 := hwl.out; simp only [Il.tlen, List.length_nil] at h9; omega, by omega⟩, hb.out⟩
end
end Go.Proofs.YtkfhkfagmokjpaaGreatDoor

namespace Go.Proofs.YtkfhkfagmokjpaaGreatDoor
open Go.RowKit Go.Maps
attribute [local go_sem] canOp readsAs readUpon

section
variable {w w' : World} {B bR : Nat} {s : List UInt8} {link : Bool} {st : Il.Sc} {gm nm : Nat} {D : DataW Unit} {vr vF : Value} {rs : List Il.Rw} {V : List V3} {i mk mk' : Nat}
/-- what 'end' answers -/
def endV : Option Nat → Value
  | none => .tuple #[.int .i64 0, .bool false]
  | some j => .tuple #[.int .i64 (j : Int), .bool true]
/-- 'end' of the reader's brackets, as it is to be shown -/
def EndTo (w : World) (B bR : Nat) (s : List UInt8) (st : Il.Sc) (i mk' : Nat) (e : Ending) (w' : World) : Prop :=
  e = .returned (endV (Lk.close s (i : Int))) ∧ RdOK w' B bR s false st i mk' ∧ Below B w w'
set_option maxHeartbeats 8000000 in
set_option maxRecDepth 100000 in
theorem rd_linkN (h : RdOK w B bR s false st i mk) (ok : Il.ScOK st i) (hi : i < s.length) (hs : s.length ≤ 4000000) (hc : Lk.close s (i : Int) = none)
    (hE : Calls Tryz.prog 64 #[.pointer (some ⟨bR, 2, none⟩), .int .i64 (i : Int)] w (EndTo w B bR s st i mk')) :
    Calls Tryz.prog 38 #[.pointer (some ⟨bR, 0, none⟩), .int .i64 (i : Int)] w fun e w' => PlainTo w B bR s false st i mk' e w' := by
  have hpl := Lib.hid (fun (w1 : World) (hr : RdOK w1 B bR s false st i mk') => (show Calls _ _ _ _ (fun e w' => PlainTo w1 B bR s false st i mk' e w') from rd_plain hr ok hi hs))
  unfold PlainTo at hpl ⊢
  unfold EndTo at hE
  rw [hc] at hE
  unfold endV at hE
  replace hE := Lib.hid hE
  obtain ⟨f0, f1, f2⟩ := h.cells
  clear h
  obtain ⟨en, hen⟩ : ∃ en, en = Es.next s i := ⟨_, rfl⟩
  rw [← hen] at hpl ⊢
  clear hen
  go_enter Tryz.func38, Tryz.ntmps38
  go_wp2_with fail
  refine hE.out.mono ?_
  rintro e w1 ⟨rfl, hr1, hb1⟩
  replace hr1 := Lib.hid hr1
  replace hb1 := Lib.hid hb1
  clear hE f0 f1 f2
  go_wp2_with fail
  refine (hpl.out _ hr1.out).mono ?_
  rintro e w2 ⟨rfl, hr2, hb2⟩
  replace hr2 := Lib.hid hr2
  have hb := Lib.hid (hb1.out.trans hb2)
  clear hpl hb2
  go_wp2
  go_ret
  exact ⟨rfl, hr2.out, hb.out⟩
set_option maxHeartbeats 8000000 in
set_option maxRecDepth 100000 in
theorem rd_linkD (h : RdOK w B bR s false st i mk) (ok : Il.ScOK st i) (hi : i < s.length) (hs : s.length ≤ 4000000) {j : Nat} (hc : Lk.close s (i : Int) = some j) (hj : j < s.length) (hd : Lk.dest s ((j : Int) + 1) = none)
    (hE : Calls Tryz.prog 64 #[.pointer (some ⟨bR, 2, none⟩), .int .i64 (i : Int)] w (EndTo w B bR s st i mk')) :
    Calls Tryz.prog 38 #[.pointer (some ⟨bR, 0, none⟩), .int .i64 (i : Int)] w fun e w' => PlainTo w B bR s false st i mk' e w' := by
  have hpl := Lib.hid (fun (w1 : World) (hr : RdOK w1 B bR s false st i mk') => (show Calls _ _ _ _ (fun e w' => PlainTo w1 B bR s false st i mk' e w') from rd_plain hr ok hi hs))
  unfold PlainTo at hpl ⊢
  unfold EndTo at hE
  rw [hc] at hE
  unfold endV at hE
  replace hE := Lib.hid hE
  have hds := Lib.hid (fun w => pdest_any s ((j : Int) + 1) (by omega) w)
  rw [hd] at hds
  unfold spanV at hds
  obtain ⟨f0, f1, f2⟩ := h.cells
  clear h
  obtain ⟨en, hen⟩ : ∃ en, en = Es.next s i := ⟨_, rfl⟩
  rw [← hen] at hpl ⊢
  clear hen
  go_enter Tryz.func38, Tryz.ntmps38
  go_wp2_with fail
  refine hE.out.mono ?_
  rintro e w1 ⟨rfl, hr1, hb1⟩
  obtain ⟨c0, c1, c2⟩ := hr1.cells
  have hB1 := hr1.size
  replace hr1 := Lib.hid hr1
  replace hb1 := Lib.hid hb1
  clear hE f0 f1 f2
  go_wp2_with fail
  refine (hds.out _).mono ?_
  rintro e w2 ⟨rfl, hb2⟩
  have hr2 := Lib.hid (hr1.out.ext hb2)
  have hb12 := Lib.hid (hb1.out.trans (hb2.mono hB1))
  clear hb2 hds c0 c1 c2
  go_wp2_with fail
  refine (hpl.out _ hr2.out).mono ?_
  rintro e w3 ⟨rfl, hr3, hb3⟩
  replace hr3 := Lib.hid hr3
  have hb := Lib.hid (hb12.out.trans hb3)
  clear hpl hb3
  go_wp2
  go_ret
  exact ⟨rfl, hr3.out, hb.out⟩
end
end Go.Proofs.YtkfhkfagmokjpaaGreatDoor

namespace Go.Proofs.YtkfhkfagmokjpaaGreatDoor
open Go.Maps

theorem sk_see {l : List UInt8} {i : Nat} (hi : i < l.length) (ho : (Es.next l i).2.2 = false) {c : Nat} (h : (Es.next l i).1 = c) (hc : c < 128) (h96 : c ≠ 96) (h60 : c ≠ 60) : Lk.sign l i = c ∧ Lk.hop l i = i + 1 ∧ l[i].toNat = c ∧ (Es.next l i).2.1 = i + 1 := by
  obtain ⟨h1, h2⟩ := ((close_sees hi).2 ho).2.2 (by omega) (by omega)
  rcases next_low hi ho with ⟨h3, h4, h5⟩ | ⟨h3, h4⟩
  · exact ⟨by rw [h2, h], by rw [h1, h5], by omega, h5⟩
  · omega
theorem sk_sign {l : List UInt8} {i : Nat} (hi : i < l.length) {c : Nat} (h : Lk.sign l i = c) (h0 : c = 91 ∨ c = 93) : (Es.next l i).2.2 = false ∧ (Es.next l i).1 = c := by
  obtain ⟨s1, s2⟩ := close_sees hi
  cases ho : (Es.next l i).2.2 with
  | true => have := (s1 ho).2; omega
  | false =>
    obtain ⟨t1, t2, t3⟩ := s2 ho
    refine ⟨rfl, ?_⟩
    by_cases h96 : (Es.next l i).1 = 96
    · have := (t1 h96).2; omega
    by_cases h60 : (Es.next l i).1 = 60
    · have := (t2 h60).2; omega
    have := (t3 h96 h60).2
    omega
theorem Lk.hop_br {l : List UInt8} {i : Nat} (hi : i < l.length) (h : Lk.sign l i = 91 ∨ Lk.sign l i = 93) : Lk.hop l i = i + 1 := by
  obtain ⟨h1, h2⟩ := sk_sign hi rfl h
  exact (sk_see hi h1 h2 (by omega) (by omega) (by omega)).2.1
/-- behind where it closes, the walk goes on as if no bracket had stood there -/
theorem Lk.closes_past {l : List UInt8} : ∀ (n i c j d : Nat), l.length ≤ n + i → Lk.closes l i c = some j → Lk.closes l i (c + 1 + d) = Lk.closes l (j + 1) d
  | 0, i, c, j, d, hn, h => by rw [Lk.closes_out (by omega)] at h; cases h
  | n + 1, i, c, j, d, hn, h => by
    by_cases hi : i < l.length
    · have hm := Lk.hop_more hi
      by_cases h93 : Lk.sign l i = 93
      · cases c with
        | zero =>
          rw [Lk.closes_end hi h93] at h
          injection h with h
          subst h
          rw [show 0 + 1 + d = d + 1 by omega, Lk.closes_down hi h93, Lk.hop_br hi (.inr h93)]
        | succ c =>
          rw [Lk.closes_down hi h93] at h
          rw [show c + 1 + 1 + d = (c + 1 + d) + 1 by omega, Lk.closes_down hi h93]
          exact Lk.closes_past n _ c j d (by omega) h
      · by_cases h91 : Lk.sign l i = 91
        · rw [Lk.closes_up hi h91] at h
          rw [Lk.closes_up hi h91, show c + 1 + d + 1 = (c + 1) + 1 + d by omega]
          exact Lk.closes_past n _ (c + 1) j d (by omega) h
        · rw [Lk.closes_on hi h93 h91] at h
          rw [Lk.closes_on hi h93 h91]
          exact Lk.closes_past n _ c j d (by omega) h
    · rw [Lk.closes_out (by omega)] at h; cases h
/-- where it doesn't close, neither does what it stands in -/
theorem Lk.closes_never {l : List UInt8} : ∀ (n i c d : Nat), l.length ≤ n + i → Lk.closes l i c = none → Lk.closes l i (c + d) = none
  | 0, i, c, d, hn, _ => Lk.closes_out (by omega)
  | n + 1, i, c, d, hn, h => by
    by_cases hi : i < l.length
    · have hm := Lk.hop_more hi
      by_cases h93 : Lk.sign l i = 93
      · cases c with
        | zero => rw [Lk.closes_end hi h93] at h; cases h
        | succ c =>
          rw [Lk.closes_down hi h93] at h
          rw [show c + 1 + d = (c + d) + 1 by omega, Lk.closes_down hi h93]
          exact Lk.closes_never n _ c d (by omega) h
      · by_cases h91 : Lk.sign l i = 91
        · rw [Lk.closes_up hi h91] at h
          rw [Lk.closes_up hi h91, show c + d + 1 = (c + 1) + d by omega]
          exact Lk.closes_never n _ (c + 1) d (by omega) h
        · rw [Lk.closes_on hi h93 h91] at h
          rw [Lk.closes_on hi h93 h91]
          exact Lk.closes_never n _ c d (by omega) h
    · exact Lk.closes_out (by omega)
/-- the brackets that are open, the outer ones first: where each closes is told from here on -/
def Open (s : List UInt8) (i : Nat) (l : List Nat) : Prop := ∀ (k a : Nat), l[k]? = some a → (a < i ∧ a < s.length ∧ s.getD a 0 = 91) ∧ Lk.close s (a : Int) = Lk.closes s i (l.length - 1 - k)
theorem Open.nil (s : List UInt8) (i : Nat) : Open s i [] := fun k a h => by simp at h
theorem Open.hop {s : List UInt8} {i : Nat} {l : List Nat} (h : Open s i l) (hi : i < s.length) (h1 : Lk.sign s i ≠ 91) (h2 : Lk.sign s i ≠ 93) : Open s (Lk.hop s i) l := fun k a ha => by
  obtain ⟨h3, h4⟩ := h k a ha
  have := Lk.hop_more hi
  exact ⟨⟨by omega, h3.2⟩, by rw [h4, Lk.closes_on hi h2 h1]⟩
theorem Open.up {s : List UInt8} {i : Nat} {l : List Nat} (h : Open s i l) (hi : i < s.length) (h1 : Lk.sign s i = 91) (h2 : s.getD i 0 = 91) : Open s (i + 1) (l ++ [i]) := fun k a ha => by
  have hl : (l ++ [i]).length = l.length + 1 := by simp
  rcases Nat.lt_or_ge k l.length with hk | hk
  · rw [List.getElem?_append_left hk] at ha
    obtain ⟨h3, h4⟩ := h k a ha
    refine ⟨⟨by omega, h3.2⟩, ?_⟩
    rw [h4, Lk.closes_up hi h1, Lk.hop_br hi (.inl h1), hl, show l.length - 1 - k + 1 = l.length + 1 - 1 - k by omega]
  · rw [List.getElem?_append_right hk] at ha
    have hk2 : k - l.length = 0 := by
      rcases Nat.eq_zero_or_pos (k - l.length) with h | h
      · exact h
      · rw [List.getElem?_eq_none (by simp; omega)] at ha; cases ha
    rw [hk2] at ha
    simp only [List.getElem?_cons_zero, Option.some.injEq] at ha
    subst ha
    refine ⟨⟨by omega, hi, h2⟩, ?_⟩
    rw [Lk.close_on hi h2, hl, show l.length + 1 - 1 - k = 0 by omega]
theorem Open.down {s : List UInt8} {i : Nat} {l : List Nat} {a : Nat} (h : Open s i (l ++ [a])) (hi : i < s.length) (h1 : Lk.sign s i = 93) : Open s (i + 1) l ∧ closing s a = i ∧ a < s.length ∧ s.getD a 0 = 91 := by
  have hl : (l ++ [a]).length = l.length + 1 := by simp
  constructor
  · intro k b hb
    have hk := (List.getElem?_eq_some_iff.1 hb).1
    obtain ⟨h3, h4⟩ := h k b (by rw [List.getElem?_append_left hk]; exact hb)
    refine ⟨⟨by omega, h3.2⟩, ?_⟩
    rw [h4, hl, show l.length + 1 - 1 - k = (l.length - 1 - k) + 1 by omega, Lk.closes_down hi h1, Lk.hop_br hi (.inr h1)]
  · obtain ⟨h3, h4⟩ := h l.length a (by simp)
    rw [hl, show l.length + 1 - 1 - l.length = 0 by omega, Lk.closes_end hi h1] at h4
    unfold closing
    rw [h4]
    exact ⟨rfl, h3.2⟩
/-- what is known of a bracket is gone over -/
theorem Open.over {s : List UInt8} {i : Nat} {l : List Nat} (h : Open s i l) (hi : i < s.length) (h1 : Lk.sign s i = 91) (h2 : s.getD i 0 = 91) : Open s (closing s i + 1) l ∧ i < closing s i + 1 ∧ closing s i ≤ s.length := by
  unfold closing
  have hc := Lk.close_on hi h2
  cases hq : Lk.close s (i : Int) with
  | none =>
    rw [hq] at hc
    refine ⟨fun k a ha => ?_, by simp only [Option.getD_none]; omega, Nat.le_refl _⟩
    obtain ⟨h3, h4⟩ := h k a ha
    simp only [Option.getD_none]
    refine ⟨⟨by omega, h3.2⟩, ?_⟩
    rw [h4, Lk.closes_up hi h1, Lk.hop_br hi (.inl h1), Lk.closes_out (show s.length ≤ s.length + 1 by omega)]
    have := Lk.closes_never s.length (i + 1) 0 (l.length - 1 - k + 1) (by omega) hc.symm
    rwa [Nat.zero_add] at this
  | some j =>
    rw [hq] at hc
    have hj := Il.closeF_spec _ _ _ _ (show Lk.closeF _ s (i + 1) 0 = some j from hc.symm)
    refine ⟨fun k a ha => ?_, by simp only [Option.getD_some]; omega, by simp only [Option.getD_some]; omega⟩
    obtain ⟨h3, h4⟩ := h k a ha
    simp only [Option.getD_some]
    refine ⟨⟨by omega, h3.2⟩, ?_⟩
    rw [h4, Lk.closes_up hi h1, Lk.hop_br hi (.inl h1)]
    have := Lk.closes_past s.length (i + 1) 0 j (l.length - 1 - k) (by omega) hc.symm
    rwa [show 0 + 1 + (l.length - 1 - k) = l.length - 1 - k + 1 by omega] at this
theorem Open.out {s : List UInt8} {i : Nat} {l : List Nat} (h : Open s i l) (hi : s.length ≤ i) {k a : Nat} (ha : l[k]? = some a) : closing s a = s.length ∧ a < s.length ∧ s.getD a 0 = 91 := by
  obtain ⟨h3, h4⟩ := h k a ha
  rw [Lk.closes_out hi] at h4
  unfold closing
  rw [h4]
  exact ⟨rfl, h3.2⟩
/-- what is kept -/
theorem sk_isKey (i : Int) : Go.WideAt.IsKeyLit (.int .i64 i) := trivial
theorem EndsOK.put {s : List UInt8} {D : DataW Unit} (h : EndsOK s D) (hD : Go.Maps.IsMap D) {a c : Nat} (hc : closing s a = c) (ha : a < s.length) (h91 : s.getD a 0 = 91) : EndsOK s (D.put (.int .i64 (a : Int)) (.lit (.int .i64 (c : Int)))) := fun i hi => by
  by_cases hia : i = a
  · subst hia
    rw [Go.Maps.atKey_put_same hD (sk_isKey _), hc]
    exact ⟨⟨ha, h91⟩, rfl⟩
  · have hne : (Lit.int .i64 (i : Int)) ≠ .int .i64 (a : Int) := fun e => by injection e with _ e; omega
    rw [Go.Maps.has_put_other hne] at hi
    rw [Go.Maps.atKey_put_other hne]
    exact h i hi
end Go.Proofs.YtkfhkfagmokjpaaGreatDoor

namespace Go.Proofs.YtkfhkfagmokjpaaGreatDoor
open Go.RowKit Go.Maps
attribute [local go_sem] canOp readsAs readUpon

theorem skKeyed : Keyed Tryz.prog 3 := int_keyed Tryz.underlying3
theorem skZero (w : World) : (zeroValue 3).run Tryz.prog w = .ok (.int .i64 0) w := by kernel_rfl
theorem skWf {n : Nat} (h : n ≤ 5000000) : (Lit.int .i64 (n : Int)).wf = true := by
  show (decide (IntKind.i64.min ≤ (n : Int)) && decide ((n : Int) ≤ IntKind.i64.max)) = true
  have h1 : IntKind.i64.min = -9223372036854775808 := by decide
  have h2 : IntKind.i64.max = 9223372036854775807 := by decide
  rw [h1, h2, Bool.and_eq_true, decide_eq_true_iff, decide_eq_true_iff]
  omega
theorem skKey {n : Nat} (h : n ≤ 5000000) : keyOf Tryz.prog 3 (.int .i64 (n : Int)) = some (.int .i64 (n : Int)) := keyOf_int_mk Tryz.underlying3 (skWf h)
/-- a number stored in a map, as a maker of a tree -/
theorem wpT_mapSet {ops : Array Oper} {Q : Exit → Act → World → Prop} {S : World → Prop} {i : Nat} {r : OT} {a : Act} {w : World} {o : Oper} (ho : ops[i]? = some o) (hw : Region.wanted o (yielded ops a.tmps) = true) (mo x v : Operand)
    (hop : o.op = .mapUpdate 50 mo x v) {gm n : Nat} {D : DataW Unit} (hm : a.eval mo = .map (some gm)) (hown : ilMapAt w gm n D) (hn : n ≤ 1000000000000000) {p c : Nat} (hp : p ≤ 5000000) (hc : c ≤ 5000000)
    (hx : a.eval x = .int .i64 (p : Int)) (hv : a.eval v = .int .i64 (c : Int))
    (h : ∀ w', ilMapAt w' gm (n + 1) (D.put (.int .i64 (p : Int)) (.lit (.int .i64 (c : Int)))) → w.grownBy w' (some gm) → S w' ∧ wpT Tryz.prog ops Q r S (a.put o.dst undef) w') : wpT Tryz.prog ops Q (.mk i r) S a w := by
  obtain ⟨w', hrun, r1, r2⟩ := World.ownsMap.update hown skKeyed Tryz.underlying50 (by unfold maxLen; omega) (skKey hp) (plainElem_int Tryz.underlying3 (skWf hc))
  obtain ⟨h1, h2⟩ := h w' r1 r2
  refine wpT_store ho hw ?_ h1 h2
  unfold execOp
  rw [hop]
  simp [hm, hx, hv, hrun, Result.andThen]
/-- a row's last element is cut off -/
theorem own_short {w : World} {B g n c : Nat} {E : TypeId} {xs : List Value} {z : Value} (h : w.ownsRow B E 1 (.slice (some ⟨g, 0, none⟩) (n + 1) c) (n + 1) (xs ++ [z])) : w.ownsRow B E 1 (.slice (some ⟨g, 0, none⟩) n c) n xs := by
  have hl := h.1
  rw [List.length_append, List.length_singleton] at hl
  refine ⟨by omega, ?_⟩
  rcases h.2 with ⟨e, _⟩ | ⟨g', cap, cur, e, h1, h2, h3, h4, h5, h6⟩
  · simp at e
  · injection e with e1 e2 e3
    injection e1 with e1
    injection e1 with e1
    subst e1 e3
    refine .inr ⟨g, c, cur, rfl, h1, h2, by omega, h4, h5, ?_⟩
    have : (cur.toList.take ((n + 1) * 1)).take n = (xs ++ [z]).take n := by rw [h6]
    rw [List.take_take, show min n ((n + 1) * 1) = n * 1 by omega, List.take_left' (by omega)] at this
    exact this
theorem cut_ints (g n c hi : Nat) {v : Int} (hv : v = (hi : Int)) (h2 : hi ≤ c) (w : World) :
    (Instr.slice 26 (.slice (some ⟨g, 0, none⟩) n c) none (some (.int .i64 v)) none).run Tryz.prog w = .ok (.slice (some ⟨g, 0, none⟩) hi c) w :=
  run_short7 (by kernel_rfl) 1 (fun w => by kernel_rfl) g n c hi hv h2 w

/-- what is kept in a map, what is open in a row, beside other parts -/
def skM (m : Ky → Option Pa) (gm n : Nat) (D : DataW Unit) (v : Value) (l : List Nat) : Ky → Option Pa := uq (uq m (2, 0) (.map gm n D)) (6, 0) (.row 3 1 v l.length (lcells l))
structure Sk (w0 w : World) (B : Nat) (m : Ky → Option Pa) (gm n : Nat) (D : DataW Unit) (v : Value) (l : List Nat) : Prop where
  t : Turn B m w0 (skM m gm n D v l) w
  le : B ≤ w.heap.size
section
variable {w0 w w' : World} {B gm n : Nat} {m : Ky → Option Pa} {D : DataW Unit} {v : Value} {l : List Nat}
theorem skM_6 : skM m gm n D v l (6, 0) = some (.row 3 1 v l.length (lcells l)) := by unfold skM; rw [uq_same]
theorem skM_2 : skM m gm n D v l (2, 0) = some (.map gm n D) := by unfold skM; rw [uq_other _ _ (by decide), uq_same]
theorem skM_0 : skM m gm n D v l (0, 0) = m (0, 0) := by unfold skM; rw [uq_other _ _ (by decide), uq_other _ _ (by decide)]
theorem Sk.start (h : Hq w B m) (hB : B ≤ w.heap.size) (h2 : m (2, 0) = some (.map gm n D)) (h6 : m (6, 0) = none) : Sk w w B m gm n D (.slice none 0 0) [] := by
  refine ⟨?_, hB⟩
  unfold skM
  rw [uq_self h2]
  exact h.tmore _ h6 (Below.refl _ _) (World.ownsRow_nil _ _ _ _) (fun g hg => by cases hg) hB
theorem Sk.call (h : Sk w0 w B m gm n D v l) (hb : Below w.heap.size w w') : Sk w0 w' B m gm n D v l := ⟨h.t.trans (h.t.hp.call h.le hb), Nat.le_trans h.le hb.size⟩
theorem Sk.drew (h : Sk w0 w B m gm n D v l) : Sk w0 w.drew B m gm n D v l := ⟨h.t.trans h.t.hp.drewT, h.le⟩
theorem Sk.cells (h : Sk w0 w B m gm n D v l) {bR : Nat} {cs : Array Value} {T : TypeId} (h0 : m (0, 0) = some (.blk bR cs T)) : bR < w.heap.size ∧ ∀ j u, cs[j]? = some u → w.cell? ⟨bR, j, none⟩ = some u := by
  have h1 := h.t.hp.holds (0, 0) _ (skM_0.trans h0)
  refine ⟨(Array.getElem?_eq_some_iff.1 h1.2).1, fun j u hj => ?_⟩
  rw [blk_cell h1.2 j]
  exact hj
theorem Sk.own (h : Sk w0 w B m gm n D v l) : w.ownsRow B 3 1 v l.length (lcells l) := h.t.hp.holds (6, 0) _ skM_6
theorem Sk.map (h : Sk w0 w B m gm n D v l) : ilMapAt w gm n D := (h.t.hp.holds (2, 0) _ skM_2).2
theorem Sk.row (h : Sk w0 w B m gm n D v l) (l' : List Nat) {v' : Value} (hg : w.grownBy w' v.ownBlock) (ho : w'.ownsRow B 3 1 v' l'.length (lcells l')) (hat : At w.heap.size v v') : Sk w0 w' B m gm n D v' l' := by
  have t := h.t.hp.tput (k := (6, 0)) (.row 3 1 v' l'.length (lcells l')) skM_6 hg ho hat h.le
  unfold skM at t
  rw [uq_uq] at t
  exact ⟨h.t.trans t, Nat.le_trans h.le hg.size⟩
theorem Sk.put (h : Sk w0 w B m gm n D v l) {D' : DataW Unit} {n' : Nat} (hg : w.grownBy w' (some gm)) (ho : ilMapAt w' gm n' D') : Sk w0 w' B m gm n' D' v l := by
  have t := h.t.hp.tput (k := (2, 0)) (.map gm n' D') skM_2 hg ⟨(h.t.hp.holds (2, 0) _ skM_2).1, ho⟩ (fun g hg => .inl hg) h.le
  unfold skM at t
  rw [uq_comm _ (show ((6, 0) : Ky) ≠ (2, 0) by decide), uq_uq] at t
  exact ⟨h.t.trans t, Nat.le_trans h.le hg.size⟩
theorem Sk.cut {g c : Nat} {a : Nat} (h : Sk w0 w B m gm n D (.slice (some ⟨g, 0, none⟩) (l.length + 1) c) (l ++ [a])) : Sk w0 w B m gm n D (.slice (some ⟨g, 0, none⟩) l.length c) l := by
  refine h.row l (World.grownBy.refl w _) ?_ (fun g' hg' => .inl hg')
  have ho := h.own
  rw [lcells_snoc, List.length_append, List.length_singleton] at ho
  exact own_short ho
theorem Sk.done (h : Sk w0 w B m gm n D v l) (h6 : m (6, 0) = none) : Turn B m w0 (uq m (2, 0) (.map gm n D)) w := by
  refine h.t.trans (h.t.hp.tsub id (fun k a ha => .inl ?_) (fun _ _ _ _ _ _ _ e => e))
  by_cases hk : k = (6, 0)
  · subst hk
    rw [uq_other _ _ (by decide), h6] at ha
    cases ha
  · unfold skM
    rw [id, uq_other _ _ hk]
    exact ha
theorem Sk.isMap (h : Sk w0 w B m gm n D v l) : IsMap D := World.ownsMap.isMap h.map
end
end Go.Proofs.YtkfhkfagmokjpaaGreatDoor

namespace Go.Proofs.YtkfhkfagmokjpaaGreatDoor
open Go.RowKit Go.Maps
attribute [local go_sem] canOp readsAs readUpon

/-- what is known on the way -/
structure SkInv (s : List UInt8) (i0 i : Nat) (l : List Nat) (D : DataW Unit) (n n0 : Nat) : Prop where
  op : Open s i l
  ends : EndsOK s D
  nil : l = [] → i = i0 ∧ Maps.has D (.int .i64 (i0 : Int)) = false
  head : l ≠ [] → l[0]? = some i0
  cnt : n + l.length ≤ n0 + i
  len : l.length ≤ i
section
variable {s : List UInt8} {i0 i : Nat} {l : List Nat} {D : DataW Unit} {n n0 : Nat}
theorem SkInv.on (h : SkInv s i0 i l D n n0) (hl : l ≠ []) {j : Nat} (hj : i ≤ j) (ho : Open s j l) : SkInv s i0 j l D n n0 :=
  ⟨ho, h.ends, fun e => absurd e hl, h.head, by have := h.cnt; omega, by have := h.len; omega⟩
theorem SkInv.push (h : SkInv s i0 i l D n n0) (hi : i < s.length) (h1 : Lk.sign s i = 91) (h2 : s.getD i 0 = 91) : SkInv s i0 (i + 1) (l ++ [i]) D n n0 := by
  refine ⟨h.op.up hi h1 h2, h.ends, fun e => by simp at e, fun _ => ?_, by rw [List.length_append, List.length_singleton]; have := h.cnt; omega, by rw [List.length_append, List.length_singleton]; have := h.len; omega⟩
  cases l with
  | nil => rw [(h.nil rfl).1]; rfl
  | cons a r => exact h.head (by simp)
theorem SkInv.pop {a : Nat} (h : SkInv s i0 i (l ++ [a]) D n n0) (hD : IsMap D) (hi : i < s.length) (h1 : Lk.sign s i = 93) :
    EndsOK s (D.put (.int .i64 (a : Int)) (.lit (.int .i64 (i : Int)))) ∧ (l = [] → a = i0) ∧ (l ≠ [] → SkInv s i0 (i + 1) l (D.put (.int .i64 (a : Int)) (.lit (.int .i64 (i : Int)))) (n + 1) n0) := by
  obtain ⟨k1, k2, k3, k4⟩ := h.op.down hi h1
  have ke := h.ends.put hD k2 k3 k4
  have hh := h.head (by simp)
  refine ⟨ke, fun e => ?_, fun hl => ⟨k1, ke, fun e => absurd e hl, fun _ => ?_, ?_, ?_⟩⟩
  · subst e; simpa using hh
  · rwa [List.getElem?_append_left (List.length_pos_iff.2 hl)] at hh
  · have := h.cnt; rw [List.length_append, List.length_singleton] at this; omega
  · have := h.len; rw [List.length_append, List.length_singleton] at this; omega
end

set_option maxHeartbeats 16000000 in
set_option maxRecDepth 100000 in
theorem pseek_any {m : Ky → Option Pa} {B bR gm n0 i0 : Nat} {s : List UInt8} {D0 : DataW Unit} {cs : Array Value} {T : TypeId} {w : World} (h : Hq w B m) (hB : B ≤ w.heap.size) (h0 : m (0, 0) = some (.blk bR cs T)) (hc2 : cs[2]? = some (.string (bs s))) (hc3 : cs[3]? = some (.map (some gm)))
    (h2 : m (2, 0) = some (.map gm n0 D0)) (h6 : m (6, 0) = none) (he : EndsOK s D0) (hi0 : i0 < s.length) (h91 : s[i0] = 91) (hno : Maps.has D0 (.int .i64 (i0 : Int)) = false) (hn0 : n0 ≤ 100000000000000) (hs : s.length ≤ 4000000) :
    Calls Tryz.prog 81 #[.pointer (some ⟨bR, 2, none⟩), .int .i64 (i0 : Int)] w fun e w' => e = .returned (.tuple #[]) ∧ ∃ (n : Nat) (D : DataW Unit), Turn B m w (uq m (2, 0) (.map gm n D)) w' ∧ EndsOK s D ∧ Maps.has D (.int .i64 (i0 : Int)) = true ∧ n ≤ n0 + s.length + 1 := by
  have hst := Lib.hid (Sk.start h hB h2 h6)
  have hiv : Hid (SkInv s i0 i0 [] D0 n0 n0) := Lib.hid ⟨Open.nil _ _, he, fun _ => ⟨rfl, hno⟩, fun e => absurd rfl e, by simp, by simp⟩
  have hsz := bs_size s
  have hcl := Lib.hid (fun (wr : World) (n : Nat) (D : DataW Unit) (v : Value) (l : List Nat) (k : Sk w wr B m gm n D v l) => (show bR < wr.heap.size ∧ wr.cell? ⟨bR, 2, none⟩ = some (.string (bs s)) ∧ wr.cell? ⟨bR, 3, none⟩ = some (.map (some gm)) from ⟨(k.cells h0).1, (k.cells h0).2 2 _ hc2, (k.cells h0).2 3 _ hc3⟩))
  have hfin := Lib.hid (fun (wr : World) (n : Nat) (D : DataW Unit) (v : Value) (l : List Nat) (k : Sk w wr B m gm n D v l) => k.done h6)
  have hbh := Lib.hid (fun (i : Nat) (hi : i < s.length) (w : World) h1 h2 => pbehind_any bR 2 s i hi hs w h1 h2)
  replace h91 := Lib.hid h91
  clear h h0 hc2 hc3 h2 h6 he hno
  go_enter Tryz.func81, Tryz.ntmps81
  go_wp2_with fail
  go_loopw [1, 4] (fun u v wr => ∃ (i : Nat) (l : List Nat) (n : Nat) (D : DataW Unit), i ≤ s.length + 1 ∧ u = .int .i64 (i : Int) ∧ Hid (Sk w wr B m gm n D v l) ∧ Hid (SkInv s i0 i l D n n0)) (fun u _ _ => s.length + 1 - (intOf u).toNat)
  case atStart => exact ⟨i0, [], n0, D0, by omega, rfl, hst, hiv⟩
  case round =>
    obtain ⟨i, l, n, D, hi1, rfl, hk, hI⟩ := hrel
    obtain ⟨hlt, c2, c3⟩ := hcl.out _ _ _ _ _ hk.out
    clear hst hiv
    by_cases hil : i < s.length
    · have q2 := fun w => pnext_any s (i : Int) (by omega) w trivial
      rw [Int.toNat_natCast] at q2
      unfold nextV at q2
      have hmo := Es.next_more hil
      have hsee := close_sees hil
      have hrd := @sk_see s i hil
      have hbyte : ∀ c : UInt8, c.toNat < 128 → (Es.next s i).2.2 = false → ((Es.next s i).1 = c.toNat ↔ s[i] = c) := fun c hc ho => next_byte hil ho hc
      have hcn := Lib.hid hI.out.cnt
      have hll := hI.out.len
      have hkey := skKey (n := i) (by omega)
      have hfirst : l = [] → (Es.next s i).2.2 = false ∧ (Es.next s i).1 = 91 ∧ Maps.has D (.int .i64 (i : Int)) = false := fun e => by
        obtain ⟨e1, e2⟩ := hI.out.nil e
        subst e1
        have ho : (Es.next s i).2.2 = false := by
          cases ho : (Es.next s i).2.2 with
          | false => rfl
          | true => have := next_own hil ho; rw [h91.out] at this; exact absurd this (by decide)
        exact ⟨ho, (hbyte 91 (by decide) ho).2 h91.out, e2⟩
      have hkn91 : Maps.has D (.int .i64 (i : Int)) = true → s[i] = 91 ∧ D.atKey (.int .i64 (i : Int)) (.lit (.int .i64 0)) = .lit (.int .i64 (closing s i : Int)) := fun e => by
        have := hI.out.ends i e
        refine ⟨?_, this.2⟩
        have h3 := this.1.2
        rwa [getD_at hil] at h3
      obtain ⟨⟨r, nx, its⟩, hN⟩ : ∃ x, x = Es.next s i := ⟨_, rfl⟩
      rw [← hN] at q2 hmo hsee hrd hbyte hfirst
      simp only at q2 hmo hsee hrd hbyte hfirst
      clear hN
      obtain ⟨kn, hkn⟩ : ∃ kn, Maps.has D (.int .i64 (i : Int)) = kn := ⟨_, rfl⟩
      replace hcl := Lib.hid hcl
      replace hsee := Lib.hid hsee
      replace hrd := Lib.hid hrd
      replace hbyte := Lib.hid hbyte
      replace hfirst := Lib.hid hfirst
      replace hkn91 := Lib.hid hkn91
      replace hfin := Lib.hid hfin
      replace hbh := Lib.hid hbh
      cases its with
      | true =>
        have hl : l ≠ [] := fun e => by have := (hfirst.out e).1; cases this
        obtain ⟨j1, j2⟩ := hsee.out.1 rfl
        have hn2 : Hid (SkInv s i0 nx l D n n0) := Lib.hid (hI.out.on hl (by omega) (by
          have := hI.out.op.hop hil (by rw [j2]; decide) (by rw [j2]; decide)
          rwa [j1] at this))
        replace hl := Lib.hid hl
        clear j1 j2 hsee hrd hbyte hfirst hkn91 hI hbh hfin
        go_wp2_with fail
        refine (q2 _).mono ?_
        rintro e w2 ⟨rfl, hb2⟩
        have k2 := Lib.hid (hk.out.call hb2)
        obtain ⟨hlt2, d2, d3⟩ := hcl.out.out _ _ _ _ _ k2.out
        have hmap := Lib.hid k2.out.map
        clear hb2 q2 c2 c3 hlt
        go_wp2_with (at_lookup; refine wpList_lookup_own_ok_int _ rfl _ _ 50 rfl 3 3 .i64 skKeyed Tryz.underlying50 Tryz.underlying3 (skZero _) gm n D rfl hmap.out _ _ rfl hkey ?_; intro c hat hwc; rw [hkn]; replace hat := Lib.hid hat; clear hwc)
        go_roundw
        case rel => exact ⟨nx, l, n, D, by omega, rfl, k2, hn2⟩
        case measure => simp [intOf]; omega
      | false =>
        cases kn with
        | true =>
          have hl : l ≠ [] := fun e => by have := (hfirst.out e).2.2; rw [hkn] at this; cases this
          obtain ⟨e1, e2⟩ := hkn91.out hkn
          have er : r = 91 := (hbyte.out 91 (by decide) rfl).2 e1
          have es := hrd.out rfl er (by decide) (by decide) (by decide)
          obtain ⟨o1, o2, o3⟩ := hI.out.op.over hil es.1 (by rw [getD_at hil]; exact e1)
          obtain ⟨H, hH⟩ : ∃ H, H = closing s i := ⟨_, rfl⟩
          rw [← hH] at o1 o2 o3 e2
          have hn2 : Hid (SkInv s i0 (H + 1) l D n n0) := Lib.hid (hI.out.on hl (by omega) o1)
          have e2h := Lib.hid e2
          clear o1 e1 er es e2 hH hl hsee hrd hbyte hfirst hkn91 hI hbh hfin
          go_wp2_with fail
          refine (q2 _).mono ?_
          rintro e w2 ⟨rfl, hb2⟩
          have k2 := Lib.hid (hk.out.call hb2)
          obtain ⟨hlt2, d2, d3⟩ := hcl.out.out _ _ _ _ _ k2.out
          have hmap := Lib.hid k2.out.map
          clear hb2 q2 c2 c3 hlt
          go_wp2_with (at_lookup; refine wpList_lookup_own_ok_int _ rfl _ _ 50 rfl 3 3 .i64 skKeyed Tryz.underlying50 Tryz.underlying3 (skZero _) gm n D rfl hmap.out _ _ rfl hkey ?_; intro c hat hwc; rw [hkn]; have hcc : c = (H : Int) := (by have h9 := hat.symm.trans e2h.out; injection h9 with h9; injection h9); have hcl0 : 0 ≤ c := (by omega); have hcl1 : c ≤ 4000000 := (by omega); replace hcc := Lib.hid hcc; clear hwc hat)
          go_roundw
          case rel => exact ⟨H + 1, l, n, D, by omega, by congr 1; have := hcc.out; omega, k2, hn2⟩
          case measure => simp [intOf]; have := hcc.out; omega
        | false =>
          clear hkn91
          by_cases r91 : r = 91
          · have e1 : s[i] = 91 := (hbyte.out 91 (by decide) rfl).1 r91
            have es := hrd.out rfl r91 (by decide) (by decide) (by decide)
            have hn2 : Hid (SkInv s i0 nx (l ++ [i]) D n n0) := Lib.hid (by
              rw [es.2.2.2]; exact hI.out.push hil es.1 (by rw [getD_at hil]; exact e1))
            have t1 : (((r : Nat) : Int) == 91) = true := by simp [r91]
            clear e1 es hsee hrd hbyte hfirst hI hbh hfin r91
            go_wp2_with fail
            refine (q2 _).mono ?_
            rintro e w2 ⟨rfl, hb2⟩
            have k2 := Lib.hid (hk.out.call hb2)
            obtain ⟨hlt2, d2, d3⟩ := hcl.out.out _ _ _ _ _ k2.out
            have hmap := Lib.hid k2.out.map
            clear hb2 q2 c2 c3 hlt
            have hown := Lib.hid k2.out.own
            have hB2 := k2.out.le
            have hll2 := hll
            go_wp2_with (first | (at_lookup; refine wpList_lookup_own_ok_int _ rfl _ _ 50 rfl 3 3 .i64 skKeyed Tryz.underlying50 Tryz.underlying3 (skZero _) gm n D rfl hmap.out _ _ rfl hkey ?_; intro c hat hwc; rw [hkn]; replace hat := Lib.hid hat; clear hwc) | (at_builtin; refine wpList_app_two rfl (.tmp 48) (.tmp 50) rfl shIntEI rfl hown.out rfl rfl rfl (by intro u hu; simp at hu; subst hu; rfl) (by omega) (by omega) hB2 ?_; intro v' w4 ho hg hb hat4; have k4 := Lib.hid (k2.out.row (l ++ [i]) hg.out (by rw [lcells_snoc, List.length_append, List.length_singleton]; exact ho) hat4.out); clear ho hg hb hat4))
            go_roundw
            case rel => exact ⟨nx, l ++ [i], n, D, by omega, rfl, k4, hn2⟩
            case measure => simp [intOf]; omega
          have t1 : (((r : Nat) : Int) == 91) = false := by rw [beq_eq_false_iff_ne]; omega
          have hl : l ≠ [] := fun e => r91 (hfirst.out e).2.1
          by_cases r93 : r = 93
          · have es := hrd.out rfl r93 (by decide) (by decide) (by decide)
            have t2 : (((r : Nat) : Int) == 93) = true := by simp [r93]
            obtain ⟨L, a, rfl⟩ : ∃ L a, l = L ++ [a] := ⟨_, _, (List.dropLast_concat_getLast hl).symm⟩
            have ha : a ≤ 4000000 := by
              have := (hI.out.op L.length a (by simp)).1.2.1
              omega
            have hpop := Lib.hid (fun hD => hI.out.pop hD hil es.1)
            have hnx : nx = i + 1 := es.2.2.2
            have hnn : n ≤ 100000000000000 + i := by have := hcn.out; omega
            obtain ⟨p, hp⟩ : ∃ p, p = L.length := ⟨_, rfl⟩
            have hLp : (L ++ [a]).length = p + 1 := by rw [List.length_append, List.length_singleton, hp]
            have hp4 : p + 1 ≤ i := by have := hll; omega
            replace hnx := Lib.hid hnx
            clear es hsee hrd hbyte hfirst hI hbh hl r93
            go_wp2_with fail
            refine (q2 _).mono ?_
            rintro e w2 ⟨rfl, hb2⟩
            have k2 := Lib.hid (hk.out.call hb2)
            obtain ⟨hlt2, d2, d3⟩ := hcl.out.out _ _ _ _ _ k2.out
            have hmap := Lib.hid k2.out.map
            clear hb2 q2 c2 c3 hlt
            have hown := k2.out.own
            rw [hLp] at hown
            obtain ⟨g, cp, rfl, hcp, hBg, hgz⟩ := hq_some hown (by omega)
            have hcut := fun w => cut_ints g (p + 1) cp p (v := (p : Int)) rfl (by omega) w
            have hsub : ((p + 1 : Nat) : Int) - 1 = (p : Int) := by omega
            have hpp : (p : Int) < (p : Int) + 1 := by omega
            have dl : w2.cell? ⟨g, p, none⟩ = some (.int .i64 (a : Int)) := il_own_cell hown (by rw [lcells_snoc, List.getElem?_append_right (by rw [lcells_len]; omega), lcells_len, hp]; simp)
            replace hLp := Lib.hid hLp
            replace hp := Lib.hid hp
            replace hown := Lib.hid hown
            go_upto_region 11 with (at_lookup; refine wpList_lookup_own_ok_int _ rfl _ _ 50 rfl 3 3 .i64 skKeyed Tryz.underlying50 Tryz.underlying3 (skZero _) gm n D rfl hmap.out _ _ rfl hkey ?_; intro c hat hwc; rw [hkn]; replace hat := Lib.hid hat; clear hwc)
            refine wp_region_tree (.rd 0 (.rd 1 (.rd 2 (.rd 3 (.rd 4 (.rd 5 (.rd 6 (.rd 7 (.rd 8 (.mk 9 .fin)))))))))) (fun u : World => u.cell? ⟨bR, 3, none⟩ = some (.map (some gm)) ∧ u.cell? ⟨g, p, none⟩ = some (.int .i64 (a : Int))) ⟨d3, dl⟩ (by kernel_rfl) (by kernel_rfl) (by kernel_rfl) (fun _ _ d _ _ h => by cases d <;> exact h) ?_
            (first | refine wpT_move rfl ?_ | (refine wpT_rd rfl ?_; intro K hK; go_simp; refine hK _ _ _ ?_; clear hK K))
            (first | refine wpT_move rfl ?_ | (refine wpT_rd rfl ?_; intro K hK; go_simp; refine hK _ _ _ ?_; clear hK K))
            (first | refine wpT_move rfl ?_ | (refine wpT_rd rfl ?_; intro K hK; go_simp; refine hK _ _ _ ?_; clear hK K))
            refine wpT_read (.map (some gm)) rfl rfl ⟨d3, dl⟩ (fun u hu => by obtain ⟨u1, u2⟩ := hu; go_simp) ?_
            (first | refine wpT_move rfl ?_ | (refine wpT_rd rfl ?_; intro K hK; go_simp; refine hK _ _ _ ?_; clear hK K))
            (first | refine wpT_move rfl ?_ | (refine wpT_rd rfl ?_; intro K hK; go_simp; refine hK _ _ _ ?_; clear hK K))
            (first | refine wpT_move rfl ?_ | (refine wpT_rd rfl ?_; intro K hK; go_simp; refine hK _ _ _ ?_; clear hK K))
            refine wpT_read (.int .i64 (a : Int)) rfl rfl ⟨d3, dl⟩ (fun u hu => by obtain ⟨u1, u2⟩ := hu; go_simp) ?_
            (first | refine wpT_move rfl ?_ | (refine wpT_rd rfl ?_; intro K hK; go_simp; refine hK _ _ _ ?_; clear hK K))
            refine wpT_mapSet rfl rfl (.tmp 61) (.tmp 65) (.tmp 66) rfl rfl k2.out.drew.map (by omega) (p := a) (c := i) (by omega) (by omega) rfl rfl ?_
            intro w5 ho5 hg5
            have k5 := k2.out.drew.put hg5 ho5
            obtain ⟨hlt5, g2, g3⟩ := hcl.out.out _ _ _ _ _ k5
            have hown5 := k5.own
            rw [hLp.out] at hown5
            refine ⟨⟨g3, il_own_cell hown5 (by rw [lcells_snoc, List.getElem?_append_right (by rw [lcells_len, hp.out]; omega), lcells_len, hp.out]; simp)⟩, ?_⟩
            refine wpT_fin ?_
            obtain ⟨p1, p2, p3⟩ := hpop.out k2.out.isMap
            have k6 : Sk w w5 B m gm (n + 1) (D.put (.int .i64 (a : Int)) (.lit (.int .i64 (i : Int)))) (.slice (some ⟨g, 0, none⟩) p cp) L := by
              rw [hp.out]
              rw [hp.out] at k5
              exact k5.cut
            have hhas : Maps.has (D.put (.int .i64 (a : Int)) (.lit (.int .i64 (i : Int)))) (.int .i64 (a : Int)) = true := has_put_same k2.out.isMap (sk_isKey _) _
            replace p1 := Lib.hid p1
            replace p2 := Lib.hid p2
            replace p3 := Lib.hid p3
            replace hhas := Lib.hid hhas
            replace k6 := Lib.hid k6
            clear k5 ho5 hg5 hlt5 g2 g3 hown5 k2 d2 d3 dl hmap hown hpop hkn hkey
            rcases Nat.eq_zero_or_pos p with h0 | h0
            · have hLn : L = [] := List.length_eq_zero_iff.1 (by rw [← hp.out]; exact h0)
              have ea := p2.out hLn
              have t3 : ((p : Int) == 0) = true := by simp [h0]
              have hT := Lib.hid (hfin.out.out _ _ _ _ _ k6.out)
              replace hhas : Hid (Maps.has (D.put (.int .i64 (a : Int)) (.lit (.int .i64 (i : Int)))) (.int .i64 (i0 : Int)) = true) := Lib.hid (by rw [← ea]; rw [← ea] at *; exact hhas.out)
              have hbd : Hid (n + 1 ≤ n0 + s.length + 1) := Lib.hid (by have := hcn.out; omega)
              clear h0 hLn ea p2 p3 hcn
              go_wp2_with fail
              refine bodyPost_ret (results_none rfl ..) rfl ?_
              exact ⟨rfl, _, _, hT.out, p1.out, hhas.out, hbd.out⟩
            · have hLn : L ≠ [] := fun e => by rw [hp.out, e] at h0; simp at h0
              have t3 : ((p : Int) == 0) = false := by rw [beq_eq_false_iff_ne]; omega
              have hn2 : Hid (SkInv s i0 nx L (D.put (.int .i64 (a : Int)) (.lit (.int .i64 (i : Int)))) (n + 1) n0) := Lib.hid (by rw [hnx.out]; exact p3.out hLn)
              clear p2 p3 hLn
              go_wp2_with fail
              go_roundw
              case rel => exact ⟨nx, L, n + 1, _, by omega, rfl, k6, hn2⟩
              case measure => simp [intOf]; omega
          have t2 : (((r : Nat) : Int) == 93) = false := by rw [beq_eq_false_iff_ne]; omega
          by_cases rb : r = 96 ∨ r = 60
          · have hbb : behN s i = Lk.hop s i ∧ Lk.sign s i ≠ 91 ∧ Lk.sign s i ≠ 93 := by
              rcases rb with rb | rb
              · have e1 : s[i] = 96 := (hbyte.out 96 (by decide) rfl).1 rb
                have := behN_tick hil e1
                exact ⟨this.1, by rw [this.2]; decide, by rw [this.2]; decide⟩
              · have e1 : s[i] = 60 := (hbyte.out 60 (by decide) rfl).1 rb
                cases ha : Lk.auto s (i : Int) with
                | some x =>
                  obtain ⟨t, e⟩ := x
                  have := behN_auto hil e1 ha
                  exact ⟨this.1, by rw [this.2]; decide, by rw [this.2]; decide⟩
                | none =>
                  have := behN_less hil e1 ha
                  exact ⟨this.1, by rw [this.2]; decide, by rw [this.2]; decide⟩
            have hmh := Lk.hop_more hil
            have hbeh := hbh.out.out i hil
            rw [hbb.1] at hbeh
            have hop2 := hI.out.op.hop hil hbb.2.1 hbb.2.2
            obtain ⟨H, hH⟩ : ∃ H, H = Lk.hop s i := ⟨_, rfl⟩
            rw [← hH] at hbeh hmh hop2
            have hn2 : Hid (SkInv s i0 H l D n n0) := Lib.hid (hI.out.on hl (by omega) hop2)
            have t4 : ((((r : Nat) : Int) == 96) = true) ∨ ((((r : Nat) : Int) == 96) = false ∧ (((r : Nat) : Int) == 60) = true) := by
              rcases rb with rb | rb
              · exact .inl (by simp [rb])
              · exact .inr ⟨by simp [rb], by simp [rb]⟩
            replace hbeh := Lib.hid hbeh
            clear hbb hH hop2 hsee hrd hbyte hfirst hI hbh hfin rb r93 r91 hl
            rcases t4 with t4 | ⟨t4, t5⟩
            · go_wp2_with fail
              refine (q2 _).mono ?_
              rintro e w2 ⟨rfl, hb2⟩
              have k2 := Lib.hid (hk.out.call hb2)
              obtain ⟨hlt2, d2, d3⟩ := hcl.out.out _ _ _ _ _ k2.out
              have hmap := Lib.hid k2.out.map
              clear hb2 q2 c2 c3 hlt
              go_wp2_with (at_lookup; refine wpList_lookup_own_ok_int _ rfl _ _ 50 rfl 3 3 .i64 skKeyed Tryz.underlying50 Tryz.underlying3 (skZero _) gm n D rfl hmap.out _ _ rfl hkey ?_; intro c hat hwc; rw [hkn]; replace hat := Lib.hid hat; clear hwc)
              refine (hbeh.out _ d2 hlt2).mono ?_
              rintro e w3 ⟨rfl, hb3⟩
              have k3 := Lib.hid (k2.out.call hb3)
              clear hb3 hbeh
              go_wp2_with fail
              go_roundw
              case rel => exact ⟨H, l, n, D, by omega, rfl, k3, hn2⟩
              case measure => simp [intOf]; omega
            · go_wp2_with fail
              refine (q2 _).mono ?_
              rintro e w2 ⟨rfl, hb2⟩
              have k2 := Lib.hid (hk.out.call hb2)
              obtain ⟨hlt2, d2, d3⟩ := hcl.out.out _ _ _ _ _ k2.out
              have hmap := Lib.hid k2.out.map
              clear hb2 q2 c2 c3 hlt
              go_wp2_with (at_lookup; refine wpList_lookup_own_ok_int _ rfl _ _ 50 rfl 3 3 .i64 skKeyed Tryz.underlying50 Tryz.underlying3 (skZero _) gm n D rfl hmap.out _ _ rfl hkey ?_; intro c hat hwc; rw [hkn]; replace hat := Lib.hid hat; clear hwc)
              refine (hbeh.out _ d2 hlt2).mono ?_
              rintro e w3 ⟨rfl, hb3⟩
              have k3 := Lib.hid (k2.out.call hb3)
              clear hb3 hbeh
              go_wp2_with fail
              go_roundw
              case rel => exact ⟨H, l, n, D, by omega, rfl, k3, hn2⟩
              case measure => simp [intOf]; omega
          have hmh := (hsee.out.2 rfl).2.2 (by omega) (by omega)
          have hop2 := hI.out.op.hop hil (by rw [hmh.2]; exact r91) (by rw [hmh.2]; exact r93)
          rw [hmh.1] at hop2
          have hn2 : Hid (SkInv s i0 nx l D n n0) := Lib.hid (hI.out.on hl (by omega) hop2)
          have t4 : (((r : Nat) : Int) == 96) = false := by rw [beq_eq_false_iff_ne]; omega
          have t5 : (((r : Nat) : Int) == 60) = false := by rw [beq_eq_false_iff_ne]; omega
          clear hop2 hmh hsee hrd hbyte hfirst hI hbh hfin rb r93 r91 hl
          go_wp2_with fail
          refine (q2 _).mono ?_
          rintro e w2 ⟨rfl, hb2⟩
          have k2 := Lib.hid (hk.out.call hb2)
          obtain ⟨hlt2, d2, d3⟩ := hcl.out.out _ _ _ _ _ k2.out
          have hmap := Lib.hid k2.out.map
          clear hb2 q2 c2 c3 hlt
          go_wp2_with (at_lookup; refine wpList_lookup_own_ok_int _ rfl _ _ 50 rfl 3 3 .i64 skKeyed Tryz.underlying50 Tryz.underlying3 (skZero _) gm n D rfl hmap.out _ _ rfl hkey ?_; intro c hat hwc; rw [hkn]; replace hat := Lib.hid hat; clear hwc)
          go_roundw
          case rel => exact ⟨nx, l, n, D, by omega, rfl, k2, hn2⟩
          case measure => simp [intOf]; omega
    · have hl : l ≠ [] := fun e => by have := (hI.out.nil e).1; omega
      have hpos := List.length_pos_iff.2 hl
      have hhd := hI.out.head hl
      have hcn := hI.out.cnt
      have hll := hI.out.len
      have hown := hk.out.own
      obtain ⟨g, cp, rfl, hcp, hBg, hgz⟩ := hq_some hown hpos
      have hout := Lib.hid (fun k a ha => hI.out.op.out (by omega : s.length ≤ i) (k := k) (a := a) ha)
      have hends := Lib.hid hI.out.ends
      obtain ⟨N, hN⟩ : ∃ N, N = l.length := ⟨_, rfl⟩
      rw [← hN] at hpos hcn hcp hk hll ⊢
      replace hhd := Lib.hid hhd
      replace hfin := Lib.hid hfin
      replace hcl := Lib.hid hcl
      have hkk := hk
      replace hN := Lib.hid hN
      clear hown hI hl hbh h91
      go_wp2_with fail
      go_loopw [85] (fun u wx => ∃ (j n' : Nat) (D' : DataW Unit), j ≤ N ∧ u = .int .i64 (j : Int) ∧ Hid (Sk w wx B m gm n' D' (.slice (some ⟨g, 0, none⟩) N cp) l) ∧ Hid (EndsOK s D') ∧ Hid (0 < j → Maps.has D' (.int .i64 (i0 : Int)) = true) ∧ n' + (N - j) ≤ n0 + s.length + 1) (fun u _ => N - (intOf u).toNat)
      case atStart => exact ⟨0, n, D, by omega, rfl, hkk, hends, Lib.hid (fun h => by omega), by omega⟩
      case round =>
        obtain ⟨j, n', D', hj, rfl, hkj, hej, hhj, hnj⟩ := hrel
        clear hk hkk hends c2 c3 hlt
        by_cases hjN : j < N
        · obtain ⟨a, haj⟩ : ∃ a, l[j]? = some a := ⟨_, List.getElem?_eq_getElem (by rw [← hN.out]; exact hjN)⟩
          obtain ⟨o1, o2, o3⟩ := hout.out j a haj
          obtain ⟨hlt3, c2, c3⟩ := hcl.out.out _ _ _ _ _ hkj.out
          have hown := hkj.out.own
          rw [← hN.out] at hown
          have cj : wr.cell? ⟨g, j, none⟩ = some (.int .i64 (a : Int)) := il_own_cell hown (by rw [lcells, List.getElem?_map, haj]; rfl)
          have hput := Lib.hid (hej.out.put hkj.out.isMap o1 o2 o3)
          have hhas : Hid (Maps.has (D'.put (.int .i64 (a : Int)) (.lit (.int .i64 (s.length : Int)))) (.int .i64 (i0 : Int)) = true) := Lib.hid (by
            rcases Nat.eq_zero_or_pos j with h0 | h0
            · rw [h0] at haj
              have : a = i0 := by have h9 := haj.symm.trans hhd.out; injection h9
              rw [this]
              exact has_put_same hkj.out.isMap (sk_isKey _) _
            · by_cases ha : i0 = a
              · rw [ha]; exact has_put_same hkj.out.isMap (sk_isKey _) _
              · rw [has_put_other (fun e => ha (by injection e with _ e; omega))]
                exact hhj.out h0)
          have ha4 : a ≤ 4000000 := by omega
          replace haj := Lib.hid haj
          clear o1 o3 hown
          go_upto_region 20 with fail
          refine wp_region_tree (.rd 0 (.rd 1 (.rd 2 (.rd 3 (.rd 4 (.rd 5 (.rd 6 (.rd 7 (.rd 8 (.rd 9 (.mk 10 .fin))))))))))) (fun u : World => u.cell? ⟨bR, 3, none⟩ = some (.map (some gm)) ∧ u.cell? ⟨bR, 2, none⟩ = some (.string (bs s))) ⟨c3, c2⟩ (by kernel_rfl) (by kernel_rfl) (by kernel_rfl) (fun _ _ d _ _ h => by cases d <;> exact h) ?_
          (first | refine wpT_move rfl ?_ | (refine wpT_rd rfl ?_; intro K hK; go_simp; refine hK _ _ _ ?_; clear hK K))
          (first | refine wpT_move rfl ?_ | (refine wpT_rd rfl ?_; intro K hK; go_simp; refine hK _ _ _ ?_; clear hK K))
          (first | refine wpT_move rfl ?_ | (refine wpT_rd rfl ?_; intro K hK; go_simp; refine hK _ _ _ ?_; clear hK K))
          refine wpT_read (.map (some gm)) rfl rfl ⟨c3, c2⟩ (fun u hu => by obtain ⟨u1, u2⟩ := hu; go_simp) ?_
          (first | refine wpT_move rfl ?_ | (refine wpT_rd rfl ?_; intro K hK; go_simp; refine hK _ _ _ ?_; clear hK K))
          (first | refine wpT_move rfl ?_ | (refine wpT_rd rfl ?_; intro K hK; go_simp; refine hK _ _ _ ?_; clear hK K))
          (first | refine wpT_move rfl ?_ | (refine wpT_rd rfl ?_; intro K hK; go_simp; refine hK _ _ _ ?_; clear hK K))
          (first | refine wpT_move rfl ?_ | (refine wpT_rd rfl ?_; intro K hK; go_simp; refine hK _ _ _ ?_; clear hK K))
          refine wpT_read (.string (bs s)) rfl rfl ⟨c3, c2⟩ (fun u hu => by obtain ⟨u1, u2⟩ := hu; go_simp) ?_
          (first | refine wpT_move rfl ?_ | (refine wpT_rd rfl ?_; intro K hK; go_simp; refine hK _ _ _ ?_; clear hK K))
          refine wpT_mapSet rfl rfl (.tmp 92) (.tmp 93) (.tmp 98) rfl rfl hkj.out.drew.map (by omega) (p := a) (c := s.length) (by omega) (by omega) rfl rfl ?_
          intro w5 ho5 hg5
          have k5 := hkj.out.drew.put hg5 ho5
          obtain ⟨hlt5, g2, g3⟩ := hcl.out.out _ _ _ _ _ k5
          refine ⟨⟨g3, g2⟩, ?_⟩
          refine wpT_fin ?_
          replace k5 := Lib.hid k5
          clear ho5 hg5 hlt5 g2 g3 hkj c2 c3 cj hlt3
          go_wp2_with fail
          go_roundw
          case rel => exact ⟨j + 1, n' + 1, _, by omega, by go_num, k5, hput, Lib.hid (fun _ => hhas.out), by omega⟩
          case measure => simp [intOf]; omega
        · have hT := Lib.hid (hfin.out.out _ _ _ _ _ hkj.out)
          have hhas := Lib.hid (hhj.out (by omega))
          have hbd : Hid (n' ≤ n0 + s.length + 1) := Lib.hid (by omega)
          go_wp2_with fail
          go_end0
          exact ⟨rfl, n', D', hT.out, hej.out, hhas.out, hbd.out⟩
end Go.Proofs.YtkfhkfagmokjpaaGreatDoor

namespace Go.Proofs.YtkfhkfagmokjpaaGreatDoor
open Go.RowKit Go.Maps
attribute [local go_sem] canOp readsAs readUpon

section
variable {w w' : World} {B bR : Nat} {s : List UInt8} {link : Bool} {st : Il.Sc} {gm nm : Nat} {D : DataW Unit} {vr vF : Value} {rs : List Il.Rw} {V : List V3} {i mk : Nat}
theorem rdM_0 : rowsF (rdM bR gm nm s link D vr vF st.runs) 3 4 5 vF rs V (0, 0) = some (.blk bR (rdC s link gm vr vF) 59) := by
  unfold rowsF rdM
  rw [if_neg (by simp), if_neg (by simp), if_neg (by simp), if_pos rfl]
theorem rdM_2 : rowsF (rdM bR gm nm s link D vr vF st.runs) 3 4 5 vF rs V (2, 0) = some (.map gm nm D) := by
  unfold rowsF rdM
  rw [if_neg (by simp), if_neg (by simp), if_neg (by simp), if_neg (by simp), if_neg (by simp), if_pos rfl]
theorem rdM_6 : rowsF (rdM bR gm nm s link D vr vF st.runs) 3 4 5 vF rs V (6, 0) = none := by
  unfold rowsF rdM
  rw [if_neg (by simp), if_neg (by simp), if_neg (by simp), if_neg (by simp), if_neg (by simp), if_neg (by simp)]
theorem rdM_uq_2 (n' : Nat) (D' : DataW Unit) : uq (rowsF (rdM bR gm nm s link D vr vF st.runs) 3 4 5 vF rs V) (2, 0) (.map gm n' D') = rowsF (rdM bR gm n' s link D' vr vF st.runs) 3 4 5 vF rs V := by
  funext q
  unfold uq
  by_cases h : q = (2, 0)
  · subst h; rw [if_pos rfl, rdM_2]
  · rw [if_neg h]; unfold rowsF rdM; rw [if_neg h, if_neg h]
/-- what is kept of brackets has turned -/
theorem RD.mapTo (h : RD w B bR s link st gm nm D vr vF rs V) {n' : Nat} {D' : DataW Unit} (t : Turn B (rowsF (rdM bR gm nm s link D vr vF st.runs) 3 4 5 vF rs V) w (uq (rowsF (rdM bR gm nm s link D vr vF st.runs) 3 4 5 vF rs V) (2, 0) (.map gm n' D')) w') (he : EndsOK s D') : RD w' B bR s link st gm n' D' vr vF rs V := by
  rw [rdM_uq_2] at t
  exact ⟨h.rw.along t, h.rel, he⟩
theorem RD.map (h : RD w B bR s link st gm nm D vr vF rs V) : ilMapAt w gm nm D := (h.rw.hp.holds _ _ rdM_2).2
/-- what is kept is told -/
theorem end_tell {c : Nat} (hc : closing s i = c) (_ : i < s.length) : (c < s.length → endV (Lk.close s (i : Int)) = .tuple #[.int .i64 (c : Int), .bool true]) ∧ (¬ c < s.length → endV (Lk.close s (i : Int)) = .tuple #[.int .i64 0, .bool false]) := by
  unfold closing at hc
  cases h : Lk.close s (i : Int) with
  | none =>
    rw [h] at hc
    simp only [Option.getD_none] at hc
    exact ⟨fun e => by omega, fun _ => rfl⟩
  | some j =>
    rw [h] at hc
    simp only [Option.getD_some] at hc
    subst hc
    have : j < s.length := by
      unfold Lk.close at h
      split at h
      · exact (Il.closeF_spec _ _ _ _ h).2
      · cases h
    exact ⟨fun _ => rfl, fun e => absurd this e⟩
set_option maxHeartbeats 8000000 in
set_option maxRecDepth 100000 in
/-- the last look: what is kept of it is known -/
theorem rd_end (h : RdOK w B bR s false st i mk) (hi : i < s.length) (h91 : s[i] = 91) (hs : s.length ≤ 4000000) (hmk : mk ≤ 100000000000000) :
    Calls Tryz.prog 64 #[.pointer (some ⟨bR, 2, none⟩), .int .i64 (i : Int)] w (EndTo w B bR s st i (mk + s.length + 1)) := by
  obtain ⟨hB, gm, nm, D, vr, vF, rs, V, hR, hw, hnm⟩ := h
  have hsz := bs_size s
  have hkey := skKey (n := i) (by omega)
  have hclose : closing s i ≤ s.length := by
    unfold closing
    cases h : Lk.close s (i : Int) with
    | none => simp
    | some j =>
      simp only [Option.getD_some]
      unfold Lk.close at h
      split at h
      · exact Nat.le_of_lt (Il.closeF_spec _ _ _ _ h).2
      · cases h
  obtain ⟨C, hC⟩ : ∃ C, C = closing s i := ⟨_, rfl⟩
  rw [← hC] at hclose
  obtain ⟨t1, t2⟩ := end_tell hC.symm hi
  obtain ⟨R, hRv⟩ : ∃ R, R = endV (Lk.close s (i : Int)) := ⟨_, rfl⟩
  rw [← hRv] at t1 t2
  unfold EndTo
  rw [← hRv]
  clear hRv
  obtain ⟨f0, f1, f2, f3, f4, f5, f6⟩ := hR.cells
  have hat : ∀ (D' : DataW Unit), EndsOK s D' → Maps.has D' (.int .i64 (i : Int)) = true → ∀ c : Int, D'.atKey (.int .i64 (i : Int)) (.lit (.int .i64 0)) = .lit (.int .i64 c) → c = (C : Int) := fun D' he hh c hc => by
    have h9 := hc.symm.trans (he i hh).2
    rw [hC]
    injection h9 with h9
    injection h9
  have hfin := Lib.hid (fun (w' : World) (n' : Nat) (D' : DataW Unit) (h' : RD w' B bR s false st gm n' D' vr vF rs V) (hb : B ≤ w'.heap.size) (hn : n' ≤ mk + s.length + 1) => (show RdOK w' B bR s false st i (mk + s.length + 1) from ⟨hb, gm, n', D', vr, vF, rs, V, h', hw, hn⟩))
  obtain ⟨kn, hkn⟩ : ∃ kn, Maps.has D (.int .i64 (i : Int)) = kn := ⟨_, rfl⟩
  replace t1 := Lib.hid t1
  replace t2 := Lib.hid t2
  cases kn with
  | true =>
    have hends := hR.ends
    have hcc := Lib.hid (hat D hends hkn)
    have hmap := Lib.hid hR.map
    have hres := Lib.hid (hfin.out w nm D hR hB (by omega))
    clear hR hat hends
    by_cases hcs : C < s.length
    · obtain rfl := t1.out hcs
      clear t1 t2
      go_enter Tryz.func64, Tryz.ntmps64
      go_wp2_with (at_lookup; first | (refine wpList_lookup_own_ok_int _ rfl _ _ 50 rfl 3 3 .i64 skKeyed Tryz.underlying50 Tryz.underlying3 (skZero _) gm nm D rfl hmap.out _ _ rfl hkey ?_; intro c0 hat0 hwc0; rw [hkn]; clear hat0 hwc0) | (refine wpList_lookup_own_int _ rfl _ _ 50 rfl 3 3 .i64 skKeyed Tryz.underlying50 Tryz.underlying3 (skZero _) gm nm D rfl hmap.out _ _ rfl hkey ?_; intro c hat0 hwc; have hc := hcc.out c hat0; have hc0 : 0 ≤ c := (by omega); have hc1 : c ≤ 4000000 := (by omega); have hlt : c < (s.length : Int) := (by omega); replace hc := Lib.hid hc; clear hat0 hwc))
      go_ret2
      exact ⟨by rw [hc.out]; rfl, hres.out, Below.refl _ _⟩
    · obtain rfl := t2.out hcs
      clear t1 t2
      go_enter Tryz.func64, Tryz.ntmps64
      go_wp2_with (at_lookup; first | (refine wpList_lookup_own_ok_int _ rfl _ _ 50 rfl 3 3 .i64 skKeyed Tryz.underlying50 Tryz.underlying3 (skZero _) gm nm D rfl hmap.out _ _ rfl hkey ?_; intro c0 hat0 hwc0; rw [hkn]; clear hat0 hwc0) | (refine wpList_lookup_own_int _ rfl _ _ 50 rfl 3 3 .i64 skKeyed Tryz.underlying50 Tryz.underlying3 (skZero _) gm nm D rfl hmap.out _ _ rfl hkey ?_; intro c hat0 hwc; have hc := hcc.out c hat0; have hc0 : 0 ≤ c := (by omega); have hc1 : c ≤ 4000000 := (by omega); have hlt : ¬ (c < (s.length : Int)) := (by omega); replace hc := Lib.hid hc; clear hat0 hwc))
      go_ret2
      exact ⟨by rfl, hres.out, Below.refl _ _⟩
  | false =>
    have hsk := Lib.hid (pseek_any hR.rw.hp hB rdM_0 rfl rfl rdM_2 rdM_6 hR.ends hi h91 hkn (by omega) hs)
    have hmap := Lib.hid hR.map
    replace hR := Lib.hid hR
    replace hat := Lib.hid hat
    by_cases hcs : C < s.length
    · obtain rfl := t1.out hcs
      clear t1 t2
      go_enter Tryz.func64, Tryz.ntmps64
      go_wp2_with (at_lookup; (refine wpList_lookup_own_ok_int _ rfl _ _ 50 rfl 3 3 .i64 skKeyed Tryz.underlying50 Tryz.underlying3 (skZero _) gm nm D rfl hmap.out _ _ rfl hkey ?_; intro c0 hat0 hwc0; rw [hkn]; clear hat0 hwc0))
      refine hsk.out.mono ?_
      rintro e w1 ⟨rfl, n', D', hT, he', hh', hn'⟩
      have hR1 := hR.out.mapTo hT he'
      obtain ⟨c0, c1, c2, c3, c4, c5, c6⟩ := hR1.cells
      have hB1 := Nat.le_trans hB hT.bel.size
      have hres := Lib.hid (hfin.out w1 n' D' hR1 hB1 (by omega))
      have hbel := Lib.hid hT.bel
      have hcc := Lib.hid (hat.out D' he' hh')
      have hmap1 := Lib.hid hR1.map
      clear hT he' hh' hn' hR1 hsk hR hmap f0 f1 f2 f3 f4 f5 f6
      go_wp2_with (at_lookup; (refine wpList_lookup_own_int _ rfl _ _ 50 rfl 3 3 .i64 skKeyed Tryz.underlying50 Tryz.underlying3 (skZero _) gm n' D' rfl hmap1.out _ _ rfl hkey ?_; intro c hat0 hwc; have hc := hcc.out c hat0; have hc0 : 0 ≤ c := (by omega); have hc1 : c ≤ 4000000 := (by omega); have hlt : c < (s.length : Int) := (by omega); replace hc := Lib.hid hc; clear hat0 hwc))
      go_ret2
      exact ⟨by rw [hc.out]; rfl, hres.out, hbel.out⟩
    · obtain rfl := t2.out hcs
      clear t1 t2
      go_enter Tryz.func64, Tryz.ntmps64
      go_wp2_with (at_lookup; (refine wpList_lookup_own_ok_int _ rfl _ _ 50 rfl 3 3 .i64 skKeyed Tryz.underlying50 Tryz.underlying3 (skZero _) gm nm D rfl hmap.out _ _ rfl hkey ?_; intro c0 hat0 hwc0; rw [hkn]; clear hat0 hwc0))
      refine hsk.out.mono ?_
      rintro e w1 ⟨rfl, n', D', hT, he', hh', hn'⟩
      have hR1 := hR.out.mapTo hT he'
      obtain ⟨c0, c1, c2, c3, c4, c5, c6⟩ := hR1.cells
      have hB1 := Nat.le_trans hB hT.bel.size
      have hres := Lib.hid (hfin.out w1 n' D' hR1 hB1 (by omega))
      have hbel := Lib.hid hT.bel
      have hcc := Lib.hid (hat.out D' he' hh')
      have hmap1 := Lib.hid hR1.map
      clear hT he' hh' hn' hR1 hsk hR hmap f0 f1 f2 f3 f4 f5 f6
      go_wp2_with (at_lookup; (refine wpList_lookup_own_int _ rfl _ _ 50 rfl 3 3 .i64 skKeyed Tryz.underlying50 Tryz.underlying3 (skZero _) gm n' D' rfl hmap1.out _ _ rfl hkey ?_; intro c hat0 hwc; have hc := hcc.out c hat0; have hc0 : 0 ≤ c := (by omega); have hc1 : c ≤ 4000000 := (by omega); have hlt : ¬ (c < (s.length : Int)) := (by omega); replace hc := Lib.hid hc; clear hat0 hwc))
      go_ret2
      exact ⟨by rfl, hres.out, hbel.out⟩
end
end Go.Proofs.YtkfhkfagmokjpaaGreatDoor

namespace Go.Proofs.YtkfhkfagmokjpaaGreatDoor
open Go.RowKit Go.Maps
attribute [local go_sem] canOp readsAs readUpon

/-- what 'parse' is to be shown to do -/
def PIn (link : Bool) (f : List UInt8 → List Il.In) : Prop := ∀ (s : List UInt8) (w : World), s.length ≤ 4000000 → Tabs w → Calls Tryz.prog 17 #[.string (bs s), .bool link] w fun e w' =>
  (∃ v, e = .returned v ∧ ∃ css, w'.ownsRow w.heap.size 41 4 v (f s).length css.flatten ∧ ICs w' (fun b => w.heap.size ≤ b ∧ b < w'.heap.size) (f s) css) ∧ Below w.heap.size w w'
section
variable {w w' : World} {B bR : Nat} {s : List UInt8} {link : Bool} {st : Il.Sc} {gm nm : Nat} {D : DataW Unit} {vr vF : Value} {rs : List Il.Rw} {V : List V3} {i mk mk' : Nat}
set_option maxHeartbeats 8000000 in
set_option maxRecDepth 100000 in
theorem rd_linkY (h : RdOK w B bR s false st i mk) (ok : Il.ScOK st i) (hi : i < s.length) (hs : s.length ≤ 4000000) (hT : ∀ u, Below B w u → Tabs u) {inner : List UInt8 → List Il.In} (hP : PIn true inner) {j n : Nat} {d : List UInt8} (hc : Lk.close s (i : Int) = some j) (hij : i < j) (hj : j < s.length) (hd : Lk.dest s ((j : Int) + 1) = some (d, n)) (hn : j < n)
    (hE : Calls Tryz.prog 64 #[.pointer (some ⟨bR, 2, none⟩), .int .i64 (i : Int)] w (EndTo w B bR s st i mk')) :
    Calls Tryz.prog 38 #[.pointer (some ⟨bR, 0, none⟩), .int .i64 (i : Int)] w fun e w' => e = .returned (.int .i64 (n : Int)) ∧
      RdOK w' B bR s false ⟨st.l ++ [⟨.mk 4 [] d (inner (mid s (i + 1) j)), none, 0, 0⟩], st.runs⟩ n mk' ∧ Below B w w' := by
  unfold EndTo at hE
  rw [hc] at hE
  unfold endV at hE
  replace hE := Lib.hid hE
  have hds := Lib.hid (fun w => pdest_any s ((j : Int) + 1) (by omega) w)
  rw [hd] at hds
  unfold spanV at hds
  obtain ⟨f0, f1, f2⟩ := h.cells
  have hB := h.size
  clear h
  have hml := mid_len (l := s) (lo := i + 1) (hi := j) (by omega)
  have hmid : ∀ w : World, (Instr.slice 9 (.string (bs s)) (some (.int .i64 ((i : Int) + 1))) (some (.int .i64 (j : Int))) none).run Tryz.prog w = .ok (.string (bs (mid s (i + 1) j))) w := by
    intro w
    have := run_mid (S := s) (i := i + 1) (j := j) (by omega) (by omega) w
    rwa [show ((i + 1 : Nat) : Int) = (i : Int) + 1 by omega] at this
  obtain ⟨T, hTm⟩ : ∃ T, T = mid s (i + 1) j := ⟨_, rfl⟩
  rw [← hTm] at hmid hml ⊢
  clear hTm
  have hpar := Lib.hid (fun w h => hP T w (by omega) h)
  obtain ⟨ks, hks⟩ : ∃ ks, ks = inner T := ⟨_, rfl⟩
  rw [← hks] at hpar ⊢
  clear hks hP
  replace hT := Lib.hid hT
  go_enter Tryz.func38, Tryz.ntmps38
  go_wp2_with fail
  refine hE.out.mono ?_
  rintro e w1 ⟨rfl, hr1, hb1⟩
  obtain ⟨c0, c1, c2⟩ := hr1.cells
  have hB1 := hr1.size
  replace hr1 := Lib.hid hr1
  replace hb1 := Lib.hid hb1
  clear hE f0 f1 f2
  go_wp2_with fail
  refine (hds.out _).mono ?_
  rintro e w2 ⟨rfl, hb2⟩
  have hr2 := Lib.hid (hr1.out.ext hb2)
  obtain ⟨e0, e1, e2⟩ := hr2.out.cells
  have hb12 := Lib.hid (hb1.out.trans (hb2.mono hB1))
  clear hb2 hds c0 c1 c2 hr1
  go_wp2_with fail
  refine (hpar.out _ (hT.out _ hb12.out)).mono ?_
  rintro e w3 ⟨⟨v, rfl, css, ho3, hI3⟩, hb3⟩
  clear hpar e0 e1 e2
  obtain ⟨A, cA, rfl, hcA⟩ := own_shape ho3
  obtain ⟨hB2, gm, nm, D, vr, vF, rs, V, hR2, hw2, hnm2⟩ := hr2.out
  have hl1 := RdOK.runs_le ok (by omega) hs hR2
  have hR3 := hR2.ext hB2 hb3
  obtain ⟨f0, f1, f2, f3, f4, f5, f6⟩ := hR3.cells
  obtain ⟨g, c, hv, hlast⟩ := hR3.lastp (by omega)
  replace hlast := Lib.hid hlast
  have hB3 := Nat.le_trans hB2 hb3.size
  have hnew : ∀ b, (w2.heap.size ≤ b ∧ b < w3.heap.size) → Fr w3 B (rowsF (rdM bR gm nm s false D vr vF st.runs) 3 4 5 vF rs V) b := fun b hb => Hq.new (w' := w3) hR2.rw.hp hB2 hb.1 hb.2
  have hput := Lib.hid (rd_put hR3 hB3 4 (by decide) [] d ks A cA (by omega) hv (by
    unfold IC
    exact ⟨A, cA, css, rfl, hcA, (own_rowI ho3).frame (fun _ _ => rfl) hnew, ICs_frame (fun _ _ => rfl) hnew hI3⟩))
  have hbel := Lib.hid (hb12.out.trans (hb3.mono hB2))
  have hwl := Lib.hid (wts_put rs (.mk 4 [] d ks))
  have hbs : bs [] = ⟨#[]⟩ := rfl
  replace hv := Lib.hid hv
  clear hnew hR2 hR3 hr2 ho3 hI3 hb3 hT
  go_wp2_with fail
  refine (hlast.out _).mono ?_
  rintro e w3' ⟨rfl, rfl⟩
  go_wp2_with fail
  refine hput.out.mono ?_
  rintro e w4 ⟨rfl, V', hR4, hb4⟩
  have hb := Lib.hid (hbel.out.trans hb4)
  replace hR4 := Lib.hid hR4
  clear hb4 hput f0 f1 f2 f3 f4 f5 f6
  go_wp2
  go_ret
  exact ⟨rfl, ⟨Nat.le_trans hB hb.out.size, gm, nm, D, vr, _, _, V', hR4.out, by have h9 := hwl.out; simp only [Il.tlen, List.length_nil] at h9; omega, by omega⟩, hb.out⟩
end
end Go.Proofs.YtkfhkfagmokjpaaGreatDoor

namespace Go.Proofs.YtkfhkfagmokjpaaGreatDoor
open Go.RowKit Go.Maps
attribute [local go_sem] canOp readsAs readUpon

section
variable {w : World} {B bR : Nat} {s : List UInt8} {link : Bool} {st : Il.Sc} {i mk : Nat}
theorem rdbyte_eq {b c : UInt8} (h : b = c) {k : Int} (hk : (c.toNat : Int) = k) : ((b.toNat : Int) == k) = true := by rw [h, hk]; simp
theorem rdbyte_ne {b c : UInt8} (h : b ≠ c) {k : Int} (hk : (c.toNat : Int) = k) : ((b.toNat : Int) == k) = false := by
  rw [← hk]
  have : b.toNat ≠ c.toNat := fun e => h (UInt8.toNat_inj.1 e)
  simp only [beq_eq_false_iff_ne, ne_eq]
  omega
set_option maxHeartbeats 8000000 in
set_option maxRecDepth 100000 in
theorem read_96 (h : RdOK w B bR s link st i mk) (hi : i < s.length) (hb : s[i] = 96) {n : Nat} {G : World → Prop}
    (hc : Calls Tryz.prog 36 #[.pointer (some ⟨bR, 0, none⟩), .int .i64 (i : Int)] w fun e w' => e = .returned (.int .i64 (n : Int)) ∧ G w') :
    Calls Tryz.prog 22 #[.pointer (some ⟨bR, 0, none⟩), .int .i64 (i : Int)] w fun e w' => e = .returned (.int .i64 (n : Int)) ∧ G w' := by
  obtain ⟨f0, f1, f2⟩ := h.cells
  have hix := run_byte hi
  have t96 := rdbyte_eq hb (k := 96) rfl
  clear h
  replace hc := Lib.hid hc
  generalize s[i] = ch at *
  go_enter Tryz.func22, Tryz.ntmps22
  go_wp2_with fail
  refine hc.out.mono ?_
  rintro e w1 ⟨rfl, hG⟩
  replace hG := Lib.hid hG
  clear hc f0 f1 f2
  go_wp2
  go_ret
  exact ⟨rfl, hG.out⟩
set_option maxHeartbeats 8000000 in
set_option maxRecDepth 100000 in
theorem read_60 (h : RdOK w B bR s link st i mk) (hi : i < s.length) (hb : s[i] = 60) {n : Nat} {G : World → Prop}
    (hc : Calls Tryz.prog 37 #[.pointer (some ⟨bR, 0, none⟩), .int .i64 (i : Int)] w fun e w' => e = .returned (.int .i64 (n : Int)) ∧ G w') :
    Calls Tryz.prog 22 #[.pointer (some ⟨bR, 0, none⟩), .int .i64 (i : Int)] w fun e w' => e = .returned (.int .i64 (n : Int)) ∧ G w' := by
  obtain ⟨f0, f1, f2⟩ := h.cells
  have hix := run_byte hi
  have t96 := rdbyte_ne (b := s[i]) (c := 96) (by rw [hb]; decide) (k := 96) rfl
  have t60 := rdbyte_eq hb (k := 60) rfl
  clear h
  replace hc := Lib.hid hc
  generalize s[i] = ch at *
  go_enter Tryz.func22, Tryz.ntmps22
  go_wp2_with fail
  refine hc.out.mono ?_
  rintro e w1 ⟨rfl, hG⟩
  replace hG := Lib.hid hG
  clear hc f0 f1 f2
  go_wp2
  go_ret
  exact ⟨rfl, hG.out⟩
set_option maxHeartbeats 8000000 in
set_option maxRecDepth 100000 in
theorem read_91 (h : RdOK w B bR s link st i mk) (hi : i < s.length) (hb : s[i] = 91) {n : Nat} {G : World → Prop}
    (hc : Calls Tryz.prog 38 #[.pointer (some ⟨bR, 0, none⟩), .int .i64 (i : Int)] w fun e w' => e = .returned (.int .i64 (n : Int)) ∧ G w') :
    Calls Tryz.prog 22 #[.pointer (some ⟨bR, 0, none⟩), .int .i64 (i : Int)] w fun e w' => e = .returned (.int .i64 (n : Int)) ∧ G w' := by
  obtain ⟨f0, f1, f2⟩ := h.cells
  have hix := run_byte hi
  have t96 := rdbyte_ne (b := s[i]) (c := 96) (by rw [hb]; decide) (k := 96) rfl
  have t60 := rdbyte_ne (b := s[i]) (c := 60) (by rw [hb]; decide) (k := 60) rfl
  have t91 := rdbyte_eq hb (k := 91) rfl
  clear h
  replace hc := Lib.hid hc
  generalize s[i] = ch at *
  go_enter Tryz.func22, Tryz.ntmps22
  go_wp2_with fail
  refine hc.out.mono ?_
  rintro e w1 ⟨rfl, hG⟩
  replace hG := Lib.hid hG
  clear hc f0 f1 f2
  go_wp2
  go_ret
  exact ⟨rfl, hG.out⟩
set_option maxHeartbeats 8000000 in
set_option maxRecDepth 100000 in
theorem read_42 (h : RdOK w B bR s link st i mk) (hi : i < s.length) (hb : s[i] = 42) {n : Nat} {G : World → Prop}
    (hc : Calls Tryz.prog 39 #[.pointer (some ⟨bR, 0, none⟩), .int .i64 (i : Int)] w fun e w' => e = .returned (.int .i64 (n : Int)) ∧ G w') :
    Calls Tryz.prog 22 #[.pointer (some ⟨bR, 0, none⟩), .int .i64 (i : Int)] w fun e w' => e = .returned (.int .i64 (n : Int)) ∧ G w' := by
  obtain ⟨f0, f1, f2⟩ := h.cells
  have hix := run_byte hi
  have t96 := rdbyte_ne (b := s[i]) (c := 96) (by rw [hb]; decide) (k := 96) rfl
  have t60 := rdbyte_ne (b := s[i]) (c := 60) (by rw [hb]; decide) (k := 60) rfl
  have t91 := rdbyte_ne (b := s[i]) (c := 91) (by rw [hb]; decide) (k := 91) rfl
  have t42 := rdbyte_eq hb (k := 42) rfl
  clear h
  replace hc := Lib.hid hc
  generalize s[i] = ch at *
  go_enter Tryz.func22, Tryz.ntmps22
  go_wp2_with fail
  refine hc.out.mono ?_
  rintro e w1 ⟨rfl, hG⟩
  replace hG := Lib.hid hG
  clear hc f0 f1 f2
  go_wp2
  go_ret
  exact ⟨rfl, hG.out⟩
set_option maxHeartbeats 8000000 in
set_option maxRecDepth 100000 in
theorem read_95 (h : RdOK w B bR s link st i mk) (hi : i < s.length) (hb : s[i] = 95) {n : Nat} {G : World → Prop}
    (hc : Calls Tryz.prog 39 #[.pointer (some ⟨bR, 0, none⟩), .int .i64 (i : Int)] w fun e w' => e = .returned (.int .i64 (n : Int)) ∧ G w') :
    Calls Tryz.prog 22 #[.pointer (some ⟨bR, 0, none⟩), .int .i64 (i : Int)] w fun e w' => e = .returned (.int .i64 (n : Int)) ∧ G w' := by
  obtain ⟨f0, f1, f2⟩ := h.cells
  have hix := run_byte hi
  have t96 := rdbyte_ne (b := s[i]) (c := 96) (by rw [hb]; decide) (k := 96) rfl
  have t60 := rdbyte_ne (b := s[i]) (c := 60) (by rw [hb]; decide) (k := 60) rfl
  have t91 := rdbyte_ne (b := s[i]) (c := 91) (by rw [hb]; decide) (k := 91) rfl
  have t42 := rdbyte_ne (b := s[i]) (c := 42) (by rw [hb]; decide) (k := 42) rfl
  have t95 := rdbyte_eq hb (k := 95) rfl
  clear h
  replace hc := Lib.hid hc
  generalize s[i] = ch at *
  go_enter Tryz.func22, Tryz.ntmps22
  go_wp2_with fail
  refine hc.out.mono ?_
  rintro e w1 ⟨rfl, hG⟩
  replace hG := Lib.hid hG
  clear hc f0 f1 f2
  go_wp2
  go_ret
  exact ⟨rfl, hG.out⟩
set_option maxHeartbeats 8000000 in
set_option maxRecDepth 100000 in
theorem read_other (h : RdOK w B bR s link st i mk) (hi : i < s.length) (h96 : s[i] ≠ 96) (h60 : s[i] ≠ 60) (h91 : s[i] ≠ 91) (h42 : s[i] ≠ 42) (h95 : s[i] ≠ 95) (h10 : s[i] ≠ 10) {n : Nat} {G : World → Prop}
    (hc : Calls Tryz.prog 42 #[.pointer (some ⟨bR, 0, none⟩), .int .i64 (i : Int)] w fun e w' => e = .returned (.int .i64 (n : Int)) ∧ G w') :
    Calls Tryz.prog 22 #[.pointer (some ⟨bR, 0, none⟩), .int .i64 (i : Int)] w fun e w' => e = .returned (.int .i64 (n : Int)) ∧ G w' := by
  obtain ⟨f0, f1, f2⟩ := h.cells
  have hix := run_byte hi
  have t96 := rdbyte_ne h96 (k := 96) rfl
  have t60 := rdbyte_ne h60 (k := 60) rfl
  have t91 := rdbyte_ne h91 (k := 91) rfl
  have t42 := rdbyte_ne h42 (k := 42) rfl
  have t95 := rdbyte_ne h95 (k := 95) rfl
  have t10 := rdbyte_ne h10 (k := 10) rfl
  clear h
  replace hc := Lib.hid hc
  generalize s[i] = ch at *
  go_enter Tryz.func22, Tryz.ntmps22
  go_wp2_with fail
  refine hc.out.mono ?_
  rintro e w1 ⟨rfl, hG⟩
  replace hG := Lib.hid hG
  clear hc f0 f1 f2
  go_wp2
  go_ret
  exact ⟨rfl, hG.out⟩
end
end Go.Proofs.YtkfhkfagmokjpaaGreatDoor

namespace Go.Proofs.YtkfhkfagmokjpaaGreatDoor
open Go.RowKit Go.Maps
attribute [local go_sem] canOp readsAs readUpon

section
variable {w : World} {B bR : Nat} {s : List UInt8} {link : Bool} {st : Il.Sc} {i mk : Nat}
set_option maxHeartbeats 8000000 in
set_option maxRecDepth 100000 in
theorem read_10 (h : RdOK w B bR s link st i mk) (ok : Il.ScOK st i) (hi : i < s.length) (hs : s.length ≤ 4000000) (hb : s[i] = 10) :
    Calls Tryz.prog 22 #[.pointer (some ⟨bR, 0, none⟩), .int .i64 (i : Int)] w fun e w' => e = .returned (.int .i64 ((i + 1 : Nat) : Int)) ∧
      RdOK w' B bR s link ⟨st.l ++ [⟨.mk 5 [] [] [], none, 0, 0⟩], st.runs⟩ (i + 1) mk ∧ Below B w w' := by
  have hix := run_byte hi
  have t96 := rdbyte_ne (b := s[i]) (c := 96) (by rw [hb]; decide) (k := 96) rfl
  have t60 := rdbyte_ne (b := s[i]) (c := 60) (by rw [hb]; decide) (k := 60) rfl
  have t91 := rdbyte_ne (b := s[i]) (c := 91) (by rw [hb]; decide) (k := 91) rfl
  have t42 := rdbyte_ne (b := s[i]) (c := 42) (by rw [hb]; decide) (k := 42) rfl
  have t95 := rdbyte_ne (b := s[i]) (c := 95) (by rw [hb]; decide) (k := 95) rfl
  have t10 := rdbyte_eq hb (k := 10) rfl
  generalize s[i] = ch at *
  obtain ⟨hB, gm, nm, D, vr, vF, rs, V, hR, hw, hnm⟩ := h
  have hl1 := RdOK.runs_le ok (by omega) hs hR
  obtain ⟨f0, f1, f2, f3, f4, f5, f6⟩ := hR.cells
  obtain ⟨g, c, hv, hlast⟩ := hR.lastp (by omega)
  replace hlast := Lib.hid hlast
  have hput := Lib.hid (rd_put hR hB 5 (by decide) [] [] [] none 0 (by omega) hv (ic_leaf _ _ _ _ _))
  have hwl := Lib.hid (wts_put rs (.mk 5 [] [] []))
  have hbs : bs [] = ⟨#[]⟩ := rfl
  have hadd : Hid (((i + 1 : Nat) : Int) = (i : Int) + 1) := Lib.hid (by omega)
  replace hv := Lib.hid hv
  clear hR
  go_enter Tryz.func22, Tryz.ntmps22
  go_wp2_with fail
  refine (hlast.out _).mono ?_
  rintro e w2 ⟨rfl, rfl⟩
  go_wp2_with fail
  refine hput.out.mono ?_
  rintro e w3 ⟨rfl, V', hR3, hb3⟩
  replace hR3 := Lib.hid hR3
  replace hb3 := Lib.hid hb3
  clear f0 f1 f2 f3 f4 f5 f6 hput
  go_wp2
  go_ret
  exact ⟨by rw [hadd.out]; rfl, ⟨Nat.le_trans hB hb3.out.size, gm, nm, D, vr, _, _, V', hR3.out, by have h9 := hwl.out; simp only [Il.tlen, List.length_nil] at h9; omega, by omega⟩, hb3.out⟩
end
end Go.Proofs.YtkfhkfagmokjpaaGreatDoor

namespace Go.Proofs.YtkfhkfagmokjpaaGreatDoor
open Go.RowKit Go.Maps

theorem Em.kind_other {s : List UInt8} {i : Nat} (hi : i < s.length) (h1 : s[i] ≠ 42) (h2 : s[i] ≠ 95) : Em.kind s (i : Int) = none := by
  refine Em.kind_off ?_
  unfold Em.starts
  refine decide_eq_false fun h => ?_
  have h3 := h.2.2.1
  rw [Int.toNat_natCast, Em.getD_at hi] at h3
  rcases h3 with h3 | h3
  · exact h1 h3
  · exact h2 h3
theorem linkAt_other {s : List UInt8} {i : Nat} (hi : i < s.length) (h : s[i] ≠ 91) : Il.linkAt s i = none := by
  unfold Il.linkAt
  rw [Lk.close_off (.inr (by rw [Em.getD_at hi]; exact h))]
theorem Lk.auto_text {s : List UInt8} {i : Nat} {t : List UInt8} {n : Nat} (h : Lk.auto s (i : Int) = some (t, n)) : t ≠ [] ∧ t.length ≤ s.length := by
  cases hs : Lk.starts s i with
  | false => rw [Lk.auto_off hs] at h; cases h
  | true =>
    rw [Lk.auto_on hs rfl] at h
    obtain ⟨j, hj, he⟩ := Option.map_eq_some_iff.1 h
    injection he with ht he
    have h1 := Lk.ends_spec _ _ _ hj
    unfold Lk.starts at hs
    have h2 := (of_decide_eq_true hs).2.2.1
    have h3 := mid_len (l := s) (lo := i + 1) (hi := j) (by omega)
    rw [ht] at h3
    exact ⟨fun e => by rw [e] at h3; simp at h3; omega, by omega⟩
section
variable {w : World} {B bR : Nat} {s : List UInt8} {link : Bool} {st : Il.Sc} {i mk mk' : Nat} {inner : List UInt8 → List Il.In}
theorem RdOK.more (h : RdOK w B bR s link st i mk) (hm : mk ≤ mk') : RdOK w B bR s link st i mk' := by
  obtain ⟨hB, gm, nm, D, vr, vF, rs, V, hR, hw, hnm⟩ := h
  exact ⟨hB, gm, nm, D, vr, vF, rs, V, hR, hw, by omega⟩
theorem piece_96 (hi : i < s.length) (hb : s[i] = 96) : Il.piece link inner s i st = (match Cd.span s (i : Int) with
    | some (t, e) => (e, ⟨st.l ++ [⟨.mk 1 t [] [], none, 0, 0⟩], st.runs⟩)
    | none => (i + Fn.run 96 (s.drop i), ⟨Il.pput st.l (mid s i (i + Fn.run 96 (s.drop i))), st.runs⟩)) := by
  unfold Il.piece
  rw [if_pos (by rw [Em.getD_at hi]; exact hb)]
  rfl
theorem piece_auto (hi : i < s.length) (hb : s[i] ≠ 96) {t : List UInt8} {e : Nat} (ha : Lk.auto s (i : Int) = some (t, e)) : Il.piece false inner s i st = (e, ⟨st.l ++ [⟨.mk 4 [] t [Il.word (Ru.enc (Ru.runes t))], none, 0, 0⟩], st.runs⟩) := by
  unfold Il.piece
  rw [if_neg (by rw [Em.getD_at hi]; exact hb), if_neg (by decide), ha]
theorem piece_link (hi : i < s.length) (hb : s[i] ≠ 96) (ha : Lk.auto s (i : Int) = none) {d : List UInt8} {j e : Nat} (hl : Il.linkAt s i = some (d, j, e)) : Il.piece false inner s i st = (e, ⟨st.l ++ [⟨.mk 4 [] d (inner (mid s (i + 1) j)), none, 0, 0⟩], st.runs⟩) := by
  unfold Il.piece
  rw [if_neg (by rw [Em.getD_at hi]; exact hb), if_neg (by decide), ha]
  simp only
  rw [if_neg (by decide), hl]
theorem piece_rest (hi : i < s.length) (hb : s[i] ≠ 96) (ha : link = true ∨ Lk.auto s (i : Int) = none) (hl : link = true ∨ Il.linkAt s i = none) : Il.piece link inner s i st = (match Em.kind s (i : Int) with
      | some (r, e) => (e, ⟨st.l ++ [⟨Il.none_, some st.runs.length, r.n.toNat, r.ch⟩], st.runs ++ [r]⟩)
      | none => if s.getD i 0 = 10 then (i + 1, ⟨st.l ++ [⟨.mk 5 [] [] [], none, 0, 0⟩], st.runs⟩)
                else ((Es.next s i).2.1, ⟨Il.pput st.l (Lib.encodeRune ((Es.next s i).1 : Int)), st.runs⟩)) := by
  unfold Il.piece
  have h1 : (if link = true then none else Lk.auto s (i : Int)) = none := by
    rcases ha with h | h
    · rw [if_pos h]
    · rw [h]; split <;> rfl
  have h2 : (if link = true then none else Il.linkAt s i) = none := by
    rcases hl with h | h
    · rw [if_pos h]
    · rw [h]; split <;> rfl
  rw [if_neg (by rw [Em.getD_at hi]; exact hb), h1]
  simp only
  rw [h2]
  rfl
/-- where nothing begins, a rune is read as it is -/
theorem piece_plain (hi : i < s.length) (hb : s[i] ≠ 96) (ha : link = true ∨ Lk.auto s (i : Int) = none) (hl : link = true ∨ Il.linkAt s i = none) (hk : Em.kind s (i : Int) = none) (h10 : s[i] ≠ 10) : Il.piece link inner s i st = ((Es.next s i).2.1, ⟨Il.pput st.l (Lib.encodeRune ((Es.next s i).1 : Int)), st.runs⟩) := by
  rw [piece_rest hi hb ha hl, hk]
  simp only
  rw [if_neg (by rw [Em.getD_at hi]; exact h10)]
theorem rd_read (h : RdOK w B bR s link st i mk) (ok : Il.ScOK st i) (hi : i < s.length) (hs : s.length ≤ 4000000) (hT : ∀ u, Below B w u → Tabs u) (hP : link = false → PIn true inner)
    (hE : link = false → s[i] = 91 → Calls Tryz.prog 64 #[.pointer (some ⟨bR, 2, none⟩), .int .i64 (i : Int)] w (EndTo w B bR s st i mk')) (hm : mk ≤ mk') :
    Calls Tryz.prog 22 #[.pointer (some ⟨bR, 0, none⟩), .int .i64 (i : Int)] w fun e w' => e = .returned (.int .i64 ((Il.piece link inner s i st).1 : Int)) ∧
      (RdOK w' B bR s link (Il.piece link inner s i st).2 (Il.piece link inner s i st).1 mk' ∧ Below B w w') := by
  have hmore := Il.piece_more link inner hi st
  have hw := hT w (Below.refl _ _)
  have h' := h.more hm
  by_cases h96 : s[i] = 96
  · refine read_96 h' hi h96 ?_
    rw [piece_96 hi h96] at hmore ⊢
    cases hsp : Cd.span s (i : Int) with
    | some x =>
      obtain ⟨t, e⟩ := x
      rw [hsp] at hmore
      simp only at hmore
      have hl := Il.span_len hsp
      exact rd_codeY (t := t) (n := e) h' ok hi hs hsp hmore.1 (by omega)
    | none => exact rd_codeN h' ok hi hs hsp h96
  by_cases h60 : s[i] = 60
  · refine read_60 h' hi h60 ?_
    have hk := Em.kind_other hi (by rw [h60]; decide) (by rw [h60]; decide)
    have h10 : s[i] ≠ 10 := by rw [h60]; decide
    cases link with
    | true =>
      rw [piece_plain hi h96 (.inl rfl) (.inl rfl) hk h10]
      exact rd_autoN h' ok hi hs (.inl rfl)
    | false =>
      cases ha : Lk.auto s (i : Int) with
      | none =>
        rw [piece_plain hi h96 (.inr ha) (.inr (linkAt_other hi (by rw [h60]; decide))) hk h10]
        exact rd_autoN h' ok hi hs (.inr ha)
      | some x =>
        obtain ⟨t, e⟩ := x
        rw [piece_auto hi h96 ha] at hmore ⊢
        have ht := Lk.auto_text ha
        exact rd_autoY h' ok hi hs ha hmore.1 (Il.runes_full ht.1) (by omega)
  have ha := auto_other hi h60
  by_cases h91 : s[i] = 91
  · refine read_91 h' hi h91 ?_
    have hk := Em.kind_other hi (by rw [h91]; decide) (by rw [h91]; decide)
    have h10 : s[i] ≠ 10 := by rw [h91]; decide
    cases link with
    | true =>
      rw [piece_plain hi h96 (.inl rfl) (.inl rfl) hk h10]
      exact rd_linkT h' ok hi hs
    | false =>
      cases hc : Lk.close s (i : Int) with
      | none =>
        have hl : Il.linkAt s i = none := by unfold Il.linkAt; rw [hc]
        rw [piece_plain hi h96 (.inr ha) (.inr hl) hk h10]
        exact rd_linkN h ok hi hs hc (hE rfl h91)
      | some j =>
        have hj : j < s.length := by
          rw [Lk.close_on hi (by rw [Em.getD_at hi]; exact h91)] at hc
          exact (Il.closeF_spec _ _ _ _ hc).2
        have hij : i < j := by
          rw [Lk.close_on hi (by rw [Em.getD_at hi]; exact h91)] at hc
          have := (Il.closeF_spec _ _ _ _ hc).1
          omega
        cases hd : Lk.dest s ((j : Int) + 1) with
        | none =>
          have hl : Il.linkAt s i = none := by unfold Il.linkAt; rw [hc]; simp only; rw [hd]
          rw [piece_plain hi h96 (.inr ha) (.inr hl) hk h10]
          exact rd_linkD h ok hi hs hc hj hd (hE rfl h91)
        | some x =>
          obtain ⟨d, e⟩ := x
          have hl : Il.linkAt s i = some (d, j, e) := by unfold Il.linkAt; rw [hc]; simp only; rw [hd]
          have hsp := Il.link_spec hl
          rw [piece_link hi h96 ha hl]
          exact rd_linkY h ok hi hs hT (hP rfl) hc hij hj hd hsp.2.1 (hE rfl h91)
  have hl := linkAt_other hi h91
  have hrun : ∀ (_ : s[i] = 42 ∨ s[i] = 95), Calls Tryz.prog 39 #[.pointer (some ⟨bR, 0, none⟩), .int .i64 (i : Int)] w fun e w' => e = .returned (.int .i64 ((Il.piece link inner s i st).1 : Int)) ∧
      (RdOK w' B bR s link (Il.piece link inner s i st).2 (Il.piece link inner s i st).1 mk' ∧ Below B w w') := fun hr => by
    have h10 : s[i] ≠ 10 := by rcases hr with e | e <;> rw [e] <;> decide
    cases hk : Em.kind s (i : Int) with
    | none =>
      rw [piece_plain hi h96 (.inr ha) (.inr hl) hk h10]
      exact rd_runN h' ok hi hs hw hk
    | some x =>
      obtain ⟨r, e⟩ := x
      rw [piece_rest hi h96 (.inr ha) (.inr hl), hk]
      exact rd_runY h' ok hi hs hw hk (Il.kind_spec hk).1
  by_cases h42 : s[i] = 42
  · exact read_42 h' hi h42 (hrun (.inl h42))
  by_cases h95 : s[i] = 95
  · exact read_95 h' hi h95 (hrun (.inr h95))
  have hk := Em.kind_other hi h42 h95
  by_cases h10 : s[i] = 10
  · rw [piece_rest hi h96 (.inr ha) (.inr hl), hk]
    simp only
    rw [if_pos (by rw [Em.getD_at hi]; exact h10)]
    exact read_10 h' ok hi hs h10
  rw [piece_plain hi h96 (.inr ha) (.inr hl) hk h10]
  exact read_other h' hi h96 h60 h91 h42 h95 h10 (rd_plain h' ok hi hs)
end
end Go.Proofs.YtkfhkfagmokjpaaGreatDoor

namespace Go.Proofs.YtkfhkfagmokjpaaGreatDoor

/-- what is read, and how the reader stands, place by place -/
structure Il.At (link : Bool) (inner : List UInt8 → List Il.In) (s : List UInt8) (i : Nat) (st : Il.Sc) : Prop where
  le : i ≤ s.length
  ok : Il.ScOK st i
  few : Il.FewS st i
  rest : Il.scan link inner s i st = Il.scan link inner s 0 ⟨[], []⟩
theorem Il.At.start (link : Bool) (inner : List UInt8 → List Il.In) (s : List UInt8) : Il.At link inner s 0 ⟨[], []⟩ := ⟨Nat.zero_le _, Il.scok_start, ⟨by simp, by simp [Il.weight]⟩, rfl⟩
theorem Il.At.more {link : Bool} {inner : List UInt8 → List Il.In} (hin : link = false → Il.InnerOK inner) {s : List UInt8} (hs : s.length ≤ 4000000) {i : Nat} {st : Il.Sc} (h : Il.At link inner s i st) (hi : i < s.length) :
    Il.At link inner s (Il.piece link inner s i st).1 (Il.piece link inner s i st).2 ∧ i < (Il.piece link inner s i st).1 := by
  have hm := Il.piece_more link inner hi st
  obtain ⟨k1, k2⟩ := Il.piece_ok link inner hin hs hi h.ok h.few
  refine ⟨⟨hm.2, k1, k2, ?_⟩, hm.1⟩
  rw [← h.rest, Il.scan_step link inner hi]
theorem Il.At.done {link : Bool} {inner : List UInt8 → List Il.In} {s : List UInt8} {i : Nat} {st : Il.Sc} (h : Il.At link inner s i st) (hi : ¬ i < s.length) : Il.stress st.l st.runs = Il.within link inner s := by
  have := h.rest
  rw [Il.scan_end link inner (by omega)] at this
  unfold Il.within
  rw [← this]
end Go.Proofs.YtkfhkfagmokjpaaGreatDoor

namespace Go.Proofs.YtkfhkfagmokjpaaGreatDoor

theorem Em.judge_ch (c : UInt8) (n b a : Nat) : (Em.judge c n b a).ch = c ∧ (Em.judge c n b a).n = (n : Int) := by
  unfold Em.judge
  split <;> exact ⟨rfl, rfl⟩
theorem Em.kind_ch {s : List UInt8} {i : Nat} {r : Em.R} {e : Nat} (h : Em.kind s (i : Int) = some (r, e)) : r.ch.toNat < 128 ∧ r.n = ((e - i : Nat) : Int) := by
  unfold Em.kind at h
  split at h
  · rename_i hs
    unfold Em.starts at hs
    have h3 := (of_decide_eq_true hs).2.2.1
    rw [Int.toNat_natCast] at h h3
    injection h with h
    injection h with h1 h2
    subst h1 h2
    refine ⟨?_, ?_⟩
    · rw [(Em.judge_ch _ _ _ _).1]
      rcases h3 with e | e <;> rw [e] <;> decide
    · rw [(Em.judge_ch _ _ _ _).2, Nat.add_sub_cancel_left]
  · cases h
structure Il.Sg (st : Il.Sc) (i : Nat) : Prop where
  ch : ∀ r ∈ st.runs, r.ch.toNat < 128
  ct : cts st.runs ≤ i
theorem Il.sg_more (link : Bool) (inner : List UInt8 → List Il.In) {s : List UInt8} {i : Nat} {st : Il.Sc} (h : Il.Sg st i) (hi : i < s.length) : Il.Sg (Il.piece link inner s i st).2 (Il.piece link inner s i st).1 := by
  have hm := Il.piece_more link inner hi st
  have hk : (Il.piece link inner s i st).2.runs = st.runs ∨ ∃ r e, Em.kind s (i : Int) = some (r, e) ∧ (Il.piece link inner s i st).1 = e ∧ (Il.piece link inner s i st).2.runs = st.runs ++ [r] := by
    unfold Il.piece
    split
    · split <;> exact .inl rfl
    · split
      · exact .inl rfl
      · split
        · exact .inl rfl
        · split
          · rename_i r e hk
            exact .inr ⟨r, e, hk, rfl, rfl⟩
          · split <;> exact .inl rfl
  rcases hk with hk | ⟨r, e, hk, he, hr⟩
  · exact ⟨by rw [hk]; exact h.ch, by rw [hk]; have := h.ct; omega⟩
  · obtain ⟨k1, k2⟩ := Em.kind_ch hk
    refine ⟨?_, ?_⟩
    · rw [hr]
      intro x hx
      rcases List.mem_append.1 hx with hx | hx
      · exact h.ch x hx
      · obtain rfl := List.mem_singleton.1 hx; exact k1
    · rw [hr]
      have h2 := h.ct
      have e1 : cts (st.runs ++ [r]) = cts st.runs + r.n.toNat := by simp [cts]
      have hm1 := hm.1
      rw [he] at hm1 ⊢
      rw [e1]
      omega
end Go.Proofs.YtkfhkfagmokjpaaGreatDoor

namespace Go.Proofs.YtkfhkfagmokjpaaGreatDoor
open Go.RowKit Go.Maps
attribute [local go_sem] canOp readsAs readUpon

theorem rd_parts {gm gF bR : Nat} {s : List UInt8} {link : Bool} {k : Ky} {a : Pa} (h : rowsF (rdM bR gm 0 s link (DataW.map []) (.slice none 0 0) (.slice (some ⟨gF, 0, none⟩) 1 1) []) 3 4 5 (.slice (some ⟨gF, 0, none⟩) 1 1) [Il.Rw.nil] [(.slice none 0 0, .slice none 0 0, [])] k = some a) :
    (k = (3, 0) ∧ a = .row 54 2 (.slice (some ⟨gF, 0, none⟩) 1 1) 1 [.slice none 0 0, .slice none 0 0]) ∨ (k = (0, 0) ∧ a = .blk bR (rdC s link gm (.slice none 0 0) (.slice (some ⟨gF, 0, none⟩) 1 1)) 59) ∨ (k = (2, 0) ∧ a = .map gm 0 (DataW.map [])) ∨
      (∃ e size, a = .row e size (.slice none 0 0) 0 []) := by
  obtain ⟨k1, k2⟩ := k
  have hat : ∀ (f : Il.Rw → V3 → Pa), atR [Il.Rw.nil] [(.slice none 0 0, .slice none 0 0, [])] f k2 = some a → a = f Il.Rw.nil (.slice none 0 0, .slice none 0 0, []) := fun f hf => by
    unfold atR at hf
    cases k2 with
    | zero => simp at hf; exact hf.symm
    | succ j => simp at hf
  unfold rowsF at h
  by_cases h3 : (k1, k2) = (3, 0)
  · rw [if_pos h3] at h
    injection h with h
    exact .inl ⟨h3, h.symm⟩
  rw [if_neg h3] at h
  by_cases h4 : k1 = 4
  · rw [if_pos h4] at h
    exact .inr (.inr (.inr ⟨_, _, hat _ h⟩))
  rw [if_neg h4] at h
  by_cases h5 : k1 = 5
  · rw [if_pos h5] at h
    exact .inr (.inr (.inr ⟨_, _, hat _ h⟩))
  rw [if_neg h5] at h
  unfold rdM at h
  by_cases h0 : (k1, k2) = (0, 0)
  · rw [if_pos h0] at h
    injection h with h
    exact .inr (.inl ⟨h0, h.symm⟩)
  rw [if_neg h0] at h
  by_cases h1 : (k1, k2) = (1, 0)
  · rw [if_pos h1] at h
    injection h with h
    exact .inr (.inr (.inr ⟨_, _, h.symm⟩))
  rw [if_neg h1] at h
  by_cases h2 : (k1, k2) = (2, 0)
  · rw [if_pos h2] at h
    injection h with h
    exact .inr (.inr (.inl ⟨h2, h.symm⟩))
  rw [if_neg h2] at h
  cases h
/-- the reader, ahead of all that it reads -/
theorem rd_begin {W : World} {B gm gF bR : Nat} {s : List UInt8} {link : Bool} (hB : B ≤ gm) (h1 : gm < gF) (h2 : gF < bR) (hm : ilMapAt W gm 0 (DataW.map []))
    (hF : W.heap[gF]? = some (.cells #[.slice none 0 0, .slice none 0 0] 54 (0, 0))) (hR : W.heap[bR]? = some (.cells (rdC s link gm (.slice none 0 0) (.slice (some ⟨gF, 0, none⟩) 1 1)) 59 (0, 0))) : RdOK W B bR s link ⟨[], []⟩ 0 0 := by
  have hz := (Array.getElem?_eq_some_iff.1 hR).1
  refine ⟨by omega, gm, 0, DataW.map [], .slice none 0 0, .slice (some ⟨gF, 0, none⟩) 1 1, [Il.Rw.nil], [(.slice none 0 0, .slice none 0 0, [])], ⟨⟨⟨fun k a ha => ?_, fun k k' a a' g ha ha' hg hg' => ?_⟩, rfl, fun i hi hi' => ?_⟩, Il.rel_start, fun i hi => ?_⟩, by simp [Il.wts, Il.Rw.wt, Il.Rw.nil, Il.otlen], Nat.le_refl _⟩
  · rcases rd_parts ha with ⟨_, rfl⟩ | ⟨_, rfl⟩ | ⟨_, rfl⟩ | ⟨e, size, rfl⟩
    · exact ⟨rfl, .inr ⟨gF, 1, _, rfl, by omega, hF, Nat.le_refl _, by unfold maxLen; omega, rfl, rfl⟩⟩
    · exact ⟨by omega, hR⟩
    · exact ⟨hB, hm⟩
    · exact World.ownsRow_nil _ _ _ _
  · rcases rd_parts ha with ⟨e1, rfl⟩ | ⟨e1, rfl⟩ | ⟨e1, rfl⟩ | ⟨e, size, rfl⟩ <;> rcases rd_parts ha' with ⟨e2, rfl⟩ | ⟨e2, rfl⟩ | ⟨e2, rfl⟩ | ⟨e', size', rfl⟩ <;> first | exact e1.trans e2.symm | (exfalso; simp only [Pa.block, Value.ownBlock, Option.some.injEq, reduceCtorEq] at hg hg' <;> omega)
  · have : i = 0 := by simp at hi; exact hi
    subst this
    exact ICs_nil
  · simp [Maps.has_eq] at hi
section
variable {link : Bool} {inner : List UInt8 → List Il.In}
set_option maxHeartbeats 8000000 in
set_option maxRecDepth 100000 in
theorem pparse_in (hP : link = false → PIn true inner) (hin : link = false → Il.InnerOK inner) : PIn link (Il.within link inner) := by
  intro s w hs hT
  have hsz := bs_size s
  have hmm := @run_makeMap Tryz.prog
  go_enter Tryz.func17, Tryz.ntmps17
  go_upto_region 2 with fail
  have hbeg : RdOK (((w.alloc (.map #[] 0)).alloc (.cells #[.slice none 0 0, .slice none 0 0] 54)).alloc (.cells #[.string (bs s), .bool link, .string (bs s), .map (some w.heap.size), .slice none 0 0, .slice (some ⟨w.heap.size + 1, 0, none⟩) 1 1] 59)) w.heap.size (w.heap.size + 1 + 1) s link ⟨[], []⟩ 0 0 := by
    refine rd_begin (gm := w.heap.size) (gF := w.heap.size + 1) (Nat.le_refl _) (by omega) (by omega) (World.ownsMap.alloc (World.ownsMap.alloc (World.ownsMap_made w _ _ _) _) _) ?_ ?_
    · refine (keep ?_ (ext_alloc _ _)).1
      have := heap_alloc_new (w.alloc (.map #[] 0)) (.cells #[.slice none 0 0, .slice none 0 0] 54)
      rwa [show (w.alloc (.map #[] 0)).heap.size = w.heap.size + 1 by simp] at this
    · have := heap_alloc_new ((w.alloc (.map #[] 0)).alloc (.cells #[.slice none 0 0, .slice none 0 0] 54)) (.cells (rdC s link w.heap.size (.slice none 0 0) (.slice (some ⟨w.heap.size + 1, 0, none⟩) 1 1)) 59)
      rwa [show ((w.alloc (.map #[] 0)).alloc (.cells #[.slice none 0 0, .slice none 0 0] 54)).heap.size = w.heap.size + 1 + 1 by simp] at this
  have hb0 : Below w.heap.size w (((w.alloc (.map #[] 0)).alloc (.cells #[.slice none 0 0, .slice none 0 0] 54)).alloc (.cells #[.string (bs s), .bool link, .string (bs s), .map (some w.heap.size), .slice none 0 0, .slice (some ⟨w.heap.size + 1, 0, none⟩) 1 1] 59)) := ext_trans (ext_trans (ext_alloc _ _) (ext_alloc _ _)) (ext_alloc _ _)
  generalize hW : World.alloc (World.alloc (World.alloc w _) _) _ = W at hbeg hb0 ⊢
  obtain ⟨B, hBe⟩ : ∃ B, B = w.heap.size := ⟨_, rfl⟩
  obtain ⟨bR, hbR⟩ : ∃ bR, bR = w.heap.size + 1 + 1 := ⟨_, rfl⟩
  rw [← hbR, ← hBe] at hbeg
  rw [← hBe] at hb0
  rw [← hbR, ← hBe]
  have hTx := Lib.hid (fun (u : World) (hu : Below B w u) => tabs_below hT (by rw [← hBe]; exact hu))
  replace hbeg := Lib.hid hbeg
  replace hb0 := Lib.hid hb0
  have hBh := Lib.hid hBe
  clear hW hbR hBe hT hmm
  go_wp2_with fail
  go_loopw [6] (fun u wr => ∃ (i : Nat) (st : Il.Sc), u = .int .i64 (i : Int) ∧ Hid (RdOK wr B bR s link st i (5000000 * i)) ∧ Hid (Il.At link inner s i st) ∧ Hid (Il.Sg st i) ∧ Hid (Below B w wr)) (fun u _ => s.length - (intOf u).toNat)
  case atStart => exact ⟨0, ⟨[], []⟩, rfl, hbeg, Lib.hid (Il.At.start _ _ _), Lib.hid ⟨by simp, by simp [cts]⟩, hb0⟩
  case round =>
    obtain ⟨i, st, rfl, hr, hat, hsg, hb⟩ := hrel
    clear hbeg hb0
    by_cases hil : i < s.length
    · have hrd := rd_read (mk' := 5000000 * i + s.length + 1) hr.out hat.out.ok hil hs (fun u hu => hTx.out u (hb.out.trans hu)) hP (fun hl h91 => by subst hl; exact rd_end hr.out hil h91 hs (by omega)) (by omega)
      obtain ⟨hm1, hm2⟩ := hat.out.more hin hs hil
      have hs2 := Il.sg_more link inner hsg.out hil
      obtain ⟨P, hP2⟩ : ∃ P, P = Il.piece link inner s i st := ⟨_, rfl⟩
      rw [← hP2] at hrd hm1 hm2 hs2
      obtain ⟨j, st2⟩ := P
      simp only at hrd hm1 hm2 hs2
      have hjl := hm1.le
      replace hrd := Lib.hid hrd
      replace hm1 := Lib.hid hm1
      replace hs2 := Lib.hid hs2
      clear hP2 hr hat hsg
      go_wp2_with fail
      refine hrd.out.mono ?_
      rintro e w2 ⟨rfl, hr2, hb2⟩
      have hr3 := Lib.hid (hr2.more (mk' := 5000000 * j) (by omega))
      have hb3 := Lib.hid (hb.out.trans hb2)
      clear hr2 hb2 hrd
      go_wp2_with fail
      go_roundw
      case rel => exact ⟨j, st2, rfl, hr3, hm1, hs2, hb3⟩
      case measure => simp [intOf]; omega
    · have hd := hat.out.done hil
      have hle := hat.out.le
      obtain ⟨hB, gm, nm, D, vr, vF, rs, V, hR, hw, hnm⟩ := hr.out
      obtain ⟨f0, f1, f2, f3, f4, f5, f6⟩ := hR.cells
      have hrow := hR.rw.hp.holds (1, 0) (.row 96 4 vr st.runs.length (acells st.runs)) (by unfold rowsF rdM; rw [if_neg (by simp), if_neg (by simp), if_neg (by simp), if_neg (by simp), if_pos rfl])
      replace hrow : wr.ownsRow B 96 4 vr st.runs.length (acells st.runs) := hrow
      obtain ⟨AR, cR, rfl, hcR⟩ := own_shape hrow
      have hfold := pfold_any (AR := AR) (cR := cR) st hR.rw hB (by unfold rdM; rw [if_neg (by simp), if_pos rfl]) hR.rel hat.out.ok (by omega) hsg.out.ch (by omega) (by have := hsg.out.ct; omega)
      rw [hd] at hfold
      replace hfold := Lib.hid hfold
      clear hd hR hrow hr hat hsg hTx
      go_wp2_with fail
      refine hfold.out.mono ?_
      rintro e w9 ⟨v, rfl, css, ho, hI, hb9⟩
      have hb10 := Lib.hid (hb.out.trans hb9)
      replace ho := Lib.hid ho
      replace hI := Lib.hid hI
      clear hb9 hfold
      go_wp2_with fail
      go_ret
      have k1 := ho.out
      have k2 := hI.out
      have k3 := hb10.out
      rw [hBh.out] at k1 k2 k3
      exact ⟨⟨_, rfl, css, k1, k2⟩, k3⟩
end
theorem pparse_link : PIn true Il.inLink := pparse_in (fun h => absurd h (by decide)) (fun h => absurd h (by decide))
theorem pparse_all : PIn false Il.parse := pparse_in (fun _ => pparse_link) (fun _ => Il.within_ok true (fun _ => []) (fun h => absurd h (by decide)))
set_option maxHeartbeats 1000000 in
theorem parse_any : PParse := by
  intro s w hs hT
  have q := Lib.hid (fun w hT => pparse_all s w hs hT)
  obtain ⟨X, hX⟩ : ∃ X, X = Il.parse s := ⟨_, rfl⟩
  rw [← hX] at q ⊢
  replace hT := Lib.hid hT
  clear hX
  go_enter Tryz.func10, Tryz.ntmps10
  go_wp2_with fail
  refine (q.out _ hT.out).mono ?_
  rintro e w1 ⟨⟨v, rfl, css, ho, hI⟩, hb⟩
  replace ho := Lib.hid ho
  replace hI := Lib.hid hI
  replace hb := Lib.hid hb
  go_wp2_with fail
  go_ret
  exact ⟨⟨_, rfl, css, ho.out, hI.out⟩, hb.out⟩
end Go.Proofs.YtkfhkfagmokjpaaGreatDoor
