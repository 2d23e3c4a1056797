/- A tape's documents: a row of them that grows. No function of the program is spoken of here. A tape's wild documents. A tape's good documents in memory: one block of paths and rows of bytes, each in a block of its own. No function of the program is spoken of here. A piece goes into one of a tape's documents. A tape's good documents, the first of them made. No function of the program is spoken of here. A tape's good documents. -/
import Derived.Test.YtmmgfoepfapnkaaGreatDoorQ13
import Derived.Test.YtmmgfoepfapnkaaGreatDoorQ16
import Derived.Test.YtmmgfoepfapnkaaGreatDoorQ25
import Derived.Test.YtmmgfoepfapnkaaGreatDoorQ03
import Derived.Test.YtmmgfoepfapnkaaGreatDoorQ02
namespace Go.Proofs.YtmmgfoepfapnkaaGreatDoor
open Go.RowKit

theorem srcEI : EI Tryz.prog 28 33 2 40 := EI.mk' (z := .agg #[.string ⟨#[]⟩, .slice none 0 0]) Tryz.underlying28 (by kernel_rfl) rfl (by omega)
def SQ (w : World) (Q : Nat → Prop) (s : Ck.Src) (cs : List Value) : Prop := ∃ A c, cs = scell s (.slice A s.data.length c) ∧ s.data.length ≤ c ∧ RowE w Q 1 A s.data.length (bcells s.data)
theorem SQ.frame {w w' : World} {Q Q' : Nat → Prop} {s : Ck.Src} {cs : List Value} (h : SQ w Q s cs) (hf : ∀ b, Q b → w'.heap[b]? = w.heap[b]?) (hq : ∀ b, Q b → Q' b) : SQ w' Q' s cs := by
  obtain ⟨A, c, h1, h2, h3⟩ := h
  exact ⟨A, c, h1, h2, h3.frame hf hq⟩
/-- a row of documents, all of it in blocks from B on -/
def OwnS (w : World) (B : Nat) (v : Value) (l : List Ck.Src) : Prop := ∃ css, w.ownsRow B 33 2 v l.length css.flatten ∧ Els (SQ w (fun b => B ≤ b ∧ b < w.heap.size ∧ v.ownBlock ≠ some b)) l css
theorem OwnS.nil (w : World) (B : Nat) : OwnS w B (.slice none 0 0) [] := ⟨[], World.ownsRow_nil _ _ _ _, rfl⟩
theorem OwnS.ext {w w' : World} {B : Nat} {v : Value} {l : List Ck.Src} (h : OwnS w B v l) (hb : Below w.heap.size w w') : OwnS w' B v l := by
  obtain ⟨css, h1, h2⟩ := h
  exact ⟨css, own_below h1 hb, h2.mono fun _ _ hd => hd.frame (fun b hq => hb.block b hq.2.1) (fun b hq => ⟨hq.1, Nat.lt_of_lt_of_le hq.2.1 hb.size, hq.2.2⟩)⟩
theorem OwnS.aside {w w' : World} {B g : Nat} {v : Value} {l : List Ck.Src} (h : OwnS w B v l) (ha : Aside g w w') (hg : g < B) : OwnS w' B v l := by
  obtain ⟨css, h1, h2⟩ := h
  exact ⟨css, own_aside h1 ha hg, h2.mono fun _ _ hd => hd.frame (fun b hq => ha.2.2 b hq.2.1 (by have := hq.1; omega)) (fun b hq => ⟨hq.1, Nat.lt_of_lt_of_le hq.2.1 ha.2.1, hq.2.2⟩)⟩
theorem OwnS.srow {w : World} {B c n : Nat} {A : Option Addr} {l : List Ck.Src} (h : OwnS w B (.slice A n c) l) : ∃ css, SRow w w.heap.size A l.length l css ∧ n = l.length := by
  obtain ⟨css, h1, h2⟩ := h
  have hn : n = l.length := by
    rcases h1.2 with ⟨e, e2⟩ | ⟨g, cap, cur, e, _⟩
    · injection e with e3 e4; rw [e2]; exact e4
    · injection e
  subst hn
  refine ⟨css, ⟨rfl, Row.own h1, h2.mono fun _ _ hd => ?_⟩, rfl⟩
  obtain ⟨A1, c1, k1, k2, k3⟩ := hd
  exact ⟨A1, c1, k1, k2, k3.row fun b hq => hq.2.1⟩
/-- a document more -/
theorem OwnS.more {w w' : World} {B c : Nat} {css : List (List Value)} {v v' : Value} {l : List Ck.Src} {s : Ck.Src} {A : Option Addr} {xs : List Value} (h : Els (SQ w (fun b => B ≤ b ∧ b < w.heap.size ∧ v.ownBlock ≠ some b)) l css) (hxs : xs = css.flatten)
    (hown : w'.ownsRow B 33 2 v' (l.length + 1) (xs ++ scell s (.slice A s.data.length c))) (hg : w.grownBy w' v.ownBlock) (hat : At w.heap.size v v')
    (hl : RowE w (fun b => B ≤ b ∧ b < w.heap.size ∧ v.ownBlock ≠ some b) 1 A s.data.length (bcells s.data)) (hlc : s.data.length ≤ c) : OwnS w' B v' (l ++ [s]) := by
  subst hxs
  have hf : ∀ b, (B ≤ b ∧ b < w.heap.size ∧ v.ownBlock ≠ some b) → w'.heap[b]? = w.heap[b]? := fun b hq => hg.block b hq.2.1 (fun e => hq.2.2 e.symm)
  have hq : ∀ b, (B ≤ b ∧ b < w.heap.size ∧ v.ownBlock ≠ some b) → (B ≤ b ∧ b < w'.heap.size ∧ v'.ownBlock ≠ some b) := fun b hq => ⟨hq.1, Nat.lt_of_lt_of_le hq.2.1 hg.size, fun e => by
    rcases hat b e with e | e
    · exact hq.2.2 e
    · omega⟩
  refine ⟨css ++ [scell s (.slice A s.data.length c)], ?_, Els.snoc (h.mono fun _ _ hd => hd.frame hf hq) ⟨A, c, rfl, hlc, hl.frame hf hq⟩⟩
  rw [List.flatten_append, List.length_append]
  simpa using hown
end Go.Proofs.YtmmgfoepfapnkaaGreatDoor

namespace Go.Proofs.YtmmgfoepfapnkaaGreatDoor
open Go.RowKit
attribute [local go_sem] canOp readsAs readUpon

set_option maxHeartbeats 4000000 in
set_option maxRecDepth 100000 in
theorem twild_any (w : World) (g : Nat) (h : TapeAt w g) :
    Calls Tryz.prog 10 #[.pointer (some ⟨g, 0, none⟩)] w fun e w' => ∃ (v : Value) (l : List Ck.Src), e = .returned v ∧ OwnS w' w.heap.size v l ∧ l.length ≤ 4 ∧ (∀ s ∈ l, s.path.length ≤ 10 ∧ s.data.length ≤ 6000) ∧ TapeAt w' g ∧ Aside g w w' := by
  have hglt := h.lt
  have hT0 := Lib.hid h
  clear h
  go_enter Tryz.func10, Tryz.ntmps10
  go_wp2_with fail
  go_loopw [3, 4] (fun v iv wr => ∃ (k : Nat) (l : List Ck.Src), iv = .int .i64 (k : Int) ∧ k ≤ 3 ∧ l.length = k ∧ Hid (OwnS wr w.heap.size v l) ∧ Hid (∀ s ∈ l, s.path.length ≤ 10 ∧ s.data.length ≤ 6000) ∧ Hid (TapeAt wr g) ∧ Hid (Aside g w wr)) (fun _ iv _ => 4 - (intOf iv).toNat)
  case atStart => exact ⟨0, [], rfl, by omega, rfl, Lib.hid (OwnS.nil _ _), Lib.hid (by simp), hT0, Lib.hid (Aside.refl _ _)⟩
  case round =>
    obtain ⟨k, l, rfl, hk, hl, hown, hsz, hT, hA⟩ := hrel
    go_wp2_with fail
    refine (next_of wr g hT.out 3 (by omega) 3 rfl).mono ?_
    rintro e w1 ⟨r, rfl, hr, hT1, hA1⟩
    have hown1 := Lib.hid (hown.out.aside hA1 hglt)
    have hA1' := Lib.hid (hA.out.trans hA1)
    replace hT1 := Lib.hid hT1
    clear hA1 hown hA hT
    rcases Nat.lt_or_ge r k with hlt | hge
    · have hki : ¬ (k : Int) ≤ (r : Int) := by omega
      go_wp2_with fail
      go_ret
      exact ⟨_, l, rfl, hown1.out, by omega, hsz.out, hT1.out, hA1'.out⟩
    · have hki : (k : Int) ≤ (r : Int) := by omega
      have hk2 : k = 0 ∨ k = 1 ∨ k = 2 := by omega
      have hpth : ∃ pth : List UInt8, pth.length ≤ 10 ∧ (#[.string ⟨#[97, 46, 109, 100]⟩, .string ⟨#[98, 46, 109, 100]⟩, .string ⟨#[99, 46, 109, 100]⟩, .string ⟨#[97, 46, 109, 100]⟩] : Array Value)[k]? = some (.string (bs pth)) := by
        rcases hk2 with rfl | rfl | rfl
        · exact ⟨[97, 46, 109, 100], by simp, rfl⟩
        · exact ⟨[98, 46, 109, 100], by simp, rfl⟩
        · exact ⟨[99, 46, 109, 100], by simp, rfl⟩
      obtain ⟨pth, hpl, hpc⟩ := hpth
      obtain ⟨vA, vc, rfl, hvc⟩ : ∃ A c, u3 = .slice A k c ∧ k ≤ c := by
        obtain ⟨css, h1, _⟩ := hown1.out
        rw [hl] at h1
        exact own_shape h1
      go_wp2_with fail
      refine wp_region_tree (.rd 0 (.rd 2 (.rd 3 (.rd 6 (.fk 1 (.rd 4 (.rd 5 (.mk 7 (.rd 8 (.mk 9 (.mk 10 (.rd 11 .fin))))))) 7 (.mk 1 (.rd 4 (.rd 5 (.rd 8 (.mk 9 (.mk 10 (.rd 11 .fin)))))))))))) (fun _ => True) trivial (by kernel_rfl) (by kernel_rfl) (by kernel_rfl) (fun _ _ d _ _ h => by cases d <;> exact h) ?_
      repeat (first | refine wpT_move rfl ?_ | (refine wpT_rd rfl ?_; intro K hK; go_simp; refine hK _ _ _ ?_; clear hK K))
      have hbits : bits BinOp.and IntKind.i64 (k : Int) 3 = (k : Int) := by rcases hk2 with rfl | rfl | rfl <;> rfl
      have hi0 : (0 : Int) ≤ (k : Int) := by omega
      have hi1 : (k : Int) < 4 := by omega
      have hi2 : ¬ (4 : Int) ≤ (k : Int) := by omega
      have hi3 : ¬ (k : Int) < 0 := by omega
      have hTd : Hid (TapeAt w1.drew g) := Lib.hid (hT1.out.ext (ext_drew w1))
      have hod : Hid (OwnS w1.drew w.heap.size (.slice vA k vc) l) := Lib.hid (hown1.out.ext (ext_drew w1))
      have hAd : Hid (Aside g w w1.drew) := Lib.hid (hA1'.out.drewN 1)
      have hvlt : Hid (∀ b, (Value.slice vA k vc).ownBlock = some b → b < w1.drew.heap.size) := Lib.hid (fun b e => by
        obtain ⟨css, h1, _⟩ := hod.out
        exact (h1.lt b e).2)
      have hgd := hTd.out.lt
      generalize w1.drew = wd at hTd hod hAd hvlt hgd ⊢
      clear hown1 hA1' hT1
      refine wpT_fk ?wa ?wb
      case' wa =>
        obtain ⟨LB, hLB⟩ : ∃ LB, wd.heap.size = LB := ⟨_, rfl⟩
        obtain ⟨St, hSt⟩ : ∃ St : World → Prop, Hid (∀ u, St u ↔ u.heap[LB]? = some (.cells #[.string ⟨#[97, 46, 109, 100]⟩, .string ⟨#[98, 46, 109, 100]⟩, .string ⟨#[99, 46, 109, 100]⟩, .string ⟨#[97, 46, 109, 100]⟩] 9)) := ⟨_, Lib.hid fun _ => Iff.rfl⟩
        refine wpT_mk rfl ?_
        intro K hK
        go_simp
        have hS : St (wd.alloc (.cells #[.string ⟨#[97, 46, 109, 100]⟩, .string ⟨#[98, 46, 109, 100]⟩, .string ⟨#[99, 46, 109, 100]⟩, .string ⟨#[97, 46, 109, 100]⟩] 9)) := (hSt.out _).2 (by rw [← hLB]; exact heap_alloc_new wd _)
        refine ⟨St, hS, hK _ _ _ ?_⟩
        clear hK K
        have hT2 := hTd.out.ext (ext_alloc wd (.cells #[.string ⟨#[97, 46, 109, 100]⟩, .string ⟨#[98, 46, 109, 100]⟩, .string ⟨#[99, 46, 109, 100]⟩, .string ⟨#[97, 46, 109, 100]⟩] 9))
        have hA2 := Lib.hid (hAd.out.trans (Aside.of_ext (ext_alloc wd (.cells #[.string ⟨#[97, 46, 109, 100]⟩, .string ⟨#[98, 46, 109, 100]⟩, .string ⟨#[99, 46, 109, 100]⟩, .string ⟨#[97, 46, 109, 100]⟩] 9)) hgd))
        have hz2 : (wd.alloc (.cells #[.string ⟨#[97, 46, 109, 100]⟩, .string ⟨#[98, 46, 109, 100]⟩, .string ⟨#[99, 46, 109, 100]⟩, .string ⟨#[97, 46, 109, 100]⟩] 9)).heap.size = LB + 1 := by rw [← hLB]; simp
        have ho2 := Lib.hid (hod.out.ext (ext_alloc wd (.cells #[.string ⟨#[97, 46, 109, 100]⟩, .string ⟨#[98, 46, 109, 100]⟩, .string ⟨#[99, 46, 109, 100]⟩, .string ⟨#[97, 46, 109, 100]⟩] 9)))
        generalize wd.alloc (.cells #[.string ⟨#[97, 46, 109, 100]⟩, .string ⟨#[98, 46, 109, 100]⟩, .string ⟨#[99, 46, 109, 100]⟩, .string ⟨#[97, 46, 109, 100]⟩] 9) = w2 at hS hT2 hA2 hz2 ho2 ⊢
        refine wpT_rd rfl ?_
        intro K hK
        go_simp
        refine hK _ _ _ ?_
        clear hK K
        refine wpT_read (.string (bs pth)) rfl rfl hS (fun u hu => by have z := cell12 ((hSt.out u).1 hu) (j := k) hpc; go_simp) ?_
        refine wpT_mk rfl ?_
        intro K hK
        go_simp
        refine (markdown_aside w2 g hT2 30 (by omega) 30 rfl).mono ?_
        rintro e w3 ⟨v3, d, rfl, ho3, hd3, hT3, hA3⟩
        obtain ⟨dA, dc, rfl, hdc⟩ := own_shape ho3
        have hS3 : St w3 := (hSt.out _).2 ((hA3.2.2 LB (by omega) (by omega)).trans ((hSt.out _).1 hS))
        refine ⟨St, hS3, fun _ h => h, hK _ _ _ ?_⟩
        clear hK K
        replace hS := hS3
        obtain ⟨css, ho9, he9⟩ := ho2.out.aside hA3 hglt
        have hAz := Lib.hid (hA2.out.trans hA3)
        have hTz := Lib.hid hT3
        have hrz : RowE w3 (fun b => w.heap.size ≤ b ∧ b < w3.heap.size ∧ (Value.slice vA k vc).ownBlock ≠ some b) 1 dA d.length (bcells d) := (own_q ho3).frame (fun _ _ => rfl) (fun b hq => ⟨by have := hA2.out.2.1; omega, hq.2, fun e => by have := hvlt.out b e; omega⟩)
        clear hT3 hA3 ho3 hT2 hS3
        repeat (first | refine wpT_move rfl ?_ | (refine wpT_rd rfl ?_; intro K hK; go_simp; refine hK _ _ _ ?_; clear hK K))
        refine wpT_mk rfl ?_
        intro K hK
        go_simp
        refine ⟨St, (hSt.out _).2 (keep ((hSt.out _).1 hS) (ext_alloc _ _)).1, fun _ h => h, hK _ _ _ ?_⟩
        clear hK K
        refine wpT_app_big rfl rfl (.tmp 11) (.tmp 20) rfl srcEI rfl ho9 rfl rfl rfl (by intro u hu; simp at hu; rcases hu with rfl | rfl <;> rfl) (by omega) (by omega) (by have := hAz.out.2.1; omega) ?_
        intro v9 w9 hown9 hg9 hb9 hat9
        have hfin := OwnS.more (s := ⟨pth, d⟩) he9 rfl hown9 hg9.out hat9.out hrz hdc
        have hA9 := Lib.hid (aside_grown hAz.out hg9.out hglt (fun k e => (ho9.lt k e).1))
        have hT9 := Lib.hid (tape_grown hTz.out hg9.out (fun k e => by have := (ho9.lt k e).1; omega))
        refine ⟨St, (hSt.out _).2 (grown_blk hg9.out ((hSt.out _).1 hS) (fun e => by have := hvlt.out _ e; omega)), fun _ h => h, ?_⟩
        clear hg9 hb9 hat9 ho9 he9 hrz hown9
        have hfin := Lib.hid hfin
        repeat (first | refine wpT_move rfl ?_ | (refine wpT_rd rfl ?_; intro K hK; go_simp; refine hK _ _ _ ?_; clear hK K))
        refine wpT_fin ?_
        obtain ⟨A9, c9, rfl, hc9⟩ : ∃ A c, v9 = .slice A (l ++ [(⟨pth, d⟩ : Ck.Src)]).length c ∧ (l ++ [(⟨pth, d⟩ : Ck.Src)]).length ≤ c := by
          obtain ⟨css, h1, _⟩ := hfin.out
          exact own_shape h1
        have hsz9 : Hid (∀ s ∈ l ++ [(⟨pth, d⟩ : Ck.Src)], s.path.length ≤ 10 ∧ s.data.length ≤ 6000) := Lib.hid (fun s hs => by
          rcases List.mem_append.1 hs with h | h
          · exact hsz.out s h
          · rw [List.mem_singleton.1 h]; exact ⟨hpl, hd3⟩)
        go_wp2_with fail
        go_roundw
        case rel => exact ⟨k + 1, l ++ [(⟨pth, d⟩ : Ck.Src)], by go_num, by omega, by simp; omega, hfin, hsz9, hT9, hA9⟩
        case measure => simp [intOf]; omega
      case' wb =>
        refine wpT_mk rfl ?_
        intro K hK
        go_simp
        refine (markdown_aside wd g hTd.out 30 (by omega) 30 rfl).mono ?_
        rintro e w2 ⟨v3, d, rfl, ho3, hd3, hT3, hA3⟩
        obtain ⟨dA, dc, rfl, hdc⟩ := own_shape ho3
        refine ⟨fun _ => True, trivial, hK _ _ _ ?_⟩
        clear hK K
        have ho2 := hod.out.aside hA3 hglt
        have hA2 := hAd.out.trans hA3
        have hs3 := hA3.2.1
        have hg2 := hT3.lt
        obtain ⟨LB, hLB⟩ : ∃ LB, w2.heap.size = LB := ⟨_, rfl⟩
        obtain ⟨St, hSt⟩ : ∃ St : World → Prop, Hid (∀ u, St u ↔ u.heap[LB]? = some (.cells #[.string ⟨#[97, 46, 109, 100]⟩, .string ⟨#[98, 46, 109, 100]⟩, .string ⟨#[99, 46, 109, 100]⟩, .string ⟨#[97, 46, 109, 100]⟩] 9)) := ⟨_, Lib.hid fun _ => Iff.rfl⟩
        refine wpT_mk rfl ?_
        intro K hK
        go_simp
        have hS : St (w2.alloc (.cells #[.string ⟨#[97, 46, 109, 100]⟩, .string ⟨#[98, 46, 109, 100]⟩, .string ⟨#[99, 46, 109, 100]⟩, .string ⟨#[97, 46, 109, 100]⟩] 9)) := (hSt.out _).2 (by rw [← hLB]; exact heap_alloc_new w2 _)
        refine ⟨St, hS, hK _ _ _ ?_⟩
        clear hK K
        have hTz := Lib.hid (hT3.ext (ext_alloc w2 (.cells #[.string ⟨#[97, 46, 109, 100]⟩, .string ⟨#[98, 46, 109, 100]⟩, .string ⟨#[99, 46, 109, 100]⟩, .string ⟨#[97, 46, 109, 100]⟩] 9)))
        have hAz := Lib.hid (hA2.trans (Aside.of_ext (ext_alloc w2 (.cells #[.string ⟨#[97, 46, 109, 100]⟩, .string ⟨#[98, 46, 109, 100]⟩, .string ⟨#[99, 46, 109, 100]⟩, .string ⟨#[97, 46, 109, 100]⟩] 9)) hg2))
        have hz2 : (w2.alloc (.cells #[.string ⟨#[97, 46, 109, 100]⟩, .string ⟨#[98, 46, 109, 100]⟩, .string ⟨#[99, 46, 109, 100]⟩, .string ⟨#[97, 46, 109, 100]⟩] 9)).heap.size = LB + 1 := by rw [← hLB]; simp
        obtain ⟨css, ho9, he9⟩ := ho2.ext (ext_alloc w2 (.cells #[.string ⟨#[97, 46, 109, 100]⟩, .string ⟨#[98, 46, 109, 100]⟩, .string ⟨#[99, 46, 109, 100]⟩, .string ⟨#[97, 46, 109, 100]⟩] 9))
        have hrz : RowE (w2.alloc (.cells #[.string ⟨#[97, 46, 109, 100]⟩, .string ⟨#[98, 46, 109, 100]⟩, .string ⟨#[99, 46, 109, 100]⟩, .string ⟨#[97, 46, 109, 100]⟩] 9)) (fun b => w.heap.size ≤ b ∧ b < (w2.alloc (.cells #[.string ⟨#[97, 46, 109, 100]⟩, .string ⟨#[98, 46, 109, 100]⟩, .string ⟨#[99, 46, 109, 100]⟩, .string ⟨#[97, 46, 109, 100]⟩] 9)).heap.size ∧ (Value.slice vA k vc).ownBlock ≠ some b) 1 dA d.length (bcells d) := (own_q ho3).frame (fun b hq => (ext_alloc w2 (.cells #[.string ⟨#[97, 46, 109, 100]⟩, .string ⟨#[98, 46, 109, 100]⟩, .string ⟨#[99, 46, 109, 100]⟩, .string ⟨#[97, 46, 109, 100]⟩] 9)).block b hq.2) (fun b hq => ⟨by have := hAd.out.2.1; omega, by omega, fun e => by have := hvlt.out b e; omega⟩)
        generalize w2.alloc (.cells #[.string ⟨#[97, 46, 109, 100]⟩, .string ⟨#[98, 46, 109, 100]⟩, .string ⟨#[99, 46, 109, 100]⟩, .string ⟨#[97, 46, 109, 100]⟩] 9) = w3 at hS hTz hAz hz2 ho9 he9 hrz ⊢
        clear hT3 hA3 ho3 hz2
        refine wpT_rd rfl ?_
        intro K hK
        go_simp
        refine hK _ _ _ ?_
        clear hK K
        refine wpT_read (.string (bs pth)) rfl rfl hS (fun u hu => by have z := cell12 ((hSt.out u).1 hu) (j := k) hpc; go_simp) ?_
        repeat (first | refine wpT_move rfl ?_ | (refine wpT_rd rfl ?_; intro K hK; go_simp; refine hK _ _ _ ?_; clear hK K))
        refine wpT_mk rfl ?_
        intro K hK
        go_simp
        refine ⟨St, (hSt.out _).2 (keep ((hSt.out _).1 hS) (ext_alloc _ _)).1, fun _ h => h, hK _ _ _ ?_⟩
        clear hK K
        refine wpT_app_big rfl rfl (.tmp 11) (.tmp 20) rfl srcEI rfl ho9 rfl rfl rfl (by intro u hu; simp at hu; rcases hu with rfl | rfl <;> rfl) (by omega) (by omega) (by have := hAz.out.2.1; omega) ?_
        intro v9 w9 hown9 hg9 hb9 hat9
        have hfin := OwnS.more (s := ⟨pth, d⟩) he9 rfl hown9 hg9.out hat9.out hrz hdc
        have hA9 := Lib.hid (aside_grown hAz.out hg9.out hglt (fun k e => (ho9.lt k e).1))
        have hT9 := Lib.hid (tape_grown hTz.out hg9.out (fun k e => by have := (ho9.lt k e).1; omega))
        refine ⟨St, (hSt.out _).2 (grown_blk hg9.out ((hSt.out _).1 hS) (fun e => by have := hvlt.out _ e; omega)), fun _ h => h, ?_⟩
        clear hg9 hb9 hat9 ho9 he9 hrz hown9
        have hfin := Lib.hid hfin
        repeat (first | refine wpT_move rfl ?_ | (refine wpT_rd rfl ?_; intro K hK; go_simp; refine hK _ _ _ ?_; clear hK K))
        refine wpT_fin ?_
        obtain ⟨A9, c9, rfl, hc9⟩ : ∃ A c, v9 = .slice A (l ++ [(⟨pth, d⟩ : Ck.Src)]).length c ∧ (l ++ [(⟨pth, d⟩ : Ck.Src)]).length ≤ c := by
          obtain ⟨css, h1, _⟩ := hfin.out
          exact own_shape h1
        have hsz9 : Hid (∀ s ∈ l ++ [(⟨pth, d⟩ : Ck.Src)], s.path.length ≤ 10 ∧ s.data.length ≤ 6000) := Lib.hid (fun s hs => by
          rcases List.mem_append.1 hs with h | h
          · exact hsz.out s h
          · rw [List.mem_singleton.1 h]; exact ⟨hpl, hd3⟩)
        go_wp2_with fail
        go_roundw
        case rel => exact ⟨k + 1, l ++ [(⟨pth, d⟩ : Ck.Src)], by go_num, by omega, by simp; omega, hfin, hsz9, hT9, hA9⟩
        case measure => simp [intOf]; omega
end Go.Proofs.YtmmgfoepfapnkaaGreatDoor

namespace Go.Proofs.YtmmgfoepfapnkaaGreatDoor
open Go.RowKit

/-- n documents: paths ps, rows vs that hold ds; ob: their block; all of it from B on -/
def Docs (w : World) (B ob n : Nat) (ps : Nat → List UInt8) (vs : Nat → Value) (ds : Nat → List UInt8) : Prop :=
  B ≤ ob ∧ (∃ cur : Array Value, w.heap[ob]? = some (.cells cur 33 (0, 0)) ∧ cur.size = n * 2 ∧ ∀ i, i < n → cur[i * 2]? = some (.string (bs (ps i))) ∧ cur[i * 2 + 1]? = some (vs i)) ∧
  (∀ i, i < n → OwnM w B 5 (vs i) (ds i) ∧ (vs i).ownBlock ≠ some ob) ∧ ∀ i j, i < n → j < n → i ≠ j → ∀ b, (vs i).ownBlock = some b → (vs j).ownBlock ≠ some b
theorem Docs.lt {w : World} {B ob n : Nat} {ps : Nat → List UInt8} {vs : Nat → Value} {ds : Nat → List UInt8} (h : Docs w B ob n ps vs ds) : ob < w.heap.size := by
  obtain ⟨_, ⟨cur, h1, _⟩, _⟩ := h
  exact (Array.getElem?_eq_some_iff.1 h1).1
theorem Docs.aside {w w' : World} {B ob n g : Nat} {ps : Nat → List UInt8} {vs : Nat → Value} {ds : Nat → List UInt8} (h : Docs w B ob n ps vs ds) (ha : Aside g w w') (hg : g < B) : Docs w' B ob n ps vs ds := by
  have hl := h.lt
  obtain ⟨h0, ⟨cur, h1, h2⟩, h3, h4⟩ := h
  exact ⟨h0, ⟨cur, (ha.2.2 ob hl (by omega)).trans h1, h2⟩, fun i hi => ⟨ownM_aside (h3 i hi).1 ha hg, (h3 i hi).2⟩, h4⟩
/-- a document's row, and what it becomes -/
theorem Docs.set {w w1 w' : World} {B ob n i : Nat} {ps : Nat → List UInt8} {vs : Nat → Value} {ds : Nat → List UInt8} {v : Value} {d : List UInt8} (h : Docs w B ob n ps vs ds) (hi : i < n)
    (hk : ∀ k, B ≤ k → k < w.heap.size → (vs i).ownBlock ≠ some k → k ≠ ob → w1.heap[k]? = w.heap[k]?) (hob : w1.heap[ob]? = w.heap[ob]?) (ho : OwnM w1 B 5 v d) (hat : At w.heap.size (vs i) v)
    (hw : w' = w1.setCell ⟨ob, i * 2 + 1, none⟩ v) : Docs w' B ob n ps (fun j => if j = i then v else vs j) (fun j => if j = i then d else ds j) := by
  have hl := h.lt
  obtain ⟨h0, ⟨cur, h1, h2, h5⟩, h3, h4⟩ := h
  subst hw
  have hvob : v.ownBlock ≠ some ob := fun e => by
    rcases hat ob e with e | e
    · exact (h3 i hi).2 e
    · omega
  have hfr : ∀ k, k ≠ ob → (w1.setCell ⟨ob, i * 2 + 1, none⟩ v).heap[k]? = w1.heap[k]? := fun k hk => Below.heap_setCell _ _ _ _ hk
  refine ⟨h0, ⟨cur.setIfInBounds (i * 2 + 1) v, ?_, by simpa using h2, fun j hj => ?_⟩, fun j hj => ?_, fun j k hj hk' hne b hb => ?_⟩
  · exact heap_setCell_same w1 ob (i * 2 + 1) cur _ v (hob.trans h1)
  · obtain ⟨c0, c1⟩ := h5 j hj
    refine ⟨?_, ?_⟩
    · rw [Array.getElem?_setIfInBounds_ne (by omega)]; exact c0
    · by_cases e : j = i
      · subst e
        rw [Array.getElem?_setIfInBounds_self_of_lt (by omega)]; simp
      · rw [Array.getElem?_setIfInBounds_ne (by omega)]; simp only [e, if_false]; exact c1
  · by_cases e : j = i
    · simp only [e, if_true]
      exact ⟨ho.frame fun k hk => hfr k (fun e => hvob (e ▸ hk)), hvob⟩
    · simp only [e, if_false]
      obtain ⟨o1, o2⟩ := h3 j hj
      refine ⟨o1.frame fun k hk2 => ?_, o2⟩
      have hko : k ≠ ob := fun e => o2 (e ▸ hk2)
      rw [hfr k hko]
      exact hk k (o1.lt k hk2).1 (o1.lt k hk2).2 (fun e2 => h4 j i hj hi e k hk2 e2) hko
  · have hold : ∀ j, j < n → ∀ b, (vs j).ownBlock = some b → b < w.heap.size := fun j hj b hb => ((h3 j hj).1.lt b hb).2
    by_cases ej : j = i
    · simp only [ej, if_true] at hb
      have ek : k ≠ i := fun e => hne (ej.trans e.symm)
      simp only [ek, if_false]
      intro e2
      rcases hat b hb with e | e
      · exact h4 i k hi hk' (fun e3 => ek e3.symm) b e e2
      · have := hold k hk' b e2; omega
    · simp only [ej, if_false] at hb
      by_cases ek : k = i
      · simp only [ek, if_true]
        intro e2
        rcases hat b e2 with e | e
        · exact h4 j i hj hi ej b hb e
        · have := hold j hj b hb; omega
      · simp only [ek, if_false]
        exact h4 j k hj hk' hne b hb
/-- append of a row of bytes, in a drawn region -/
theorem wpCan_app_mrow {P : Program} {ops : Array Oper} {Q : Exit → Act → World → Prop} {S : World → Prop} {i : Nat} {r : List (Bool × Nat)} {a : Act} {w : World} {o : Oper} (ho : ops[i]? = some o) (hgd : o.guard = none) (s x : Operand) {T : TypeId}
    (hop : o.op = .call { callee := .builtin .append, args := #[s, x], argTypes := #[T, T] })
    {E : TypeId} (hE : EI P T E 1 1) (hEz : (P.info? E).map (fun i => i.zero) = some (some (.int .u8 0))) {base : Nat} {v : Value} {l : List UInt8} (hs : a.eval s = v) (hown : OwnM w base E v l)
    {t : List UInt8} {b off m : Nat} (hx : a.eval x = .slice (some ⟨b, off, none⟩) t.length m) (hnc : ∀ j u, (bcells t)[j]? = some u → w.cell? ⟨b, off + j, none⟩ = some u) (h63 : l.length + t.length ≤ 1000000000000) (hbase : base ≤ w.heap.size)
    (h : ∀ v' w', OwnM w' base E v' (l ++ t) → Hid (w.grownBy w' v.ownBlock) → Hid (At w.heap.size v v') → ∃ S' : World → Prop, S' w' ∧ (∀ u, S' u → S u) ∧ wpCan P ops Q r S' (a.put o.dst v') w') :
    wpCan P ops Q ((false, i) :: r) S a w := by
  refine ⟨o, ho, ?_⟩
  unfold canOp
  rw [if_pos (by simp [Region.wanted, hgd]), if_neg (by simp)]
  obtain ⟨v', w', hrun, h2, h3, h4⟩ := run_app_mrow (ty := o.type) hE hEz hown t hnc (m := m) h63 hbase
  unfold Oper.wp execOp
  simp only [hop, resolve, invoke, builtin, Sem.run_bind, Sem.run_pure, Result.andThen_ok, List.map_toArray, List.map_cons, List.map_nil, hs, hx, hrun]
  exact h v' w' h2 (Lib.hid h3) (Lib.hid h4)
end Go.Proofs.YtmmgfoepfapnkaaGreatDoor

namespace Go.Proofs.YtmmgfoepfapnkaaGreatDoor
open Go.RowKit
attribute [local go_sem] canOp readsAs readUpon

/-- bytes that grow while the tape is read -/
def Grow (w w' : World) (g B : Nat) (V v : Value) (l : List UInt8) : Prop := OwnM w' B 5 v l ∧ At w.heap.size V v ∧ TapeAt w' g ∧ (∀ k, k < w.heap.size → k ≠ g → V.ownBlock ≠ some k → w'.heap[k]? = w.heap[k]?) ∧ Below g w w' ∧ w.heap.size ≤ w'.heap.size
theorem Grow.aside {w w' w2 : World} {g B : Nat} {V v : Value} {l : List UInt8} (h : Grow w w' g B V v l) (ha : Aside g w' w2) (hT : TapeAt w2 g) (hg : g < B) : Grow w w2 g B V v l := by
  obtain ⟨h1, h2, _, h4, h5, h6⟩ := h
  exact ⟨ownM_aside h1 ha hg, h2, hT, fun k hk hkg hv => (ha.2.2 k (by omega) hkg).trans (h4 k hk hkg hv), h5.trans ha.1, Nat.le_trans h6 ha.2.1⟩
theorem Grow.grown {w w' w2 : World} {g B : Nat} {V v v2 : Value} {l l2 : List UInt8} (h : Grow w w' g B V v l) (hg : w'.grownBy w2 v.ownBlock) (hat : At w'.heap.size v v2) (ho : OwnM w2 B 5 v2 l2) (hgB : g < B) : Grow w w2 g B V v2 l2 := by
  obtain ⟨h1, h2, h3, h4, h5, h6⟩ := h
  have hlt := h3.lt
  refine ⟨ho, fun q hq => ?_, tape_grown h3 hg (fun k e => by have := (h1.lt k e).1; omega), fun k hk hkg hv => ?_, h5.grown hg (by omega) (fun k e => by have := (h1.lt k e).1; omega), Nat.le_trans h6 hg.size⟩
  · rcases hat q hq with e | e
    · exact h2 q e
    · exact .inr (by omega)
  · rw [hg.block k (by omega) (fun e => ?_)]
    · exact h4 k hk hkg hv
    · rcases h2 k e.symm with e2 | e2
      · exact hv e2
      · omega

set_option maxHeartbeats 4000000 in
set_option maxRecDepth 100000 in
theorem tinto_any (w : World) (g : Nat) (h : TapeAt w g) (B ob n C : Nat) (ps : Nat → List UInt8) (vs : Nat → Value) (ds : Nat → List UInt8) (hD : Docs w B ob n ps vs ds) (hgB : g < B) (hBw : B ≤ w.heap.size) (i : Nat) (hi : i < n) (info : List UInt8) (ls : List (List UInt8)) (A : Option Addr) (c k : Nat)
    (hR : RowE w (fun b => b < w.heap.size ∧ b ≠ g) 1 A ls.length (scells ls)) (hln : ls.length ≤ 6) (hs : ∀ s ∈ ls, s.length ≤ 40) (hil : info.length ≤ 100) (hdl : (ds i).length ≤ 1000000) :
    Calls Tryz.prog 48 #[.pointer (some ⟨g, 0, none⟩), .slice (some ⟨ob, 0, none⟩) n C, .int .i64 (i : Int), .string (bs info), .slice A ls.length c, .int .i64 (k : Int)] w fun e w' => e = .returned (.tuple #[]) ∧ ∃ v d, Docs w' B ob n ps (fun j => if j = i then v else vs j) (fun j => if j = i then d else ds j) ∧ d.length ≤ (ds i).length + 1100 ∧ TapeAt w' g ∧
      (∀ k, k < w.heap.size → k ≠ g → k ≠ ob → (vs i).ownBlock ≠ some k → w'.heap[k]? = w.heap[k]?) ∧ Below g w w' ∧ w.heap.size ≤ w'.heap.size := by
  have hglt := h.lt
  have hBw := hBw
  have hoblt := hD.lt
  have hD' := Lib.hid hD
  obtain ⟨h0, ⟨cur, b1, b2, b3⟩, b4, _⟩ := hD
  obtain ⟨ho, hne⟩ := b4 i hi
  obtain ⟨_, bc⟩ := b3 i hi
  obtain ⟨V, hV⟩ : ∃ V, vs i = V := ⟨_, rfl⟩
  obtain ⟨D, hDi⟩ : ∃ D, ds i = D := ⟨_, rfl⟩
  rw [hV, hDi] at ho
  rw [hV] at hne bc ⊢
  rw [hDi] at hdl ⊢
  have hcell : ∀ u : World, u.heap[ob]? = w.heap[ob]? → u.cell? ⟨ob, i * 2 + 1, none⟩ = some V := fun u hu => by rw [World.cell?_of_block hu, cell_of_row w ob (i * 2 + 1) cur _ _ b1]; exact bc
  have hp := fun w' h1 h2 => tpiece_any w' g h1 info ls A c k h2 hln hs hil
  have hG0 : Grow w w.drew g B V V D := ⟨ho, fun q e => .inl e, h.ext (ext_drew w), fun _ _ _ _ => rfl, below_drewN (Below.refl _ _) 1, Nat.le_refl _⟩
  obtain ⟨vA, vc, rfl, hvc⟩ := ho.shape
  have hpw := hp w.drew (h.ext (ext_drew w)) hR
  have hTw := Lib.hid h
  have hi0 : (0 : Int) ≤ (i : Int) := by omega
  have hi1 : (i : Int) < (n : Int) := by omega
  have hi2 : ¬ (n : Int) ≤ (i : Int) := by omega
  have hi3 : ¬ (i : Int) < 0 := by omega
  have hfz : ∀ u : World, u.heap[ob]? = w.heap[ob]? → u.frozen? ⟨ob, i * 2 + 1, none⟩ = false := fun u hu => by simp [World.frozen?, hu, b1]
  replace hfz := Lib.hid hfz
  replace hcell := Lib.hid hcell
  replace hG0 := Lib.hid hG0
  clear hp h b3 b4 bc b1 b2 hs hR
  go_enter Tryz.func48, Tryz.ntmps48
  go_wp2_with fail
  obtain ⟨St, hSt⟩ : ∃ St : World → Prop, Hid (∀ u, St u ↔ u.heap[ob]? = w.heap[ob]?) := ⟨_, Lib.hid fun _ => Iff.rfl⟩
  have hS0 : St w.drew := (hSt.out _).2 rfl
  refine wp_region_can [(true, 0), (true, 1), (true, 2), (true, 3), (true, 4), (true, 5), (true, 6), (true, 7), (true, 8), (false, 9), (false, 10), (true, 11)] St hS0 (by kernel_rfl) (by kernel_rfl) (by kernel_rfl) (fun _ _ d _ _ h => by cases d <;> exact h) ?_
  refine wpCan_move rfl ?_
  refine wpCan_move rfl ?_
  refine wpCan_cons rfl ?_
  intro K hK
  go_simp
  refine hK _ _ _ ?_
  clear hK K
  refine wpCan_cons rfl ?_
  intro K hK
  go_simp
  refine hK _ _ _ ?_
  clear hK K
  refine wpCan_read (.slice vA D.length vc) rfl rfl hS0 (fun u hu => by have z := hcell.out u ((hSt.out u).1 hu); go_simp) ?_
  refine wpCan_move rfl ?_
  refine wpCan_move rfl ?_
  refine wpCan_move rfl ?_
  refine wpCan_move rfl ?_
  refine wpCan_cons rfl ?_
  intro K hK
  go_simp
  refine hpw.mono ?_
  rintro e w2 ⟨pv, pl, rfl, hop, hpl, hT2, hA2⟩
  have hG2 := hG0.out.aside hA2 hT2 hgB
  have hSt2 : St w2 := (hSt.out _).2 (hA2.2.2 ob hoblt (by omega))
  refine ⟨St, hSt2, fun _ h => h, hK _ _ _ ?_⟩
  clear hK K
  obtain ⟨pA, pc, rfl, hpc⟩ := hop.shape
  obtain ⟨pg, rfl, hpg, hpg2, hcc⟩ := hop.cells
  refine wpCan_app_mrow rfl rfl (.tmp 17) (.tmp 22) rfl tpByteEI tpByteZ rfl hG2.1 rfl (fun j u hj => by rw [Nat.zero_add]; exact hcc j u hj) (by omega) (by have := hG2.2.2.2.2.2; omega) ?_
  intro v3 w3 ho3 hg3 hat3
  obtain ⟨L3, hL3⟩ : ∃ L3, D ++ pl = L3 := ⟨_, rfl⟩
  have hl3 : L3.length ≤ D.length + 1000 := by rw [← hL3, List.length_append]; omega
  rw [hL3] at ho3
  have hG3 := hG2.grown hg3.out hat3.out ho3 hgB
  have hSt3 : St w3 := (hSt.out _).2 (((hg3.out.block ob (by have := hG2.2.2.2.2.2; omega) (fun e => hne e.symm)).trans ((hSt.out _).1 hSt2)))
  refine ⟨St, hSt3, fun _ h => h, ?_⟩
  have hob3 := Lib.hid ((hSt.out _).1 hSt3)
  clear hG2 hg3 hat3 ho3 hcc hop hA2 hT2 hpw hL3
  refine wpCan_cons rfl ?_
  intro K hK
  go_simp
  refine hK _ _ _ ?_
  clear hK K
  refine wpCan_nil ?_
  clear hSt2 hSt3 hS0 hSt
  have hT3 := hG3.2.2.1
  obtain ⟨A3, c3, rfl, hc3⟩ := hG3.1.shape
  replace hG3 := Lib.hid hG3
  go_wp2_with fail
  refine (end_any w3 g hT3 k).mono ?_
  rintro e w4 ⟨s1, rfl, hs1, hT4, hA4⟩
  have hG4 := Lib.hid (hG3.out.aside hA4 hT4 hgB)
  have hob4 := Lib.hid ((hA4.2.2 ob (by have := hG3.out.2.2.2.2.2; omega) (by omega)).trans hob3.out)
  clear hG3 hA4 hob3 hT3 hT4
  go_wp2_with (
    at_builtin
    first
    | (
       refine wpList_app_mark rfl (.tmp 24) (.tmp 27) rfl tpByteEI tpByteZ Tryz.underlying9 rfl hG4.out.1 rfl (by omega) (by have := hG4.out.2.2.2.2.2; omega) ?_
       intro v5 w5 ho5 hg5 hat5
       obtain ⟨L5, hL5⟩ : ∃ L, L3 ++ s1 = L := ⟨_, rfl⟩
       have hl5 : L5.length ≤ D.length + 1010 := by rw [← hL5, List.length_append]; first | omega | (simp; omega)
       rw [hL5] at ho5
       have hG5 := hG4.out.grown hg5.out hat5.out ho5 hgB
       have hob5 := Lib.hid ((hg5.out.block ob (by have := hG4.out.2.2.2.2.2; omega) (fun e => by
         rcases hG4.out.2.1 ob e.symm with e2 | e2
         · exact hne e2
         · omega)).trans hob4.out)
       obtain ⟨A5, c5, rfl, hc5⟩ := hG5.1.shape
       replace hG5 := Lib.hid hG5
       clear hG4 hob4 hg5 hat5 ho5 hL5
      )
    | (
       refine wpList_app_mark (t := [98, 101, 116, 119, 101, 101, 110]) rfl (.tmp 28) (.const (.string ⟨#[98, 101, 116, 119, 101, 101, 110]⟩)) rfl tpByteEI tpByteZ Tryz.underlying9 rfl hG5.out.1 rfl (by simp; omega) (by have := hG5.out.2.2.2.2.2; omega) ?_
       intro v6 w6 ho6 hg6 hat6
       obtain ⟨L6, hL6⟩ : ∃ L, L5 ++ [98, 101, 116, 119, 101, 101, 110] = L := ⟨_, rfl⟩
       have hl6 : L6.length ≤ D.length + 1017 := by rw [← hL6, List.length_append]; first | omega | (simp; omega)
       rw [hL6] at ho6
       have hG6 := hG5.out.grown hg6.out hat6.out ho6 hgB
       have hob6 := Lib.hid ((hg6.out.block ob (by have := hG5.out.2.2.2.2.2; omega) (fun e => by
         rcases hG5.out.2.1 ob e.symm with e2 | e2
         · exact hne e2
         · omega)).trans hob5.out)
       obtain ⟨A6, c6, rfl, hc6⟩ := hG6.1.shape
       replace hG6 := Lib.hid hG6
       clear hG5 hob5 hg6 hat6 ho6 hL6
      ))
  refine (end_any w6 g hG6.out.2.2.1 k).mono ?_
  rintro e w7 ⟨s2, rfl, hs2, hT7, hA7⟩
  have hG7 := Lib.hid (hG6.out.aside hA7 hT7 hgB)
  have hob7 := Lib.hid ((hA7.2.2 ob (by have := hG6.out.2.2.2.2.2; omega) (by omega)).trans hob6.out)
  clear hG6 hA7 hob6 hT7
  go_wp2_with (at_builtin; refine wpList_app_mark rfl (.tmp 32) (.tmp 35) rfl tpByteEI tpByteZ Tryz.underlying9 rfl hG7.out.1 rfl (by omega) (by have := hG7.out.2.2.2.2.2; omega) ?_; intro v8 w8 ho8 hg8 hat8)
  obtain ⟨L8, hL8⟩ : ∃ L, L6 ++ s2 = L := ⟨_, rfl⟩
  have hl8 : L8.length ≤ D.length + 1027 := by rw [← hL8, List.length_append]; first | omega | (simp; omega)
  rw [hL8] at ho8
  have hG8 := hG7.out.grown hg8.out hat8.out ho8 hgB
  have hob8 := Lib.hid ((hg8.out.block ob (by have := hG7.out.2.2.2.2.2; omega) (fun e => by
    rcases hG7.out.2.1 ob e.symm with e2 | e2
    · exact hne e2
    · omega)).trans hob7.out)
  obtain ⟨A8, c8, rfl, hc8⟩ := hG8.1.shape
  replace hG8 := Lib.hid hG8
  clear hG7 hob7 hg8 hat8 ho8 hL8
  refine (end_any w8 g hG8.out.2.2.1 k).mono ?_
  rintro e w9 ⟨s3, rfl, hs3, hT9, hA9⟩
  have hG9 := Lib.hid (hG8.out.aside hA9 hT9 hgB)
  have hob9 := Lib.hid ((hA9.2.2 ob (by have := hG8.out.2.2.2.2.2; omega) (by omega)).trans hob8.out)
  clear hG8 hA9 hob8 hT9
  go_wp2_with (
    at_builtin
    refine wpList_app_mark rfl (.tmp 36) (.tmp 39) rfl tpByteEI tpByteZ Tryz.underlying9 rfl hG9.out.1 rfl (by omega) (by have := hG9.out.2.2.2.2.2; omega) ?_
    intro v10 w10 ho10 hg10 hat10
    obtain ⟨L10, hL10⟩ : ∃ L, L8 ++ s3 = L := ⟨_, rfl⟩
    have hl10 : L10.length ≤ D.length + 1037 := by rw [← hL10, List.length_append]; first | omega | (simp; omega)
    rw [hL10] at ho10
    have hG10 := hG9.out.grown hg10.out hat10.out ho10 hgB
    have hob10 := Lib.hid ((hg10.out.block ob (by have := hG9.out.2.2.2.2.2; omega) (fun e => by
      rcases hG9.out.2.1 ob e.symm with e2 | e2
      · exact hne e2
      · omega)).trans hob9.out)
    obtain ⟨A10, c10, rfl, hc10⟩ := hG10.1.shape
    replace hG10 := Lib.hid hG10
    clear hG9 hob9 hg10 hat10 ho10 hL10
    have z10 := hcell.out w10 hob10.out
    have f10 := hfz.out w10 hob10.out)
  go_returns
  have hset := Docs.set (w1 := w10) (v := .slice A10 L10.length c10) (d := L10) hD'.out hi (fun k hBk hk hv _ => hG10.out.2.2.2.1 k hk (by omega) (by rw [← hV]; exact hv)) hob10.out hG10.out.1 (by rw [hV]; exact hG10.out.2.1) rfl
  exact ⟨rfl, _, _, hset, by omega, hG10.out.2.2.1.below ((Below.refl _ _).setCell (p := ⟨ob, i * 2 + 1, none⟩) (by show g + 1 ≤ ob; omega) _), fun k hk hkg hko hv => (Below.heap_setCell _ _ _ _ hko).trans (hG10.out.2.2.2.1 k hk hkg hv), hG10.out.2.2.2.2.1.setCell (p := ⟨ob, i * 2 + 1, none⟩) (by show g ≤ ob; omega) _, by have := hG10.out.2.2.2.2.2; simpa using this⟩
/-- a tape's good documents, under way -/
def DG (w0 w : World) (g ob n M : Nat) (ps : Nat → List UInt8) : Prop := ∃ vs ds, Docs w w0.heap.size ob n ps vs ds ∧ (∀ i, i < n → (ds i).length ≤ M) ∧ TapeAt w g ∧ Aside g w0 w
theorem DG.aside {w0 w w' : World} {g ob n M : Nat} {ps : Nat → List UInt8} (h : DG w0 w g ob n M ps) (ha : Aside g w w') (hT : TapeAt w' g) (hg : g < w0.heap.size) : DG w0 w' g ob n M ps := by
  obtain ⟨vs, ds, h1, h2, _, h4⟩ := h
  exact ⟨vs, ds, h1.aside ha hg, h2, hT, h4.trans ha⟩
theorem into_dg (w0 w : World) (g ob n C M : Nat) (ps : Nat → List UInt8) (hD : DG w0 w g ob n M ps) (hg : g < w0.heap.size) (hM : M ≤ 1000000) (i : Nat) (hi : i < n) (info : List UInt8) (ls : List (List UInt8)) (A : Option Addr) (c k : Nat)
    (hR : RowE w (fun b => b < w.heap.size ∧ b ≠ g) 1 A ls.length (scells ls)) (hln : ls.length ≤ 6) (hs : ∀ s ∈ ls, s.length ≤ 40) (hil : info.length ≤ 100) :
    Calls Tryz.prog 48 #[.pointer (some ⟨g, 0, none⟩), .slice (some ⟨ob, 0, none⟩) n C, .int .i64 (i : Int), .string (bs info), .slice A ls.length c, .int .i64 (k : Int)] w fun e w' => e = .returned (.tuple #[]) ∧ DG w0 w' g ob n (M + 1100) ps := by
  obtain ⟨vs, ds, h1, h2, h3, h4⟩ := hD
  refine (tinto_any w g h3 w0.heap.size ob n C ps vs ds h1 hg h4.2.1 i hi info ls A c k hR hln hs hil (by have := h2 i hi; omega)).mono ?_
  rintro e w' ⟨rfl, v, d, k1, k2, k3, k4, k5, k6⟩
  refine ⟨rfl, _, _, k1, fun j hj => ?_, k3, h4.1.trans k5, Nat.le_trans h4.2.1 k6, fun b hb hbg => ?_⟩
  · have := h2 i hi
    have := h2 j hj
    by_cases e : j = i
    · simp only [e, if_true]; omega
    · simp only [e, if_false]; omega
  · have hob := h1.1
    have hs := h4.2.1
    exact (k4 b (by omega) hbg (by omega) (fun e => by have := ((h1.2.2.1 i hi).1.lt b e).1; omega)).trans (h4.2.2 b hb hbg)
set_option maxHeartbeats 1000000 in
set_option maxRecDepth 100000 in
theorem tlast_any (w0 w : World) (g ob n C M : Nat) (ps : Nat → List UInt8) (hD : DG w0 w g ob n M ps) (hg : g < w0.heap.size) (hM : M ≤ 1000000) (hn : 0 < n) (hn9 : n ≤ 1000000) (info : List UInt8) (ls : List (List UInt8)) (A : Option Addr) (c k : Nat)
    (hR : RowE w (fun b => b < w.heap.size ∧ b ≠ g) 1 A ls.length (scells ls)) (hln : ls.length ≤ 6) (hs : ∀ s ∈ ls, s.length ≤ 40) (hil : info.length ≤ 100) :
    Calls Tryz.prog 30 #[.pointer (some ⟨g, 0, none⟩), .slice (some ⟨ob, 0, none⟩) n C, .string (bs info), .slice A ls.length c, .int .i64 (k : Int)] w fun e w' => e = .returned (.tuple #[]) ∧ DG w0 w' g ob n (M + 1100) ps := by
  obtain ⟨m, hm⟩ : ∃ m, n - 1 = m := ⟨_, rfl⟩
  have hi := into_dg w0 w g ob n C M ps hD hg hM m (by omega) info ls A c k hR hln hs hil
  have hn1 : (n : Int) - 1 = (m : Int) := by omega
  clear hm hn
  replace hD := Lib.hid hD
  replace hR := Lib.hid hR
  replace hs := Lib.hid hs
  go_enter Tryz.func30, Tryz.ntmps30
  go_wp2_with fail
  refine hi.mono ?_
  rintro e w' ⟨rfl, hD2⟩
  go_wp2_with fail
  go_returns
  exact ⟨rfl, hD2⟩
set_option maxHeartbeats 1000000 in
set_option maxRecDepth 100000 in
theorem tput_any (w0 w : World) (g ob n C M : Nat) (ps : Nat → List UInt8) (hD : DG w0 w g ob n M ps) (hg : g < w0.heap.size) (hM : M ≤ 1000000) (hn : 0 < n) (hn9 : n ≤ 1000000) (info : List UInt8) (ls : List (List UInt8)) (A : Option Addr) (c k : Nat)
    (hR : RowE w (fun b => b < w.heap.size ∧ b ≠ g) 1 A ls.length (scells ls)) (hln : ls.length ≤ 6) (hs : ∀ s ∈ ls, s.length ≤ 40) (hil : info.length ≤ 100) :
    Calls Tryz.prog 27 #[.pointer (some ⟨g, 0, none⟩), .slice (some ⟨ob, 0, none⟩) n C, .string (bs info), .slice A ls.length c, .int .i64 (k : Int)] w fun e w' => e = .returned (.tuple #[]) ∧ DG w0 w' g ob n (M + 1100) ps := by
  have hT := hD
  obtain ⟨_, _, _, _, hT, _⟩ := hT
  have hnx := next_of w g hT n hn9 (n : Int) rfl
  replace hD := Lib.hid hD
  replace hR := Lib.hid hR
  replace hs := Lib.hid hs
  go_enter Tryz.func27, Tryz.ntmps27
  go_wp2_with fail
  refine hnx.mono ?_
  rintro e w1 ⟨r, rfl, hr, hT1, hA1⟩
  have hi := into_dg w0 w1 g ob n C M ps (hD.out.aside hA1 hT1 hg) hg hM r (by omega) info ls A c k (hR.out.frame (fun b hq => hA1.2.2 b hq.1 hq.2) (fun b hq => ⟨Nat.lt_of_lt_of_le hq.1 hA1.2.1, hq.2⟩)) hln hs.out hil
  go_wp2_with fail
  refine hi.mono ?_
  rintro e w' ⟨rfl, hD2⟩
  go_wp2_with fail
  go_returns
  exact ⟨rfl, hD2⟩
end Go.Proofs.YtmmgfoepfapnkaaGreatDoor

namespace Go.Proofs.YtmmgfoepfapnkaaGreatDoor
open Go.RowKit

/-- the first k of n documents -/
def DocsK (w : World) (B ob n k : Nat) (ps : Nat → List UInt8) (vs : Nat → Value) (ds : Nat → List UInt8) : Prop :=
  B ≤ ob ∧ (∃ cur : Array Value, w.heap[ob]? = some (.cells cur 33 (0, 0)) ∧ cur.size = n * 2 ∧ ∀ i, i < k → cur[i * 2]? = some (.string (bs (ps i))) ∧ cur[i * 2 + 1]? = some (vs i)) ∧
  (∀ i, i < k → OwnM w B 5 (vs i) (ds i) ∧ (vs i).ownBlock ≠ some ob) ∧ ∀ i j, i < k → j < k → i ≠ j → ∀ b, (vs i).ownBlock = some b → (vs j).ownBlock ≠ some b
theorem DocsK.lt {w : World} {B ob n k : Nat} {ps : Nat → List UInt8} {vs : Nat → Value} {ds : Nat → List UInt8} (h : DocsK w B ob n k ps vs ds) : ob < w.heap.size := by
  obtain ⟨_, ⟨cur, h1, _⟩, _⟩ := h
  exact (Array.getElem?_eq_some_iff.1 h1).1
theorem DocsK.aside {w w' : World} {B ob n k g : Nat} {ps : Nat → List UInt8} {vs : Nat → Value} {ds : Nat → List UInt8} (h : DocsK w B ob n k ps vs ds) (ha : Aside g w w') (hg : g < B) : DocsK w' B ob n k ps vs ds := by
  have hl := h.lt
  obtain ⟨h0, ⟨cur, h1, h2⟩, h3, h4⟩ := h
  exact ⟨h0, ⟨cur, (ha.2.2 ob hl (by omega)).trans h1, h2⟩, fun i hi => ⟨ownM_aside (h3 i hi).1 ha hg, (h3 i hi).2⟩, h4⟩
theorem DocsK.made (w : World) (B n : Nat) (hB : B ≤ w.heap.size) (z : Array Value) (ps : Nat → List UInt8) (vs : Nat → Value) (ds : Nat → List UInt8) : DocsK (w.alloc (.cells (madeCells z (n * 2)) 33)) B w.heap.size n 0 ps vs ds :=
  ⟨hB, ⟨_, heap_alloc_new w _, size_madeCells _ _, fun _ hi => by omega⟩, fun _ hi => by omega, fun _ _ hi => by omega⟩
/-- a path, stored -/
theorem DocsK.path {w : World} {B ob n k : Nat} {ps : Nat → List UInt8} {vs : Nat → Value} {ds : Nat → List UInt8} (h : DocsK w B ob n k ps vs ds) (hk : k < n) (v : Value) : DocsK (w.setCell ⟨ob, k * 2, none⟩ v) B ob n k ps vs ds ∧ (w.setCell ⟨ob, k * 2, none⟩ v).cell? ⟨ob, k * 2, none⟩ = some v := by
  obtain ⟨h0, ⟨cur, h1, h2, h5⟩, h3, h4⟩ := h
  have hfr : ∀ j, j ≠ ob → (w.setCell ⟨ob, k * 2, none⟩ v).heap[j]? = w.heap[j]? := fun j hj => Below.heap_setCell _ _ _ _ hj
  have hn := heap_setCell_same w ob (k * 2) cur _ v h1
  refine ⟨⟨h0, ⟨cur.setIfInBounds (k * 2) v, hn, by simpa using h2, fun i hi => ?_⟩, fun i hi => ?_, h4⟩, ?_⟩
  · obtain ⟨c0, c1⟩ := h5 i hi
    exact ⟨by rw [Array.getElem?_setIfInBounds_ne (by omega)]; exact c0, by rw [Array.getElem?_setIfInBounds_ne (by omega)]; exact c1⟩
  · exact ⟨(h3 i hi).1.frame fun b hb => hfr b (fun e => (h3 i hi).2 (e ▸ hb)), (h3 i hi).2⟩
  · rw [cell_of_row _ ob (k * 2) _ _ _ hn, Array.getElem?_setIfInBounds_self_of_lt (by omega)]
/-- its bytes, stored -/
theorem DocsK.more {w : World} {B ob n k : Nat} {ps : Nat → List UInt8} {vs : Nat → Value} {ds : Nat → List UInt8} {v : Value} {d : List UInt8} (h : DocsK w B ob n k ps vs ds) (hk : k < n) (hp : w.cell? ⟨ob, k * 2, none⟩ = some (.string (bs (ps k))))
    (ho : OwnM w B 5 v d) (hvo : v.ownBlock ≠ some ob) (hnew : ∀ i, i < k → ∀ b, (vs i).ownBlock = some b → v.ownBlock ≠ some b) :
    DocsK (w.setCell ⟨ob, k * 2 + 1, none⟩ v) B ob n (k + 1) ps (fun j => if j = k then v else vs j) (fun j => if j = k then d else ds j) := by
  obtain ⟨h0, ⟨cur, h1, h2, h5⟩, h3, h4⟩ := h
  have hfr : ∀ j, j ≠ ob → (w.setCell ⟨ob, k * 2 + 1, none⟩ v).heap[j]? = w.heap[j]? := fun j hj => Below.heap_setCell _ _ _ _ hj
  have hpc : cur[k * 2]? = some (.string (bs (ps k))) := by rw [← cell_of_row w ob (k * 2) cur _ _ h1]; exact hp
  refine ⟨h0, ⟨cur.setIfInBounds (k * 2 + 1) v, heap_setCell_same w ob (k * 2 + 1) cur _ v h1, by simpa using h2, fun j hj => ?_⟩, fun j hj => ?_, fun i j hi hj hne b hb => ?_⟩
  · by_cases e : j = k
    · subst e
      exact ⟨by rw [Array.getElem?_setIfInBounds_ne (by omega)]; exact hpc, by rw [Array.getElem?_setIfInBounds_self_of_lt (by omega)]; simp⟩
    · obtain ⟨c0, c1⟩ := h5 j (by omega)
      exact ⟨by rw [Array.getElem?_setIfInBounds_ne (by omega)]; exact c0, by rw [Array.getElem?_setIfInBounds_ne (by omega)]; simp only [e, if_false]; exact c1⟩
  · by_cases e : j = k
    · simp only [e, if_true]
      exact ⟨ho.frame fun b hb => hfr b (fun e2 => hvo (e2 ▸ hb)), hvo⟩
    · simp only [e, if_false]
      obtain ⟨o1, o2⟩ := h3 j (by omega)
      exact ⟨o1.frame fun b hb => hfr b (fun e2 => o2 (e2 ▸ hb)), o2⟩
  · by_cases ei : i = k
    · have ej : j ≠ k := fun e => hne (ei.trans e.symm)
      simp only [ei, if_true] at hb
      simp only [ej, if_false]
      intro e2
      exact hnew j (by omega) b e2 hb
    · simp only [ei, if_false] at hb
      by_cases ej : j = k
      · simp only [ej, if_true]
        exact hnew i (by omega) b hb
      · simp only [ej, if_false]
        exact h4 i j (by omega) (by omega) hne b hb
theorem pairs_len (a b : Nat → Value) : ∀ n, ((List.range n).map fun i => [a i, b i]).flatten.length = n * 2
  | 0 => rfl
  | n + 1 => by
    rw [List.range_succ, List.map_append, List.flatten_append, List.length_append, pairs_len a b n]
    simp
    omega
theorem pairs_at (a b : Nat → Value) : ∀ (n j : Nat) (u : Value), ((List.range n).map fun i => [a i, b i]).flatten[j]? = some u → ∃ i, i < n ∧ ((j = i * 2 ∧ u = a i) ∨ (j = i * 2 + 1 ∧ u = b i))
  | 0, j, u, h => by simp at h
  | n + 1, j, u, h => by
    have hl := pairs_len a b n
    rw [List.range_succ, List.map_append, List.flatten_append, List.getElem?_append] at h
    split at h
    · obtain ⟨i, hi, h2⟩ := pairs_at a b n j u h
      exact ⟨i, by omega, h2⟩
    · rw [hl] at h
      have he : (List.map (fun i => [a i, b i]) [n]).flatten = [a n, b n] := rfl
      rw [he] at h
      refine ⟨n, by omega, ?_⟩
      have hj : j - n * 2 < 2 := (List.getElem?_eq_some_iff.1 h).1
      have hc : j - n * 2 = 0 ∨ j - n * 2 = 1 := by omega
      rcases hc with e | e
      · rw [e] at h
        exact .inl ⟨by omega, by simpa using h.symm⟩
      · rw [e] at h
        exact .inr ⟨by omega, by simpa using h.symm⟩
theorem els_range {E : Type} {P : E → List Value → Prop} (f : Nat → E) (c : Nat → List Value) : ∀ n, (∀ i, i < n → P (f i) (c i)) → Els P ((List.range n).map f) ((List.range n).map c)
  | 0, _ => rfl
  | n + 1, h => by
    rw [List.range_succ, List.map_append, List.map_append]
    exact Els.snoc (els_range f c n fun i hi => h i (by omega)) (h n (by omega))
/-- all documents, as a row of them -/
theorem DG.srow {w0 w : World} {g ob n M : Nat} {ps : Nat → List UInt8} (h : DG w0 w g ob n M ps) : ∃ (l : List Ck.Src) (css : List (List Value)), SRow w w.heap.size (some ⟨ob, 0, none⟩) n l css ∧ ∀ s ∈ l, s.data.length ≤ M ∧ ∃ i, i < n ∧ s.path = ps i := by
  obtain ⟨vs, ds, hd, hm, _, _⟩ := h
  have hob := hd.lt
  obtain ⟨h0, ⟨cur, h1, h2, h5⟩, h3, _⟩ := hd
  refine ⟨(List.range n).map fun i => ⟨ps i, ds i⟩, (List.range n).map fun i => [.string (bs (ps i)), vs i], ⟨by simp, ⟨pairs_len _ _ n, fun _ => ⟨ob, 0, rfl, hob, fun j u hj => ?_⟩⟩, els_range _ _ n fun i hi => ?_⟩, fun s hs => ?_⟩
  · obtain ⟨i, hi, hu⟩ := pairs_at _ _ n j u hj
    obtain ⟨c0, c1⟩ := h5 i hi
    rw [Nat.zero_add, cell_of_row w ob j cur _ _ h1]
    rcases hu with ⟨rfl, rfl⟩ | ⟨rfl, rfl⟩
    · exact c0
    · exact c1
  · obtain ⟨o1, _⟩ := h3 i hi
    obtain ⟨A, c, e, hc⟩ := o1.shape
    rw [e] at o1
    exact ⟨A, c, by rw [e]; rfl, hc, o1.row⟩
  · obtain ⟨i, hi, rfl⟩ := List.mem_map.1 hs
    have hin := List.mem_range.1 hi
    exact ⟨hm i hin, i, hin, rfl⟩
end Go.Proofs.YtmmgfoepfapnkaaGreatDoor

namespace Go.Proofs.YtmmgfoepfapnkaaGreatDoor
open Go.RowKit
attribute [local go_sem] canOp readsAs readUpon

theorem Aside.set_above {g : Nat} {a b : World} (h : Aside g a b) {k : Nat} (hk : a.heap.size ≤ k) (hg : g < a.heap.size) (j : Nat) (v : Value) : Aside g a (b.setCell ⟨k, j, none⟩ v) :=
  ⟨h.1.setCell (p := ⟨k, j, none⟩) (by show g ≤ k; omega) v, by simpa using h.2.1, fun i hi hig => (Below.heap_setCell _ _ _ _ (by show i ≠ k; omega)).trans (h.2.2 i hi hig)⟩

/-- the documents' paths -/
def tpPath (i : Nat) : List UInt8 := if i = 0 then [97, 46, 109, 100] else if i = 1 then [98, 46, 109, 100] else [99, 46, 109, 100]
theorem tpPath_len (i : Nat) : (tpPath i).length ≤ 10 := by unfold tpPath; split <;> (try split) <;> simp

set_option maxHeartbeats 4000000 in
set_option maxRecDepth 100000 in
theorem good_any (w : World) (g : Nat) (h : TapeAt w g) (st : Bool) :
    Calls Tryz.prog 9 #[.pointer (some ⟨g, 0, none⟩), .bool st] w fun e w' => ∃ (A : Option Addr) (n c : Nat) (l : List Ck.Src) (css : List (List Value)), e = .returned (.slice A n c) ∧ SRow w' w'.heap.size A n l css ∧ n ≤ c ∧ n ≤ 3 ∧ (∀ s ∈ l, s.data.length ≤ 20000 ∧ s.path.length ≤ 10) ∧ TapeAt w' g ∧ Aside g w w' := by
  have hglt := h.lt
  have hmk := fun n hn w => run_mk srcEI (z := .agg #[.string ⟨#[]⟩, .slice none 0 0]) (by kernel_rfl) n hn (by omega) w
  go_enter Tryz.func9, Tryz.ntmps9
  go_wp2_with fail
  refine (next_of w g h 3 (by omega) 3 rfl).mono ?_
  rintro e w1 ⟨r1, rfl, hr1, hT1, hA1⟩
  go_wp2_with fail
  refine (next_of w1 g hT1 4 (by omega) 4 rfl).mono ?_
  rintro e w2 ⟨r2, rfl, hr2, hT2, hA2⟩
  go_wp2_with fail
  refine (next_of w2 g hT2 2 (by omega) 2 rfl).mono ?_
  rintro e w3 ⟨r3, rfl, hr3, hT3, hA3⟩
  have hA := (hA1.trans hA2).trans hA3
  clear hT1 hT2 hA1 hA2 hA3 h
  obtain ⟨n, hn⟩ : ∃ n, 1 + r1 = n := ⟨_, rfl⟩
  have hn1 : (1 : Int) + (r1 : Int) = (n : Int) := by omega
  have hn3 : n ≤ 3 := by omega
  have hn0 : 0 < n := by omega
  have hmkn := hmk n (by omega)
  clear hmk hn
  go_wp2_with fail
  have hb4 := ext_alloc w3 (.cells (madeCells #[.string ⟨#[]⟩, .slice none 0 0] (n * 2)) 33)
  have hD4 := DocsK.made w3 w.heap.size n hA.2.1 #[.string ⟨#[]⟩, .slice none 0 0] tpPath (fun _ => .slice none 0 0) (fun _ => [])
  have hT4 := hT3.ext hb4
  have hA4 := hA.trans (Aside.of_ext hb4 hT3.lt)
  obtain ⟨w4, hw4⟩ : ∃ w4, w3.alloc (.cells (madeCells #[.string ⟨#[]⟩, .slice none 0 0] (n * 2)) 33) = w4 := ⟨_, rfl⟩
  rw [hw4] at hD4 hT4 hA4 ⊢
  obtain ⟨ob, hob⟩ : ∃ ob, w3.heap.size = ob := ⟨_, rfl⟩
  rw [hob] at hD4 ⊢
  have hobw : w.heap.size ≤ ob := by rw [← hob]; exact hA.2.1
  clear hw4 hb4 hmkn hA hT3 hob
  refine (next_of w4 g hT4 2 (by omega) 2 rfl).mono ?_
  rintro e w5 ⟨kd, rfl, hkd, hT5, hA5⟩
  have hD5 := Lib.hid (hD4.aside hA5 hglt)
  have hA5' := Lib.hid (hA4.trans hA5)
  replace hT5 := Lib.hid hT5
  clear hD4 hA4 hA5 hT4
  go_wp2_with fail
  go_loopw [30] (fun u wr => ∃ (k : Nat) (vs : Nat → Value) (ds : Nat → List UInt8), k ≤ n ∧ u = .int .i64 (k : Int) ∧ Hid (DocsK wr w.heap.size ob n k tpPath vs ds) ∧ Hid (∀ i, i < k → (ds i).length ≤ 100) ∧ Hid (TapeAt wr g) ∧ Hid (Aside g w wr)) (fun u _ => n - (intOf u).toNat)
  case atStart => exact ⟨0, _, _, by omega, rfl, hD5, Lib.hid (fun _ hi => by omega), hT5, hA5'⟩
  case round =>
    obtain ⟨k, vs, ds, hk, rfl, hD, hds, hT, hA⟩ := hrel
    rcases Nat.lt_or_ge k n with hlt | hge
    · have hk2 : k = 0 ∨ k = 1 ∨ k = 2 := by omega
      have hpc : (#[.string ⟨#[97, 46, 109, 100]⟩, .string ⟨#[98, 46, 109, 100]⟩, .string ⟨#[99, 46, 109, 100]⟩] : Array Value)[k]? = some (.string (bs (tpPath k))) := by
        rcases hk2 with rfl | rfl | rfl <;> rfl
      have hL := heap_alloc_new wr (.cells #[.string ⟨#[97, 46, 109, 100]⟩, .string ⟨#[98, 46, 109, 100]⟩, .string ⟨#[99, 46, 109, 100]⟩] 9)
      have hbL := ext_alloc wr (.cells #[.string ⟨#[97, 46, 109, 100]⟩, .string ⟨#[98, 46, 109, 100]⟩, .string ⟨#[99, 46, 109, 100]⟩] 9)
      have hTL := hT.out.ext hbL
      have hDL := hD.out.aside (Aside.of_ext hbL hT.out.lt) hglt
      have hAL := hA.out.trans (Aside.of_ext hbL hT.out.lt)
      have zl := cell12 hL hpc
      obtain ⟨wl, hwl⟩ : ∃ wl, wr.alloc (.cells #[.string ⟨#[97, 46, 109, 100]⟩, .string ⟨#[98, 46, 109, 100]⟩, .string ⟨#[99, 46, 109, 100]⟩] 9) = wl := ⟨_, rfl⟩
      rw [hwl] at hL hTL hDL hAL zl
      obtain ⟨_, ⟨cur, q1, q2, _⟩, _⟩ := id hDL
      have zo : ∃ u, wl.cell? ⟨ob, k * 2, none⟩ = some u := ⟨cur[k * 2]'(by omega), by rw [cell_of_row wl ob (k * 2) cur _ _ q1, Array.getElem?_eq_getElem (by omega)]⟩
      obtain ⟨u0, zo⟩ := zo
      have zf : wl.frozen? ⟨ob, k * 2, none⟩ = false := by simp [World.frozen?, q1]
      have hi0 : (0 : Int) ≤ (k : Int) := by omega
      have hi1 : (k : Int) < (n : Int) := by omega
      have hi2 : ¬ (n : Int) ≤ (k : Int) := by omega
      have hi3 : ¬ (k : Int) < 0 := by omega
      have hi4 : (k : Int) < 3 := by omega
      have hi5 : ¬ (3 : Int) ≤ (k : Int) := by omega
      have hDp := Lib.hid (hDL.path hlt (.string (bs (tpPath k))))
      have hTp := Lib.hid (hTL.below ((Below.refl (g + 1) wl).setCell (p := ⟨ob, k * 2, none⟩) (by show g + 1 ≤ ob; omega) (.string (bs (tpPath k)))))
      have hAp := Lib.hid (hAL.set_above hobw hglt (k * 2) (.string (bs (tpPath k))))
      clear hL hTL hDL hAL hbL q1 q2 hD hT hA hpc
      obtain ⟨wp, hwp⟩ : ∃ wp, wl.setCell ⟨ob, k * 2, none⟩ (.string (bs (tpPath k))) = wp := ⟨_, rfl⟩
      rw [hwp] at hDp hTp hAp
      go_wp2_with fail
      try rw [hwp]
      refine (end_any wp g hTp.out kd).mono ?_
      rintro e w6 ⟨s1, rfl, hs1, hT6, hA6⟩
      have hp6 := (hA6.2.2 ob hDp.out.1.lt (by omega))
      have hD6 := hDp.out.1.aside hA6 hglt
      have hc6 := (World.cell?_of_block (a := ⟨ob, k * 2, none⟩) hp6).trans hDp.out.2
      have hA6' := Lib.hid (hAp.out.trans hA6)
      replace hD6 := Lib.hid hD6
      replace hc6 := Lib.hid hc6
      clear hp6 hwp hDp hAp hTp zo zf zl hA6 hwl
      have z1 := bs_size s1
      have z4 : (⟨#[116, 101, 120, 116]⟩ : ByteArray).size = 4 := rfl
      obtain ⟨t1, ht1, ht1l⟩ : ∃ t1 : List UInt8, (⟨#[116, 101, 120, 116]⟩ : ByteArray) ++ bs s1 = bs t1 ∧ t1.length ≤ 4 + s1.length := ⟨[116, 101, 120, 116] ++ s1, by rw [← bs_append]; rfl, by simp; omega⟩
      have z5 := bs_size t1
      have hno1 : ¬ 9223372036854775807 < 4 + s1.length := by omega
      go_wp2_with fail
      refine (end_any w6 g hT6 kd).mono ?_
      rintro e w7 ⟨s2, rfl, hs2, hT7, hA7⟩
      have hp7 := (hA7.2.2 ob hD6.out.lt (by omega))
      have hD7 := Lib.hid (hD6.out.aside hA7 hglt)
      have hc7 := Lib.hid ((World.cell?_of_block (a := ⟨ob, k * 2, none⟩) hp7).trans hc6.out)
      have hA7' := Lib.hid (hA6'.out.trans hA7)
      replace hT7 := Lib.hid hT7
      clear hp7 hD6 hc6 hA7 hT6 hA6'
      have z2 := bs_size s2
      obtain ⟨t2, ht2, ht2l⟩ : ∃ t2 : List UInt8, bs t1 ++ bs s2 = bs t2 ∧ t2.length ≤ t1.length + s2.length := ⟨t1 ++ s2, by rw [← bs_append], by simp⟩
      have hno2 : ¬ 9223372036854775807 < t1.length + s2.length := by omega
      have hrb := run_bytes t2 w7
      have hbw : Below w7.heap.size w7 (Lib.bytesWorld w7 5 (bs t2)) := ⟨rfl, rfl, rfl, by rw [Lib.bytesWorld_size]; omega, fun k hk => Lib.bytesWorld_at_old w7 _ (bs t2) k hk⟩
      have ha8 := bytes_aside g 5 t2 hT7.out.lt
      have hob7 := hD7.out.lt
      have hD8 := hD7.out.aside ha8 hglt
      have hc8 := (World.cell?_of_block (a := ⟨ob, k * 2, none⟩) (hbw.block ob hob7)).trans hc7.out
      have hT8 := hT7.out.ext hbw
      have hA8 := hA7'.out.trans ha8
      have ho8 := OwnM.new w7 5 t2 (by omega) w.heap.size hA7'.out.2.1
      have hD9 := Lib.hid (hD8.more hlt hc8 ho8 (by simp [Value.ownBlock]; omega) (fun i hi b hb => by have := ((hD7.out.2.2.1 i hi).1.lt b hb).2; simp [Value.ownBlock]; omega))
      have hds9 : Hid (∀ i, i < k + 1 → ((fun j => if j = k then t2 else ds j) i).length ≤ 100) := Lib.hid (fun i hi => by
        by_cases e : i = k
        · simp only [e, if_true]; omega
        · simp only [e, if_false]; exact hds.out i (by omega))
      obtain ⟨_, ⟨cur8, q1, q2, _⟩, _⟩ := id hD8
      obtain ⟨u8, zo8⟩ : ∃ u, (Lib.bytesWorld w7 5 (bs t2)).cell? ⟨ob, k * 2 + 1, none⟩ = some u := ⟨cur8[k * 2 + 1]'(by omega), by rw [cell_of_row _ ob (k * 2 + 1) cur8 _ _ q1, Array.getElem?_eq_getElem (by omega)]⟩
      have zf8 : (Lib.bytesWorld w7 5 (bs t2)).frozen? ⟨ob, k * 2 + 1, none⟩ = false := by simp [World.frozen?, q1]
      have hT9 := Lib.hid (hT8.below ((Below.refl (g + 1) _).setCell (p := ⟨ob, k * 2 + 1, none⟩) (by show g + 1 ≤ ob; omega) (.slice (some ⟨w7.heap.size, 0, none⟩) t2.length (grownCap w7 t2.length 0 5))))
      have hA9 := Lib.hid (hA8.set_above hobw hglt (k * 2 + 1) (.slice (some ⟨w7.heap.size, 0, none⟩) t2.length (grownCap w7 t2.length 0 5)))
      clear hbw ha8 hD8 hc8 hT8 hA8 ho8 q1 q2
      go_wp2_with fail
      go_roundw
      case rel => exact ⟨k + 1, _, _, by omega, by go_num, hD9, hds9, hT9, hA9⟩
      case measure => simp [intOf]; omega
    · have hkn : k = n := by omega
      subst hkn
      have hki : ¬ (k : Int) < (k : Int) := by omega
      have hG0 : Hid (DG w wr g ob k 100 tpPath) := Lib.hid ⟨vs, ds, hD.out, hds.out, hT.out, hA.out⟩
      clear hD hds hT hA
      obtain ⟨nf, hnf⟩ : ∃ nf, 1 + r3 = nf := ⟨_, rfl⟩
      obtain ⟨nn, hnn⟩ : ∃ nn, 1 + r2 = nn := ⟨_, rfl⟩
      have hnfi : (1 : Int) + (r3 : Int) = (nf : Int) := by omega
      have hnni : (1 : Int) + (r2 : Int) = (nn : Int) := by omega
      have hnf2 : nf ≤ 2 := by omega
      have hnn4 : nn ≤ 4 := by omega
      have hnn0 : 0 < nn := by omega
      clear hnf hnn
      go_wp2_with fail
      go_loopw [11] (fun u w2 => ∃ m : Nat, m ≤ nf ∧ u = .int .i64 (m : Int) ∧ Hid (DG w w2 g ob k (100 + m * 1100) tpPath)) (fun u _ => nf - (intOf u).toNat)
      case atStart => exact ⟨0, by omega, rfl, hG0⟩
      case round =>
        obtain ⟨m, hm, rfl, hG⟩ := hrel
        rcases Nat.lt_or_ge m nf with hlt | hge
        · have hmi : (m : Int) < (nf : Int) := by omega
          have hrn := fun w => tp_rune (n := 48 + m) (r := 48 + (m : Int)) (by omega) w
          have hel := enc_low (n := 48 + m) (by omega)
          obtain ⟨E, hE⟩ : ∃ E, Lib.encodeRune ((48 + m : Nat) : Int) = E := ⟨_, rfl⟩
          rw [hE] at hrn hel
          have zE := bs_size E
          clear hE
          have z6 : (⟨#[102, 105, 108, 101, 61, 102]⟩ : ByteArray).size = 6 := rfl
          obtain ⟨ta, hta, hza⟩ : ∃ t : List UInt8, (⟨#[102, 105, 108, 101, 61, 102]⟩ : ByteArray) ++ bs E = bs t ∧ t.length ≤ 20 := tp_text_of (by simp only [ByteArray.size_append, zE, z6]; omega)
          have zta := bs_size ta
          have hno : ¬ 9223372036854775807 < 6 + E.length := by omega
          obtain ⟨_, _, _, _, hTg, _⟩ := id hG.out
          go_wp2_with fail
          refine (tp_style _ g hTg st).mono ?_
          rintro e w6 ⟨sy, rfl, hsy, hT6, hA6⟩
          have hG6 := Lib.hid (hG.out.aside hA6 hT6 hglt)
          have zsy := bs_size sy
          obtain ⟨tb, htb, hzb⟩ : ∃ t : List UInt8, bs ta ++ bs sy = bs t ∧ t.length ≤ 60 := tp_text_of (by simp only [ByteArray.size_append, zta, zsy]; omega)
          have hno2 : ¬ 9223372036854775807 < ta.length + sy.length := by omega
          clear hA6 hTg hG hno
          go_wp2_with fail
          refine (body_any w6 g hT6 0 nn (by omega) (by omega) 0 nn rfl rfl).mono ?_
          rintro e w7 ⟨vb, lb, rfl, hob7, hlb, hlbs, hT7, hA7⟩
          obtain ⟨bA, bc, rfl, hbc⟩ := own_shape hob7
          have hlt6 := hT6.lt
          have hs6 := hA7.2.1
          clear hT6
          go_wp2_with (
            at_builtin
            refine wpList_app_new rfl (.tmp 73) (.tmp 74) rfl textEI rfl hob7 rfl rfl rfl (by intro u hu; simp only [List.mem_singleton] at hu; subst hu; rfl) (by omega) (by omega) (by omega) ?_
            intro v9 w9 hown9 hg9 hb9
            have hA9 := aside_grown hA7 hg9.out hlt6 (fun k e => (hob7.lt k e).1)
            have hT9 := tape_grown hT7 hg9.out (fun k e => by have := (hob7.lt k e).1; omega)
            have hG9 := hG6.out.aside hA9 hT9 hglt
            have hrm := row_more (t := [60, 60, 110, 48, 62, 62]) hown9
            have hl9s : ∀ s ∈ lb ++ [[60, 60, 110, 48, 62, 62]], s.length ≤ 40 := fun s hs => by
              rcases List.mem_append.1 hs with h | h
              · have := hlbs s h; omega
              · rw [List.mem_singleton.1 h]; simp
            have hl9n : (lb ++ [[60, 60, 110, 48, 62, 62]]).length ≤ 6 := by simp; omega
            obtain ⟨l9, hl9⟩ : ∃ l9, lb ++ [[60, 60, 110, 48, 62, 62]] = l9 := ⟨_, rfl⟩
            rw [hl9] at hrm hl9s hl9n
            obtain ⟨A9, c9, rfl, hc9⟩ := own_shape hrm
            have hput := tput_any w w9 g ob k k (100 + m * 1100) tpPath hG9 hglt (by omega) (by omega) (by omega) tb l9 A9 c9 kd ((own_q hrm).frame (fun _ _ => rfl) (fun b hq => ⟨hq.2, by have := hq.1; omega⟩)) hl9n hl9s (by omega)
            replace hput := Lib.hid hput
            clear hrm hl9 hown9 hg9 hb9 hA9 hT9 hG9 hob7 hA7 hT7 hG6 hl9s)
          refine hput.out.mono ?_
          rintro e w8 ⟨rfl, hD2⟩
          rw [show 100 + m * 1100 + 1100 = 100 + (m + 1) * 1100 from by omega] at hD2
          replace hD2 := Lib.hid hD2
          clear hput
          go_wp2_with fail
          go_roundw
          case rel => exact ⟨m + 1, by omega, by go_num, hD2⟩
          case measure => simp [intOf]; omega
        · have hmn : m = nf := by omega
          subst hmn
          have hmi : ¬ (m : Int) < (m : Int) := by omega
          clear hge
          go_wp2_with fail
          go_loopw [12] (fun u w2 => ∃ m2 : Nat, m2 ≤ nn ∧ u = .int .i64 (m2 : Int) ∧ Hid (DG w w2 g ob k (100 + m * 1100 + m2 * 1100) tpPath)) (fun u _ => nn - (intOf u).toNat)
          case atStart => exact ⟨0, by omega, rfl, hG⟩
          case round =>
            clear hG
            obtain ⟨m2, hm2, rfl, hG⟩ := hrel
            rcases Nat.lt_or_ge m2 nn with hlt | hge
            · have hmi2 : (m2 : Int) < (nn : Int) := by omega
              have hrn := fun w => tp_rune (n := 48 + m2) (r := 48 + (m2 : Int)) (by omega) w
              have hel := enc_low (n := 48 + m2) (by omega)
              obtain ⟨E, hE⟩ : ∃ E, Lib.encodeRune ((48 + m2 : Nat) : Int) = E := ⟨_, rfl⟩
              rw [hE] at hrn hel
              have zE := bs_size E
              clear hE
              have z6 : (⟨#[110, 97, 109, 101, 61, 110]⟩ : ByteArray).size = 6 := rfl
              obtain ⟨ta, hta, hza⟩ : ∃ t : List UInt8, (⟨#[110, 97, 109, 101, 61, 110]⟩ : ByteArray) ++ bs E = bs t ∧ t.length ≤ 20 := tp_text_of (by simp only [ByteArray.size_append, zE, z6]; omega)
              have zta := bs_size ta
              have hno : ¬ 9223372036854775807 < 6 + E.length := by omega
              obtain ⟨_, _, _, _, hTg, _⟩ := id hG.out
              go_wp2_with fail
              refine (tp_style _ g hTg st).mono ?_
              rintro e w6 ⟨sy, rfl, hsy, hT6, hA6⟩
              have hG6 := Lib.hid (hG.out.aside hA6 hT6 hglt)
              have zsy := bs_size sy
              obtain ⟨tb, htb, hzb⟩ : ∃ t : List UInt8, bs ta ++ bs sy = bs t ∧ t.length ≤ 60 := tp_text_of (by simp only [ByteArray.size_append, zta, zsy]; omega)
              have hno2 : ¬ 9223372036854775807 < ta.length + sy.length := by omega
              clear hA6 hTg hG hno
              go_wp2_with fail
              refine (body_any w6 g hT6 (m2 + 1) nn (by omega) (by omega) ((m2 : Int) + 1) nn (by omega) rfl).mono ?_
              rintro e w7 ⟨vb, lb, rfl, hob7, hlb, hlbs, hT7, hA7⟩
              have hG7 := hG6.out.aside hA7 hT7 hglt
              obtain ⟨bA, bc, rfl, hbc⟩ := own_shape hob7
              have hlt6 := hT6.lt
              have hput := tput_any w w7 g ob k k (100 + m * 1100 + m2 * 1100) tpPath hG7 hglt (by omega) (by omega) (by omega) tb lb bA bc kd ((own_q hob7).frame (fun _ _ => rfl) (fun b hq => ⟨hq.2, by have := hq.1; omega⟩)) (by omega) (fun s hs => by have := hlbs s hs; omega) (by omega)
              replace hput := Lib.hid hput
              clear hG7 hob7 hA7 hT7 hG6 hT6
              go_wp2_with fail
              refine hput.out.mono ?_
              rintro e w8 ⟨rfl, hD2⟩
              rw [show 100 + m * 1100 + m2 * 1100 + 1100 = 100 + m * 1100 + (m2 + 1) * 1100 from by omega] at hD2
              replace hD2 := Lib.hid hD2
              clear hput
              go_wp2_with fail
              go_roundw
              case rel => exact ⟨m2 + 1, by omega, by go_num, hD2⟩
              case measure => simp [intOf]; omega
            · have hmn : m2 = nn := by omega
              subst hmn
              have hmi2 : ¬ (m2 : Int) < (m2 : Int) := by omega
              clear hge
              obtain ⟨M0, hM0⟩ : ∃ M0, 100 + m * 1100 + m2 * 1100 = M0 := ⟨_, rfl⟩
              have hMb : M0 ≤ 7000 := by omega
              rw [hM0] at hG
              clear hM0
              obtain ⟨_, _, _, _, hTg, _⟩ := id hG.out
              go_wp2_with fail
              refine (next_of _ g hTg 3 (by omega) 3 rfl).mono ?_
              rintro e w5 ⟨c0, rfl, hc0, hT5, hA5⟩
              have hG5 := Lib.hid (hG.out.aside hA5 hT5 hglt)
              clear hG hTg hA5 hT5
              go_wp2_with fail
              go_loopw [13] (fun u w2 => ∃ cn x : Nat, x + cn ≤ 2 ∧ u = .int .i64 (cn : Int) ∧ Hid (DG w w2 g ob k (M0 + x * 1100) tpPath)) (fun u _ => (intOf u).toNat)
              case atStart => exact ⟨c0, 0, by omega, rfl, hG5⟩
              case round =>
                clear hG5
                obtain ⟨cn, x, hcx, rfl, hG⟩ := hrel
                obtain ⟨_, _, _, _, hTg, _⟩ := id hG.out
                rcases Nat.eq_zero_or_pos cn with rfl | hcp
                · obtain ⟨_, _, _, _, _, hAg⟩ := id hG.out
                  obtain ⟨l, css, hsr, hls⟩ := hG.out.srow
                  go_wp2_with fail
                  go_ret
                  exact ⟨_, k, k, l, css, rfl, hsr, Nat.le_refl _, by omega, fun s hs => ⟨by have := (hls s hs).1; omega, by obtain ⟨_, i, _, e⟩ := hls s hs; rw [e]; exact tpPath_len i⟩, hTg, hAg⟩
                · have hcpi : (0 : Int) < (cn : Int) := by omega
                  go_wp2_with fail
                  refine (next_of _ g hTg m2 (by omega) (m2 : Int) rfl).mono ?_
                  rintro e w5 ⟨ix, rfl, hix, hT5, hA5⟩
                  have hG5 := Lib.hid (hG.out.aside hA5 hT5 hglt)
                  have hrn := fun w => tp_rune (n := 48 + ix) (r := 48 + (ix : Int)) (by omega) w
                  have hel := enc_low (n := 48 + ix) (by omega)
                  obtain ⟨E, hE⟩ : ∃ E, Lib.encodeRune ((48 + ix : Nat) : Int) = E := ⟨_, rfl⟩
                  rw [hE] at hrn hel
                  have zE := bs_size E
                  clear hE hG hTg hA5
                  have z6 : (⟨#[110, 97, 109, 101, 61, 110]⟩ : ByteArray).size = 6 := rfl
                  have z7 : (⟨#[32, 97, 112, 112, 101, 110, 100]⟩ : ByteArray).size = 7 := rfl
                  obtain ⟨ta, hta, hza⟩ : ∃ t : List UInt8, (⟨#[110, 97, 109, 101, 61, 110]⟩ : ByteArray) ++ bs E = bs t ∧ t.length ≤ 20 := tp_text_of (by simp only [ByteArray.size_append, zE, z6]; omega)
                  have zta := bs_size ta
                  obtain ⟨tb, htb, hzb⟩ : ∃ t : List UInt8, bs ta ++ (⟨#[32, 97, 112, 112, 101, 110, 100]⟩ : ByteArray) = bs t ∧ t.length ≤ 60 := tp_text_of (by simp only [ByteArray.size_append, zta, z7]; omega)
                  have hno : ¬ 9223372036854775807 < 6 + E.length := by omega
                  have hno2 : ¬ 9223372036854775807 < ta.length + 7 := by omega
                  have hix2 : ix < m2 := by omega
                  clear hix
                  go_wp2_with fail
                  refine (body_any w5 g hT5 (ix + 1) m2 (by omega) (by omega) ((ix : Int) + 1) m2 (by omega) rfl).mono ?_
                  rintro e w7 ⟨vb, lb, rfl, hob7, hlb, hlbs, hT7, hA7⟩
                  have hG7 := hG5.out.aside hA7 hT7 hglt
                  obtain ⟨bA, bc, rfl, hbc⟩ := own_shape hob7
                  have hlt5 := hT5.lt
                  have hput := tlast_any w w7 g ob k k (M0 + x * 1100) tpPath hG7 hglt (by omega) (by omega) (by omega) tb lb bA bc kd ((own_q hob7).frame (fun _ _ => rfl) (fun b hq => ⟨hq.2, by have := hq.1; omega⟩)) (by omega) (fun s hs => by have := hlbs s hs; omega) (by omega)
                  replace hput := Lib.hid hput
                  clear hG7 hob7 hA7 hT7 hG5 hT5
                  go_wp2_with fail
                  refine hput.out.mono ?_
                  rintro e w8 ⟨rfl, hD2⟩
                  rw [show M0 + x * 1100 + 1100 = M0 + (x + 1) * 1100 from by omega] at hD2
                  replace hD2 := Lib.hid hD2
                  clear hput
                  go_wp2_with fail
                  go_roundw
                  case rel => exact ⟨cn - 1, x + 1, by omega, congrArg (Value.int .i64) (by omega), hD2⟩
                  case measure => simp [intOf]; omega
end Go.Proofs.YtmmgfoepfapnkaaGreatDoor
