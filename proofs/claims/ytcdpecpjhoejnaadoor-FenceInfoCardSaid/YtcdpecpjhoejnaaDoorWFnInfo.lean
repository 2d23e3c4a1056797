/- FenceInfo: an info is told without what is around it; one with the fence's own sign is none behind `. -/
import Derived.Test.YtcdpecpjhoejnaaDoorFnKnown
import Derived.Test.YtcdpecpjhoejnaaDoorFnLines
import Derived.Laws.Bits128
namespace Go.Proofs.YtcdpecpjhoejnaaDoor
open Go.RowKit

theorem and3 (n : Int) : bits .and .i64 n 3 = n % 4 := by
  have h127 : (BitVec.ofInt 64 3).toNat = 2 ^ 2 - 1 := by decide
  have key : (BitVec.ofInt 64 n &&& BitVec.ofInt 64 3).toNat = (n % ((2 ^ 64 : Nat) : Int)).toNat % 2 ^ 2 := by
    rw [BitVec.toNat_and, BitVec.toNat_ofInt, h127, Nat.and_two_pow_sub_one_eq_mod]
  show IntKind.i64.wrap ((BitVec.ofInt 64 n &&& BitVec.ofInt 64 3).toNat : Nat) = n % 4
  rw [key, IntKind.wrap_i64]
  omega

/-- a rune made a text -/
theorem run_rune (r : Int) (w : World) : (convert 21 9 (.int .i32 r)).run Tryd.prog w = .ok (.string (bs (Lib.encodeRune r))) w := by
  rw [run_convert_int_string w 21 9 .i32 r (by kernel_rfl) Tryd.underlying9, Ru.encode_eq]
  rfl

theorem rune_clean {x : Nat} (_hv : Ru.vr x) (h : 32 < x) (h1 : x ≠ 126) (h2 : x ≠ 96) : Fn.clean (Lib.encodeRune (x : Int)) := by
  intro b hbx
  obtain ⟨z, hz, he⟩ := List.mem_map.1 hbx
  have hby := Lib.encodeRuneZ_byte (x : Int) z hz
  have hz0 : z.toNat.toUInt8.toNat = z.toNat := Ru.ofNat_toNat' z hby.1 hby.2
  have hzz : z ≠ 32 ∧ z ≠ 9 ∧ z ≠ 96 ∧ z ≠ 126 := by
    unfold Lib.encodeRuneZ at hz
    split at hz
    · simp at hz; omega
    · split at hz
      · simp at hz; omega
      · split at hz
        · simp at hz; omega
        · split at hz
          · simp at hz; omega
          · simp at hz; omega
  rw [he] at hz0
  have hne : ∀ n : UInt8, z ≠ (n.toNat : Int) → b ≠ n := by
    intro n hn hb
    subst hb
    apply hn; omega
  have n32 := hne 32 hzz.1
  have n9 := hne 9 hzz.2.1
  exact ⟨by simp [Cl.isGap, n32, n9], hne 96 hzz.2.2.1, hne 126 hzz.2.2.2⟩
theorem clean_app {s t : List UInt8} (h : Fn.clean s) (k : Fn.clean t) : Fn.clean (s ++ t) := by
  intro b hb
  rcases List.mem_append.1 hb with hb | hb
  · exact h b hb
  · exact k b hb

/-- so many of one sign, cut off a longer row of it -/
theorem run_tildes {N k : Nat} {s : ByteArray} (hs : bs (List.replicate N 126) = s) {v : Int} (hv : v = (k : Int)) (h : k ≤ N) (w : World) :
    (Instr.slice 9 (.string s) none (some (.int .i64 v)) none).run Tryd.prog w = .ok (.string (bs (List.replicate k 126))) w := by
  subst hs hv
  have := run_upto (S := List.replicate N 126) (i := k) (by simpa using h) w
  rwa [List.take_replicate, Nat.min_eq_left h] at this

theorem next_rune {l : List UInt8} {pos : Nat} (_h : pos < l.length) : ∃ x k : Nat, 1 ≤ k ∧ Ru.vr x ∧ Utf8.decode (bs l) pos = (x, k) := by
  have hd := runes_next.decodeL_drop' l pos
  refine ⟨(Utf8.decode (bs l) pos).1, (Utf8.decode (bs l) pos).2, ?_, ?_, rfl⟩
  · rw [← hd]; exact Lib.decodeL_width _
  · rw [← hd]; exact Ru.decodeL_vr _

abbrev beginsCall (t : ByteArray) (v : Value) : Prop :=
  ∀ w, Calls Tryd.prog 14 #[.string t] w fun e w' => e = .returned v ∧ Below w.heap.size w w'

theorem info_facts {s : List UInt8} (h : Fn.clean s) (hl : s.length ≤ 100) (m : Nat) (hm : m ≤ 3) :
    beginsCall (bs (List.replicate (3 + m) 126) ++ ⟨#[32, 9]⟩ ++ bs s ++ ⟨#[32]⟩) (.tuple #[.agg #[.int .u8 126, .int .i64 (3 + (m : Int)), .int .i64 0, .string (bs s)], .bool true]) ∧
    beginsCall (⟨#[96, 96, 96]⟩ ++ bs s) (.tuple #[.agg #[.int .u8 96, .int .i64 3, .int .i64 0, .string (bs s)], .bool true]) ∧
    beginsCall (⟨#[96, 96, 96, 120]⟩ ++ bs s ++ ⟨#[96]⟩) (.tuple #[.agg #[.int .u8 0, .int .i64 0, .int .i64 0, .string ⟨#[]⟩], .bool false]) ∧
    beginsCall (⟨#[126, 126, 126, 32]⟩ ++ bs s ++ ⟨#[126]⟩) (.tuple #[.agg #[.int .u8 126, .int .i64 3, .int .i64 0, .string (bs s ++ ⟨#[126]⟩)], .bool true]) := by
  have e := fun (T : List UInt8) (o : Option Fn.Op) (t : ByteArray) (v : Value) (ht : bs T = t) (hl : T.length ≤ 1000) (h : Fn.begins T = o) (hv : begv o = v) w =>
    begins_at T t o v ht h hv (by omega) w
  refine ⟨e _ _ _ _ ?_ ?_ (Fn.info_one h (k := 3 + m) (by omega)) ?_, e _ _ _ _ ?_ ?_ (Fn.info_two h) rfl, e _ _ _ _ ?_ ?_ (Fn.info_three s) rfl, e _ _ _ _ ?_ ?_ (Fn.info_four h) ?_⟩
  · rw [show (⟨#[32, 9]⟩ : ByteArray) = bs [32, 9] from rfl, show (⟨#[32]⟩ : ByteArray) = bs [32] from rfl, bs_append, bs_append, bs_append]
    simp only [List.append_assoc]
  · simp; omega
  · have hcast : ((3 + m : Nat) : Int) = 3 + (m : Int) := by omega
    simp only [begv, opv, hcast]
    rfl
  · rw [show (⟨#[96, 96, 96]⟩ : ByteArray) = bs [96, 96, 96] from rfl, bs_append]
  · simp; omega
  · rw [show (⟨#[96, 96, 96, 120]⟩ : ByteArray) = bs [96, 96, 96, 120] from rfl, show (⟨#[96]⟩ : ByteArray) = bs [96] from rfl, bs_append, bs_append]
    simp
  · simp; omega
  · rw [show (⟨#[126, 126, 126, 32]⟩ : ByteArray) = bs [126, 126, 126, 32] from rfl, show (⟨#[126]⟩ : ByteArray) = bs [126] from rfl, bs_append, bs_append]
    simp
  · simp; omega
  · simp only [begv, opv]
    rw [show (⟨#[126]⟩ : ByteArray) = bs [126] from rfl, bs_append]
    rfl

set_option maxHeartbeats 8000000 in
set_option maxRecDepth 100000 in
theorem info_law (n : Int) (l : List UInt8) (w : World) (_h1 : -9223372036854775808 ≤ n ∧ n ≤ 9223372036854775807) (_hl : l.length ≤ 140737488351232) :
    Calls Tryd.prog 7 #[.int .i64 n, .string (bs l)] w fun e w' => e = .returned (.bool true) ∧ Below w.heap.size w w' := by
  obtain ⟨m, hm7, hm⟩ : ∃ m : Nat, bits .and .i64 n 3 = (m : Int) ∧ m ≤ 3 := ⟨(n % 4).toNat, by rw [and3]; omega, by omega⟩
  have hwr3 : IntKind.i64.wrap (3 + (m : Int)) = 3 + (m : Int) := by rw [IntKind.wrap_i64]; omega
  have hs2 := run_tildes (N := 9) (k := 3 + m) (s := ⟨#[126, 126, 126, 126, 126, 126, 126, 126, 126]⟩) rfl (v := 3 + (m : Int)) (by omega) (by omega)
  go_enter Tryd.func7, Tryd.ntmps7
  go_wp2_with fail
  go_loopw [5] (fun v wr => ∃ (pos : Nat) (s : List UInt8), s.length ≤ 43 ∧ Hid (Fn.clean s) ∧ v = .string (bs s) ∧ Hid (wr.heap[w.heap.size]? = some (.stringIter (bs l) pos)) ∧ Below w.heap.size w wr)
    (fun _ wr => l.length - wr.iterPos w.heap.size)
  case atStart => exact ⟨0, [], by simp, Lib.hid (by intro b hb; cases hb), rfl, Lib.hid (iter_new _ _ _ rfl), ext_alloc _ _⟩
  case round =>
    obtain ⟨pos, s, hsl, hcl, rfl, hit, hb⟩ := hrel
    have hz := bs_size s
    by_cases hp : pos < l.length
    · obtain ⟨x, k, hk, hv, hd⟩ := next_rune hp
      have hnx := run_next_rune hit.out hp hd
      replace hd := Lib.hid hd
      have hit2 := Lib.hid (Lib.iterAt_heap wr w.heap.size (bs l) pos (pos + k) hit.out)
      have hb2 := Lib.below_iterAt hb (k := w.heap.size) (Nat.le_refl _) (bs l) (pos + k)
      have hpos : Hid (wr.iterPos w.heap.size = pos) := Lib.hid (by simp only [World.iterPos, hit.out])
      have hpos2 : Hid ((wr.iterAt w.heap.size (bs l) (pos + k)).iterPos w.heap.size = pos + k) := Lib.hid (by simp only [World.iterPos, hit2.out])
      have hcv := run_rune (x : Int)
      have hel := Ru.encodeRune_len (x : Int)
      have hez := bs_size (Lib.encodeRune (x : Int))
      have hways : (32 < x ∧ ((x : Int) != 126) = true ∧ ((x : Int) != 96) = true ∧ s.length < 40) ∨ ¬ 32 < x ∨ (32 < x ∧ ((x : Int) != 126) = false) ∨ (32 < x ∧ ((x : Int) != 126) = true ∧ ((x : Int) != 96) = false) ∨ (32 < x ∧ ((x : Int) != 126) = true ∧ ((x : Int) != 96) = true ∧ ¬ s.length < 40) := by
        by_cases a : 32 < x
        · by_cases b : ((x : Int) != 126) = true
          · by_cases c : ((x : Int) != 96) = true
            · by_cases d : s.length < 40
              · exact .inl ⟨a, b, c, d⟩
              · exact .inr (.inr (.inr (.inr ⟨a, b, c, d⟩)))
            · exact .inr (.inr (.inr (.inl ⟨a, b, by simpa using c⟩)))
          · exact .inr (.inr (.inl ⟨a, by simpa using b⟩))
        · exact .inr (.inl a)
      rcases hways with ⟨a, b, c, d⟩ | a | ⟨a, b⟩ | ⟨a, b, c⟩ | ⟨a, b, c, d⟩
      · have hcl2 : Hid (Fn.clean (s ++ Lib.encodeRune (x : Int))) := Lib.hid (clean_app hcl.out (rune_clean hv a (by intro h; subst h; simp at b) (by intro h; subst h; simp at c)))
        have hlen : (s ++ Lib.encodeRune (x : Int)).length ≤ 43 := by rw [List.length_append]; omega
        obtain ⟨E, hE⟩ : ∃ E, Lib.encodeRune (x : Int) = E := ⟨_, rfl⟩
        rw [hE] at hcv hel hez hcl2 hlen
        clear hE
        go_wp2_with fail
        go_roundw
        case rel => exact ⟨pos + k, s ++ E, hlen, hcl2, by rw [bs_append], hit2, hb2⟩
        case measure => rw [hpos.out, hpos2.out]; omega
      all_goals
        go_wp2_with fail
        go_roundw
        case rel => exact ⟨pos + k, s, hsl, hcl, rfl, hit2, hb2⟩
        case measure => rw [hpos.out, hpos2.out]; omega
    · have hnx := run_next_done hit.out hp
      obtain ⟨q1, q2, q3, q4⟩ := info_facts hcl.out (by omega) m hm
      have z1 : (bs (List.replicate (3 + m) 126)).size = 3 + m := by rw [bs_size, List.length_replicate]
      replace hb := Lib.hid hb
      go_wp2_with fail
      refine (q1 _).mono ?_
      rintro e w1 ⟨rfl, hb1⟩
      replace hb1 := Lib.hid (hb.out.trans (hb1.mono hb.out.size))
      go_wp2_with fail
      refine (q2 _).mono ?_
      rintro e w2 ⟨rfl, hb2⟩
      have f2 := Lib.hid (blk hb2)
      replace hb2 := Lib.hid (ext_trans hb1.out (ext_trans (ext_alloc _ _) hb2))
      go_wp2_with fail
      refine (q3 _).mono ?_
      rintro e w3 ⟨rfl, hb3⟩
      have p3 := Lib.hid (blk hb3)
      have f3 := Lib.hid (keep f2.out (ext_trans (ext_alloc _ _) hb3)).1
      replace hb3 := Lib.hid (ext_trans hb2.out (ext_trans (ext_alloc _ _) hb3))
      go_wp2_with fail
      refine (q4 _).mono ?_
      rintro e w4 ⟨rfl, hb4⟩
      have p4 := Lib.hid (keep p3.out (ext_trans (ext_alloc _ _) hb4)).1
      have f4 := Lib.hid (keep f3.out (ext_trans (ext_alloc _ _) hb4)).1
      have g4 := (keep f3.out (ext_trans (ext_alloc _ _) hb4)).2
      have g5 := (keep p3.out (ext_trans (ext_alloc _ _) hb4)).2
      replace hb4 := Lib.hid (ext_trans hb3.out (ext_trans (ext_alloc _ _) hb4))
      obtain ⟨a0, a1, a2, a3⟩ := four f4.out
      obtain ⟨b0, b1, b2, b3⟩ := four p4.out
      go_wp2_with fail
      refine (known_any _).mono ?_
      rintro e w5 ⟨rfl, hb5⟩
      replace hb5 := Lib.hid (ext_trans hb4.out (ext_trans (ext_alloc _ _) hb5))
      go_wp2
      go_returns
      exact ⟨by simp, hb5.out⟩
end Go.Proofs.YtcdpecpjhoejnaaDoor
