/-
  P6.1, P6.2: each datum begins in the text where it says. No condition.
-/
import Derived.Test.YtkhcaejijlaohaaDoorReadLaws1
import Derived.IntWalk
namespace Go.Proofs.YtkhcaejijlaohaaDoor
open Go.RowKit
namespace RX
open LX
/-- Where a datum stands in s. -/
structure AtN (s : ByteArray) (x : Nd) : Prop where
  lt : x.at_.toNat < s.size
  int : x.kind = 1 → s[x.at_.toNat] = 45 ∨ dig s[x.at_.toNat] = true
  bool : x.kind = 2 → s[x.at_.toNat] = 35
  name : x.kind = 3 → (s[x.at_.toNat] = 39 ∧ x.s = quoteB) ∨ (x.at_.toNat + x.s.size ≤ s.size ∧ s.extract x.at_.toNat (x.at_.toNat + x.s.size) = x.s)
  list : x.kind = 4 → s[x.at_.toNat] = 40 ∨ s[x.at_.toNat] = 39
def AtP (s : ByteArray) (p : Pt) : Prop := ∃ h : p.at_.toNat < s.size, s[p.at_.toNat] = 40 ∨ s[p.at_.toNat] = 39
theorem byte_of {s : ByteArray} {p : Nat} {c : UInt8} {l : List UInt8} (hp : p < s.size) (h : s.extract p (p + (c :: l).length) = str (c :: l)) : s[p] = c := by
  rw [LW.cut_str, LW.drop_cons s p hp] at h
  have h2 := congrArg bts h
  rw [bts_str, bts_str, List.length_cons, List.take_succ_cons] at h2
  injection h2
theorem at_brings {s : ByteArray} {ts : List Tk} (h : lex s = .ok ts) : ∀ t ∈ ts, Brings (AtN s) (AtP s) t := by
  have hlt : ∀ t, InT s t → t.at_.toNat < s.size := fun t hi => by have := hi.lt; have := hi.pos; omega
  have hby : ∀ t, InT s t → ∀ c l, tkB t = str (c :: l) → t.kind ≠ 4 → ∀ hh : t.at_.toNat < s.size, s[t.at_.toNat] = c := fun t hi c l e hk hh => by
    have := (hi.fits hk).2
    rw [e, str_size] at this
    exact byte_of hh this
  refine brings _ _ h ?_ ?_ ?_ ?_ ?_
  · intro t hi hk ⟨hh, hb⟩
    exact ⟨hh, fun _ => hb, fun e => by simp at e, fun e => by simp at e, fun e => by simp at e⟩
  · intro t hi hk
    have hh := hlt t hi
    refine ⟨hh, fun e => by simp at e, fun _ => ?_, fun e => by simp at e, fun e => by simp at e⟩
    by_cases h1 : t.n = 1
    · exact hby t hi 35 [116] (by unfold tkB; simp [hk, h1]; rfl) (by omega) hh
    · exact hby t hi 35 [102] (by unfold tkB; simp [hk, h1]; rfl) (by omega) hh
  · intro t hi hk
    have hh := hlt t hi
    refine ⟨hh, fun e => by simp at e, fun e => by simp at e, fun _ => .inr ?_, fun e => by simp at e⟩
    have ht : tkB t = t.s := by unfold tkB; simp [hk]
    obtain ⟨g1, g2⟩ := hi.fits (by omega)
    rw [ht] at g1 g2
    have := hi.pos
    exact ⟨by simp only; omega, g2⟩
  · intro t hi hk b l
    have hh := hlt t hi
    exact ⟨hh, .inl (hby t hi 40 [] (by unfold tkB; simp [hk]; rfl) (by omega) hh)⟩
  · intro t hi hk
    have hh := hlt t hi
    have h39 := hby t hi 39 [] (by unfold tkB; simp [hk]; rfl) (by omega) hh
    exact ⟨fun b l => ⟨hh, .inr h39⟩, ⟨hh, fun e => by simp at e, fun e => by simp at e, fun _ => .inl ⟨h39, rfl⟩, fun e => by simp at e⟩⟩
theorem read_at {s : ByteArray} {r : Rd} (h : read s = .ok r) : ∀ x ∈ r.row, GoodN x ∧ AtN s x :=
  (read_inv (P := AtN s) (Q := AtP s) (fun _ _ _ _ h => h) (fun p ⟨h1, h2⟩ l => ⟨h1, fun e => by simp at e, fun e => by simp at e, fun e => by simp at e, fun _ => h2⟩) h (fun _ hl => at_brings hl)).1.good
end RX
namespace RW6
open LX RX LW
theorem slice_both (s z : ByteArray) (a b : Int) (m n : Nat) (h : s.extract m n = z) (ha : a = (m : Int)) (hb : b = (n : Int)) (h1 : m ≤ n) (h2 : n ≤ s.size) (W : World) : (Instr.slice 9 (.string s) (some (.int .i64 a)) (some (.int .i64 b)) none).run Tryd.prog W = .ok (.string z) W := by
  subst h ha hb
  simp [Instr.slice, Instr.sliceBounds, Instr.sliceBound, asIntOf, run_underlying Tryd.underlying9, h1, h2]
theorem sq_yes {a : ByteArray} {l : List UInt8} (h : a = str l) : (a.toList == l) = true := by rw [h, LW.list_eq, bts_str]; simp
theorem sq_no {a : ByteArray} {l : List UInt8} (h : a ≠ str l) : (a.toList == l) = false := by
  rw [beq_eq_false_iff_ne, LW.list_eq]
  intro e
  exact h (by rw [← e, str_bts])
set_option maxHeartbeats 4000000 in
set_option maxRecDepth 20000 in
theorem at_any (s : ByteArray) (w : World) : Calls Tryd.prog 9 #[.string s] w fun e w' => e = .returned (.bool true) ∧ Below w.heap.size w w' := by
  have HS := Lib.hid shown_any
  by_cases h5 : 1000 < s.size
  · go_enter Tryd.func9, Tryd.ntmps9
    go_wp2_with (go_at_call 10; refine (HS.out _).mono ?_; rintro e w1 ⟨rfl, hF1⟩)
    go_ret
    exact ⟨rfl, hF1.below_nil⟩
  · have H1 := Lib.hid (RC6.read_any s (by omega))
    cases hR : RX.read s with
    | error px =>
      rw [hR] at H1
      obtain ⟨p, x⟩ := px
      have de := read_errne hR
      have de1 : ¬ (x = 0) := by rwa [beq_eq_false_iff_ne] at de
      have de2 : (x != 0) = true := by simp [bne, de]
      clear hR
      go_enter Tryd.func9, Tryd.ntmps9
      go_wp2_with (first
        | (go_at_call 10; refine (HS.out _).mono ?_; rintro e w1 ⟨rfl, hF1⟩; have HF1 := Lib.hid hF1; clear hF1)
        | (go_at_call 11; refine (H1.out _).mono ?_; rintro e w2 ⟨rfl, hF2⟩; have HF2 := Lib.hid hF2; clear hF2))
      go_ret
      exact ⟨rfl, (HF1.out.trans HF2.out (by simp)).below_nil⟩
    | ok r =>
      have hsz := read_sizes hR
      have HAT := Lib.hid (read_at hR)
      rw [hR] at H1
      obtain ⟨n, hn⟩ : ∃ n, r.row.length = n := ⟨_, rfl⟩
      obtain ⟨m, hm⟩ : ∃ m, r.tops.length = m := ⟨_, rfl⟩
      rw [hn] at hsz
      have hn8 := hsz.1
      have HN := Lib.hid hn
      clear hR hsz hn hm
      go_enter Tryd.func9, Tryd.ntmps9
      go_wp2_with (first
        | (go_at_call 10; refine (HS.out _).mono ?_; rintro e w1 ⟨rfl, hF1⟩; have HF1 := Lib.hid hF1; clear hF1)
        | (go_at_call 11; refine (H1.out _).mono ?_; rintro e w2 ⟨rv, tv, rs, rfl, hD, hrs⟩
           obtain ⟨A, c, hrv, -, -, -, hN⟩ := hD.nodes
           have hlen : rs.length = n := by have := congrArg List.length hrs; rw [List.length_map] at this; exact this.trans HN.out
           rw [hlen] at hrv
           subst hrv
           have HN2 := Lib.hid (hrs ▸ hN)
           have HF2 := Lib.hid hD.far
           clear hD hN hrs hlen))
      have HF0 : Hid (MM.Far [] w2 w2) := Lib.hid (MM.Far.refl _ _)
      go_loopw [28] (fun s28 wr => ∃ k : Nat, k ≤ n ∧ s28 = .int .i64 k ∧ Hid (MM.Far [] w2 wr)) (fun s28 _ => n - (intOf s28).toNat)
      case atStart => exact ⟨0, by omega, rfl, HF0⟩
      case round =>
        obtain ⟨k, hk, rfl, hF⟩ := hrel
        by_cases hlt : k < n
        · have hk2 : k < r.row.length := by rw [HN.out]; exact hlt
          obtain ⟨b1, o1, L1, e1, rfl, hb1, a0, a1, a2, a3, a4, i1⟩ := (HN2.out.far hF.out) k hk2
          obtain ⟨hG, hA⟩ := HAT.out _ (List.getElem_mem hk2)
          generalize r.row[k] = x at *
          obtain ⟨kd, at_, nn, ss, l⟩ := x
          simp only at a0 a1 a2 a3 a4
          obtain ⟨hpos, hcase⟩ := hG
          obtain ⟨q, hq⟩ : ∃ q : Nat, at_ = (q : Int) := ⟨at_.toNat, by simp only at hpos; omega⟩
          subst hq
          have hlq : q < s.size := by have := hA.lt; simpa using this
          have hbi : kd = 1 → s[q] = 45 ∨ dig s[q] = true := hA.int
          have hbb : kd = 2 → s[q] = 35 := hA.bool
          have hbn : kd = 3 → (s[q] = 39 ∧ ss = quoteB) ∨ (q + ss.size ≤ s.size ∧ s.extract q (q + ss.size) = ss) := hA.name
          have hbl : kd = 4 → s[q] = 40 ∨ s[q] = 39 := hA.list
          have HF3 := Lib.hid (hF.out.alloc (.cells #[.int .u8 kd, .int .i64 q, .int .i64 nn, .string ss, .slice L1 l.length e1] 34))
          have HBX := Lib.hid (MM.Row.new wr 34 [.int .u8 kd, .int .i64 q, .int .i64 nn, .string ss, .slice L1 l.length e1])
          have z0 := HBX.out.at (i := 0) rfl
          have z1 := HBX.out.at (i := 1) rfl
          have z3 := HBX.out.at (i := 3) rfl
          have g1 : ¬ ((q : Int) < 0) := by omega
          have g2 : ¬ ((s.size : Int) ≤ (q : Int)) := by omega
          have HBI := Lib.hid hbi
          have HBB := Lib.hid hbb
          have HBN := Lib.hid hbn
          have HBL := Lib.hid hbl
          have HCASE := Lib.hid hcase
          clear hbi hbb hbn hbl hcase hA hk2 hpos i1
          simp only at HCASE
          rcases HCASE.out with ⟨rfl, -⟩ | ⟨rfl, -⟩ | ⟨rfl, -⟩ | ⟨rfl, -⟩
          · rcases HBI.out rfl with hb | hb
            · have d1 := ne_yes hb (n := 45) rfl
              have d2 : ((s[q].toNat : Int) = 45) := by rw [hb]; rfl
              clear hb HCASE
              go_wp2
              go_roundw
              case rel => exact ⟨k + 1, by omega, by go_num, HF3⟩
              case measure => simp [intOf]; omega
            · by_cases h45 : s[q] = 45
              · rw [h45] at hb; exact absurd hb (by decide)
              · have d1 := ne_no h45 (n := 45) rfl
                have d2 : ¬ ((s[q].toNat : Int) = 45) := nq_no h45 rfl
                have hd : 48 ≤ s[q].toNat ∧ s[q].toNat ≤ 57 := by unfold dig at hb; simpa using hb
                have d3 : decide ((s[q].toNat : Int) < 48) = false := by rw [decide_eq_false_iff_not]; omega
                have d4 : decide ((57 : Int) < (s[q].toNat : Int)) = false := by rw [decide_eq_false_iff_not]; omega
                have d5 : ¬ ((s[q].toNat : Int) < 48) := by omega
                have d6 : ¬ ((57 : Int) < (s[q].toNat : Int)) := by omega
                clear hb HCASE h45 hd
                go_wp2
                go_roundw
                case rel => exact ⟨k + 1, by omega, by go_num, HF3⟩
                case measure => simp [intOf]; omega
          · have hb := HBB.out rfl
            have d1 := ne_yes hb (n := 35) rfl
            have d2 : ((s[q].toNat : Int) = 35) := by rw [hb]; rfl
            clear hb HCASE
            go_wp2
            go_roundw
            case rel => exact ⟨k + 1, by omega, by go_num, HF3⟩
            case measure => simp [intOf]; omega
          · by_cases hq39 : s[q] = 39 ∧ ss = quoteB
            · have d1 := eq_yes hq39.1 (n := 39) rfl
              have d2 : ((s[q].toNat : Int) = 39) := by rw [hq39.1]; rfl
              have d3 : (ss.toList == [113, 117, 111, 116, 101]) = true := sq_yes hq39.2
              clear hq39 HCASE
              go_wp2
              go_roundw
              case rel => exact ⟨k + 1, by omega, by go_num, HF3⟩
              case measure => simp [intOf]; omega
            · obtain ⟨hle, hex⟩ := (HBN.out rfl).resolve_left hq39
              have hsl := slice_both s ss (q : Int) ((q : Int) + (ss.size : Int)) q (q + ss.size) hex rfl (by omega) (by omega) hle
              have d4 : ¬ ((s.size : Int) < (q : Int) + (ss.size : Int)) := by omega
              have d5 : decide ((s.size : Int) < (q : Int) + (ss.size : Int)) = false := by rw [decide_eq_false_iff_not]; exact d4
              have hw : IntKind.i64.wrap ((q : Int) + (ss.size : Int)) = (q : Int) + (ss.size : Int) := IntWalk.i64_in _ (by omega)
              by_cases h39 : s[q] = 39
              · have d1 := eq_yes h39 (n := 39) rfl
                have d2 : ((s[q].toNat : Int) = 39) := by rw [h39]; rfl
                have d3 : (ss.toList == [113, 117, 111, 116, 101]) = false := sq_no (fun e => hq39 ⟨h39, e⟩)
                clear hq39 HCASE h39 hex
                go_wp2
                go_quiet (fail)
                go_wp2
                go_roundw
                case rel => exact ⟨k + 1, by omega, by go_num, Lib.hid (HF3.out.drewN _)⟩
                case measure => simp [intOf]; omega
              · have d1 := eq_no h39 (n := 39) rfl
                have d2 : ¬ ((s[q].toNat : Int) = 39) := nq_no h39 rfl
                clear hq39 HCASE h39 hex
                go_wp2
                go_quiet (fail)
                go_wp2
                go_roundw
                case rel => exact ⟨k + 1, by omega, by go_num, Lib.hid (HF3.out.drewN _)⟩
                case measure => simp [intOf]; omega
          · rcases HBL.out rfl with hb | hb
            · have d1 := ne_yes hb (n := 40) rfl
              have d2 : ((s[q].toNat : Int) = 40) := by rw [hb]; rfl
              clear hb HCASE
              go_wp2
              go_roundw
              case rel => exact ⟨k + 1, by omega, by go_num, HF3⟩
              case measure => simp [intOf]; omega
            · have d1 := ne_yes hb (n := 39) rfl
              have d2 : ((s[q].toNat : Int) = 39) := by rw [hb]; rfl
              clear hb HCASE
              go_wp2
              go_roundw
              case rel => exact ⟨k + 1, by omega, by go_num, HF3⟩
              case measure => simp [intOf]; omega
        · obtain rfl : k = n := by omega
          go_wp2
          go_ret
          exact ⟨rfl, ((HF1.out.trans HF2.out (by simp)).trans hF.out (by simp)).below_nil⟩
end RW6
end Go.Proofs.YtkhcaejijlaohaaDoor
