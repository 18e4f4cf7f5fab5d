/-
  P6.2's law of joined texts. No condition.
-/
import Derived.Test.YtkhcaejijlaohaaDoorReadDat
import Derived.Test.YtkhcaejijlaohaaDoorReadShift
import Derived.IntWalk
namespace Go.Proofs.YtkhcaejijlaohaaDoor
open Go.RowKit
namespace RX
open LX
theorem tokens_errin : ∀ (ts : List Tk) (r : Rd) (q z : Int), tokens ts r = .error (q, z) → ∃ t ∈ ts, t.at_ = q := by
  intro ts
  induction ts with
  | nil => intro r q z h; cases h
  | cons t ts ih =>
    intro r q z h
    simp only [tokens] at h
    cases hk : token r t with
    | error y => rw [hk] at h; injection h with h; injection h with h1 h2; exact ⟨t, List.mem_cons_self .., h1⟩
    | ok r1 =>
      rw [hk] at h
      obtain ⟨u, hu, e⟩ := ih _ _ _ h
      exact ⟨u, List.mem_cons_of_mem _ hu, e⟩
theorem read_errpos {s : ByteArray} {q x : Int} (h : read s = .error (q, x)) : 0 ≤ q ∧ q ≤ s.size := by
  cases hL : lex s with
  | error e =>
    obtain ⟨p, z⟩ := e
    unfold read at h
    rw [hL] at h
    injection h with h
    injection h with h1 h2
    have := lex_errpos hL
    omega
  | ok ts =>
    rw [read_fin hL] at h
    cases hT : tokens ts ⟨[], [], []⟩ with
    | error e =>
      obtain ⟨p, z⟩ := e
      rw [hT] at h
      injection h with h
      injection h with h1 h2
      obtain ⟨t, ht, e⟩ := tokens_errin ts _ _ _ hT
      have hi := (lex_in_s hL).1 t ht
      have := hi.lt
      have := hi.pos
      omega
    | ok r =>
      rw [hT] at h
      have hI := (tokens_inv (P := fun x => x.at_ < s.size) (Q := fun p => p.at_ < s.size) (fun _ _ _ _ h => h) (fun _ h _ => h) ts (r := ⟨[], [], []⟩) (inv_start _ _) (fun _ => .inl rfl) (brings _ _ hL (fun _ hi _ _ => hi.lt) (fun _ hi _ => hi.lt) (fun _ hi _ => hi.lt) (fun _ hi _ _ _ => hi.lt) (fun _ hi _ => ⟨fun _ _ => hi.lt, hi.lt⟩)) hT).1
      simp only [fin] at h
      unfold endE at h
      split at h
      · cases h
      · rename_i p ps hop
        obtain ⟨h1, h2⟩ := hI.open_ p (by rw [hop]; exact List.mem_cons_self ..)
        split at h <;> (injection h with h; injection h with h3 h4; omega)
end RX
namespace RW6
open LX RX RM6 LW
theorem rcall_at {s t : ByteArray} {w : World} {Q : Ending → World → Prop} (h : s = t) (H : Calls Tryd.prog 11 #[.string s] w Q) : Calls Tryd.prog 11 #[.string t] w Q := h ▸ H
/-- The rows of a are longer by some of b's, further on. -/
def JI (base na d : Nat) (w4 : World) (S : List Nat) (ra rb : Rd) (tv : Value) (k : Nat) (A : Option Addr) (c : Nat) (wr : World) : Prop :=
  ∃ rs, Dat wr base (.slice A (na + k) c) tv rs ra.tops [] ∧ rs.length = na + k ∧ rs.map (·.1) = ra.row ++ (rb.row.take k).map (shN d na) ∧ MM.Far S w4 wr ∧
    ((Value.slice A (na + k) c).ownBlock.toList ⊆ S ∨ ∃ b, (Value.slice A (na + k) c).ownBlock = some b ∧ w4.heap.size ≤ b)
/-- The list of one of them is made. -/
def JL (base na : Nat) (w4 : World) (S : List Nat) (rs : List (Nd × Value)) (rv tv : Value) (tops : List Nat) (l : List Nat) (bx : Nat) (cs : List Value) (j : Nat) (A : Option Addr) (c : Nat) (wr : World) : Prop :=
  Dat wr base rv tv rs tops [(.slice A j c, (l.take j).map (· + na))] ∧ MM.Far S w4 wr ∧ MM.Row wr bx 34 cs ∧ ∀ b, (Value.slice A j c).ownBlock = some b → w4.heap.size ≤ b
/-- Those by themselves are longer by some of b's. -/
def JT (base na : Nat) (w4 : World) (S : List Nat) (ra rb : Rd) (rs : List (Nd × Value)) (rv : Value) (j ma : Nat) (A : Option Addr) (c : Nat) (wr : World) : Prop :=
  Dat wr base rv (.slice A (ma + j) c) rs (ra.tops ++ (rb.tops.take j).map (· + na)) [] ∧ MM.Far S w4 wr ∧ ((Value.slice A (ma + j) c).ownBlock.toList ⊆ S ∨ ∃ b, (Value.slice A (ma + j) c).ownBlock = some b ∧ w4.heap.size ≤ b)
set_option maxHeartbeats 4000000 in
set_option maxRecDepth 20000 in
theorem joins_any (a b : ByteArray) (w : World) : Calls Tryd.prog 6 #[.string a, .string b] w fun e w' => e = .returned (.bool true) ∧ Below w.heap.size w w' := by
  have HS := Lib.hid shown_any
  by_cases h5 : 1000 < a.size
  · go_enter Tryd.func6, Tryd.ntmps6
    go_wp2_with (go_at_call 10; refine (HS.out _).mono ?_; rintro e w1 ⟨rfl, hF1⟩)
    go_ret
    exact ⟨rfl, hF1.below_nil⟩
  · by_cases h6 : 1000 < b.size
    · go_enter Tryd.func6, Tryd.ntmps6
      go_wp2_with (go_at_call 10; refine (HS.out _).mono ?_; rintro e w1 ⟨rfl, hF1⟩)
      go_ret
      exact ⟨rfl, hF1.below_nil⟩
    · obtain ⟨y, hy⟩ : ∃ y, a ++ ⟨#[10]⟩ ++ b = y := ⟨_, rfl⟩
      have hys : y.size ≤ 2001 := by rw [← hy, size_append, size_append]; show a.size + 1 + b.size ≤ 2001; omega
      have HY := Lib.hid hy
      have H1 := Lib.hid (RC6.read_any a (by omega))
      have H2 := Lib.hid (RC6.read_any b (by omega))
      have H3 := Lib.hid (RC6.read_any y (by omega))
      obtain ⟨Ra, hRa⟩ : ∃ R, RX.read a = R := ⟨_, rfl⟩
      obtain ⟨Rb, hRb⟩ : ∃ R, RX.read b = R := ⟨_, rfl⟩
      cases Ra with
      | error pe =>
        obtain ⟨p, x⟩ := pe
        have de := read_errne hRa
        have de1 : ¬ (x = 0) := by rwa [beq_eq_false_iff_ne] at de
        have de2 : (x != 0) = true := by simp [bne, de]
        rw [hRa] at H1
        cases Rb with
        | error pe2 =>
          obtain ⟨q, z⟩ := pe2
          rw [hRb] at H2
          clear hRa hRb hy
          go_enter Tryd.func6, Tryd.ntmps6
          go_wp2_with (first
            | (go_at_call 10; refine (HS.out _).mono ?_; rintro e w1 ⟨rfl, hF1⟩; have HF1 := Lib.hid hF1; clear hF1)
            | (go_at_call 11; refine Calls.mono (rcall_at (s := a) (by with_reducible rfl) (H1.out _)) ?_; rintro e w2 ⟨rfl, hF2⟩; have HF2 := Lib.hid hF2; clear hF2)
            | (go_at_call 11; refine Calls.mono (rcall_at (s := b) (by with_reducible rfl) (H2.out _)) ?_; rintro e w3 ⟨rfl, hF3⟩; have HF3 := Lib.hid hF3; clear hF3))
          go_ret
          exact ⟨rfl, ((HF1.out.trans HF2.out (by simp)).trans HF3.out (by simp)).below_nil⟩
        | ok rb =>
          rw [hRb] at H2
          clear hRa hRb hy
          go_enter Tryd.func6, Tryd.ntmps6
          go_wp2_with (first
            | (go_at_call 10; refine (HS.out _).mono ?_; rintro e w1 ⟨rfl, hF1⟩; have HF1 := Lib.hid hF1; clear hF1)
            | (go_at_call 11; refine Calls.mono (rcall_at (s := a) (by with_reducible rfl) (H1.out _)) ?_; rintro e w2 ⟨rfl, hF2⟩; have HF2 := Lib.hid hF2; clear hF2)
            | (go_at_call 11; refine Calls.mono (rcall_at (s := b) (by with_reducible rfl) (H2.out _)) ?_; rintro e w3 ⟨rvb, tvb, rsb, rfl, hD, -⟩; have HF3 := Lib.hid hD.far; clear hD))
          go_ret
          exact ⟨rfl, ((HF1.out.trans HF2.out (by simp)).trans HF3.out (by simp)).below_nil⟩
      | ok ra =>
        have hRy := read_joined a b y (by omega) (by omega) hy hRa
        have hsa := read_sizes hRa
        rw [hRa] at H1
        obtain ⟨na, hna⟩ : ∃ n, ra.row.length = n := ⟨_, rfl⟩
        obtain ⟨ma, hma⟩ : ∃ n, ra.tops.length = n := ⟨_, rfl⟩
        rw [hna, hma] at hsa
        have HNA := Lib.hid hna
        have HMA := Lib.hid hma
        have HSA := Lib.hid hsa
        cases Rb with
        | error pe2 =>
          obtain ⟨q, x⟩ := pe2
          have de := read_errne hRb
          have de1 : ¬ (x = 0) := by rwa [beq_eq_false_iff_ne] at de
          have de2 : (x != 0) = true := by simp [bne, de]
          rw [hRb] at hRy
          simp only at hRy
          have hq : 0 ≤ q ∧ q ≤ 10000 := by have := read_errpos hRb; omega
          rw [hRb] at H2
          rw [hRy] at H3
          have hpos : q + ((a.size + 1 : Nat) : Int) = q + (a.size : Int) + 1 := by omega
          rw [hpos] at H3
          obtain ⟨hq0, hq1⟩ := hq
          clear hRa hRb hRy hna hma hsa hy hpos
          go_enter Tryd.func6, Tryd.ntmps6
          go_wp2_with (first
            | (go_at_call 10; refine (HS.out _).mono ?_; rintro e w1 ⟨rfl, hF1⟩; have HF1 := Lib.hid hF1; clear hF1)
            | (go_at_call 11; refine Calls.mono (rcall_at (s := y) (by with_reducible exact HY.out.symm) (H3.out _)) ?_; rintro e w4 ⟨rfl, hF4⟩; have HF4 := Lib.hid hF4; clear hF4)
            | (go_at_call 11; refine Calls.mono (rcall_at (s := a) (by with_reducible rfl) (H1.out _)) ?_; rintro e w2 ⟨rva, tva, rsa, rfl, hD, -⟩; have HF2 := Lib.hid hD.far; clear hD)
            | (go_at_call 11; refine Calls.mono (rcall_at (s := b) (by with_reducible rfl) (H2.out _)) ?_; rintro e w3 ⟨rfl, hF3⟩; have HF3 := Lib.hid hF3; clear hF3))
          go_ret
          exact ⟨rfl, (((HF1.out.trans HF2.out (by simp)).trans HF3.out (by simp)).trans HF4.out (by simp)).below_nil⟩
        | ok rb =>
          rw [hRb] at hRy
          simp only at hRy
          have hsb := read_sizes hRb
          have hpl := (read_plain hRb).1
          rw [hRb] at H2
          rw [hRy] at H3
          obtain ⟨nb, hnb⟩ : ∃ n, rb.row.length = n := ⟨_, rfl⟩
          obtain ⟨mb, hmb⟩ : ∃ n, rb.tops.length = n := ⟨_, rfl⟩
          rw [hnb, hmb] at hsb
          have HNB := Lib.hid hnb
          have HMB := Lib.hid hmb
          have HSB := Lib.hid hsb
          have HPL := Lib.hid hpl
          obtain ⟨hsa1, hsa2, -⟩ := hsa
          obtain ⟨hsb1, hsb2, -⟩ := hsb
          have HYN : Hid ((shR (a.size + 1) ra.row ra.tops rb).row.length = na + nb) := Lib.hid (by simp [shR, hna, hnb])
          have HYM : Hid ((shR (a.size + 1) ra.row ra.tops rb).tops.length = ma + mb) := Lib.hid (by simp [shR, hma, hmb])
          clear hRa hRb hRy hna hma hnb hmb hy hpl
          have t1 : decide ((1000 : Int) < (a.size : Int)) = false := by rw [decide_eq_false_iff_not]; omega
          have t2 : decide ((1000 : Int) < (b.size : Int)) = false := by rw [decide_eq_false_iff_not]; omega
          go_enter Tryd.func6, Tryd.ntmps6
          go_wp2_with (first
            | (go_at_call 10; refine (HS.out _).mono ?_; rintro e w1 ⟨rfl, hF1⟩; have HF1 := Lib.hid hF1; clear hF1)
            | (go_at_call 11; refine Calls.mono (rcall_at (s := y) (by with_reducible exact HY.out.symm) (H3.out _)) ?_; rintro e w4 ⟨rvy, tvy, rsy, rfl, hD, hrs⟩
               have HF4 := Lib.hid hD.far
               have HDy := Lib.hid hD.dat
               have HRSy := Lib.hid hrs
               obtain ⟨Ay, cy, hrv, -⟩ := hD.nodes
               obtain ⟨By, dy, htv, -⟩ := hD.tops_row
               have hlen : rsy.length = na + nb := by have := congrArg List.length hrs; rw [List.length_map] at this; exact this.trans HYN.out
               rw [hlen] at hrv
               rw [HYM.out] at htv
               subst hrv htv
               clear hD hrs hlen)
            | (go_at_call 11; refine Calls.mono (rcall_at (s := a) (by with_reducible rfl) (H1.out _)) ?_; rintro e w2 ⟨rva, tva, rsa, rfl, hD, hrs⟩
               have HF2 := Lib.hid hD.far
               have HDa := Lib.hid hD.dat
               have HRSa := Lib.hid hrs
               obtain ⟨Aa, ca, hrv, -⟩ := hD.nodes
               obtain ⟨Ba, da, htv, -⟩ := hD.tops_row
               have hlen : rsa.length = na := by have := congrArg List.length hrs; rw [List.length_map] at this; exact this.trans HNA.out
               rw [hlen] at hrv
               rw [HMA.out] at htv
               subst hrv htv
               have HLa := Lib.hid hlen
               clear hD hrs hlen)
            | (go_at_call 11; refine Calls.mono (rcall_at (s := b) (by with_reducible rfl) (H2.out _)) ?_; rintro e w3 ⟨rvb, tvb, rsb, rfl, hD, hrs⟩
               have HF3 := Lib.hid hD.far
               have HDb := Lib.hid hD.dat
               have HRSb := Lib.hid hrs
               obtain ⟨Ab, cb, hrv, -⟩ := hD.nodes
               obtain ⟨Bb, db, htv, -⟩ := hD.tops_row
               have hlen : rsb.length = nb := by have := congrArg List.length hrs; rw [List.length_map] at this; exact this.trans HNB.out
               rw [hlen] at hrv
               rw [HMB.out] at htv
               subst hrv htv
               have HLb := Lib.hid hlen
               clear hD hrs hlen))
          clear H1 H2 H3 HS
          obtain ⟨S, hS⟩ : ∃ S, S = (Value.slice Aa na ca).ownBlock.toList ++ (Value.slice Ba ma da).ownBlock.toList := ⟨_, rfl⟩
          have HSlt : Hid (∀ x ∈ S, x < w2.heap.size) := Lib.hid (by
            intro x hx
            rw [hS] at hx
            rcases List.mem_append.1 hx with hx | hx
            · exact (MM.own_lt HDa.out.row x (by simpa using hx)).1
            · exact (MM.own_lt (HDa.out.kin.each _ (List.mem_cons_self ..)) x (by simpa using hx)).1)
          have HSge : Hid (∀ x ∈ S, w.heap.size ≤ x) := Lib.hid (by
            intro x hx
            have := HF1.out.size
            rw [hS] at hx
            rcases List.mem_append.1 hx with hx | hx
            · have := (MM.own_lt HDa.out.row x (by simpa using hx)).2; omega
            · have := (MM.own_lt (HDa.out.kin.each _ (List.mem_cons_self ..)) x (by simpa using hx)).2; omega)
          have HSa : Hid ((Value.slice Aa na ca).ownBlock.toList ⊆ S ∧ (Value.slice Ba ma da).ownBlock.toList ⊆ S) := Lib.hid ⟨by rw [hS]; exact List.subset_append_left _ _, by rw [hS]; exact List.subset_append_right _ _⟩
          clear hS
          have HJ0 : Hid (JI w1.heap.size na (a.size + 1) w4 S ra rb (.slice Ba ma da) 0 Aa ca w4) := Lib.hid ⟨rsa, (HDa.out.to HF3.out).to HF4.out, HLa.out, by rw [List.take_zero, List.map_nil, List.append_nil]; exact HRSa.out, MM.Far.refl _ _, .inl HSa.out.1⟩
          go_loopw [6, 84] (fun s6 s84 wr => ∃ (k : Nat) (A : Option Addr) (c : Nat), k ≤ nb ∧ s6 = .slice A (na + k) c ∧ s84 = .int .i64 k ∧ Hid (JI w1.heap.size na (a.size + 1) w4 S ra rb (.slice Ba ma da) k A c wr)) (fun _ s84 _ => nb - (intOf s84).toNat)
          case atStart => exact ⟨0, Aa, ca, by omega, rfl, rfl, HJ0⟩
          case round =>
            obtain ⟨k, A, c, hk, rfl, rfl, hI⟩ := hrel
            obtain ⟨rs, hD, hl, hrs, hF, hB⟩ := hI.out
            clear hI HJ0
            by_cases hlt : k < nb
            · have hk2 : k < rsb.length := by rw [HLb.out]; exact hlt
              have HDbr := Lib.hid ((HDb.out.to HF4.out).far hF HSlt.out)
              obtain ⟨g, cg, LA, e1, hrv, hg0, hg, a0, a1, a2, a3, a4, hL⟩ := HDbr.out.at hk2
              injection hrv with hrv1 hrv2 hrv3
              subst hrv1
              have hrow : rb.row[k]? = some rsb[k].1 := by rw [← HRSb.out, List.getElem?_map, List.getElem?_eq_getElem hk2]; rfl
              obtain ⟨hrk, hre⟩ := List.getElem?_eq_some_iff.1 hrow
              have htk : rb.row.take (k + 1) = rb.row.take k ++ [rsb[k].1] := by rw [List.take_succ_eq_append_getElem hrk, hre]
              have hgd := (HPL.out.good _ (List.mem_of_getElem? hrow))
              have hbl := HPL.out.below k hrk
              rw [hre] at hbl
              have hm8 := HSB.out.2.2 _ (List.mem_of_getElem? hrow)
              have hmem := List.getElem_mem hk2
              generalize rsb[k] = z at *
              obtain ⟨⟨kd, at_, nn, ss, l⟩, hx⟩ := z
              simp only at a0 a1 a2 a3 a4 hL htk hgd hbl hm8
              subst hL
              obtain ⟨m, hm⟩ : ∃ m, l.length = m := ⟨_, rfl⟩
              rw [hm] at a4 hm8 hmem
              have hat0 : 0 ≤ at_ := hgd.1.1
              have hat1 : at_ < 1001 := by have := hgd.2; omega
              have HM := Lib.hid hm
              have HTK := Lib.hid htk
              have HBL := Lib.hid hbl
              have HME := Lib.hid hmem
              have HL := Lib.hid hl
              have HRS := Lib.hid hrs
              have HD := Lib.hid hD
              have HF := Lib.hid hF
              have HB := Lib.hid hB
              clear hrv2 hrv3 hrow hrk hre htk hgd hbl hmem hk2 hm hl hrs hD hF hB
              have hbx := HD.out.kin
              obtain ⟨bx, hbx2⟩ : ∃ bx, wr.heap.size = bx := ⟨_, rfl⟩
              have HBX2 := Lib.hid hbx2
              have HNE : Hid ((Value.slice A (na + k) c).ownBlock ≠ some bx) := Lib.hid (fun e => by have := (MM.own_lt HD.out.row bx e).1; omega)
              have HB4 : Hid (w4.heap.size ≤ bx) := Lib.hid (by rw [← hbx2]; exact HF.out.size)
              have HJL : Hid (JL w1.heap.size na w4 S rs (.slice A (na + k) c) (.slice Ba ma da) ra.tops l bx [.int .u8 kd, .int .i64 (at_ + ((a.size : Int) + 1)), .int .i64 nn, .string ss, .slice LA m e1] 0 none 0
                  (wr.alloc (.cells #[.int .u8 kd, .int .i64 (at_ + ((a.size : Int) + 1)), .int .i64 nn, .string ss, .slice LA m e1] 34))) := Lib.hid
                ⟨(HD.out.to ((MM.Far.refl [] wr).alloc _)).nil, HF.out.alloc _, hbx2 ▸ MM.Row.new wr 34 [.int .u8 kd, .int .i64 (at_ + ((a.size : Int) + 1)), .int .i64 nn, .string ss, .slice LA m e1], fun b hb => by simp [Value.ownBlock] at hb⟩
              clear hbx hbx2
              go_wp2
              rw [HBX2.out]
              go_loopw [21, 98] (fun s21 s98 wz => ∃ (j : Nat) (A2 : Option Addr) (c2 : Nat), j ≤ m ∧ s21 = .slice A2 j c2 ∧ s98 = .int .i64 j ∧ Hid (JL w1.heap.size na w4 S rs (.slice A (na + k) c) (.slice Ba ma da) ra.tops l bx [.int .u8 kd, .int .i64 (at_ + ((a.size : Int) + 1)), .int .i64 nn, .string ss, .slice LA m e1] j A2 c2 wz)) (fun _ s98 _ => m - (intOf s98).toNat)
              case atStart => exact ⟨0, none, 0, by omega, rfl, rfl, HJL⟩
              case round =>
                obtain ⟨j, A2, c2, hj, rfl, rfl, hI2⟩ := hrel
                obtain ⟨hD2, hF2, hB2, hO2⟩ := hI2.out
                clear hI2 HJL
                by_cases hlt2 : j < m
                · have hj2 : j < l.length := by rw [HM.out]; exact hlt2
                  have hIL := ((HDb.out.to HF4.out).far hF2 HSlt.out).list HME.out
                  obtain ⟨gl, ol, hLA, hgl, hcl⟩ := hIL j hj2
                  subst hLA
                  have hb := HBL.out _ (List.getElem_mem hj2)
                  have htj : l.take (j + 1) = l.take j ++ [l[j]] := by rw [List.take_succ_eq_append_getElem hj2]
                  generalize l[j] = pv at *
                  have hpv : pv ≤ 8000 := by omega
                  have HTJ := Lib.hid htj
                  have HOW : Hid (wr.ownsRow w1.heap.size 3 1 (.slice A2 j c2) ((l.take j).map (· + na)).length (ints ((l.take j).map (· + na)))) := Lib.hid (hD2.kin.each (.slice A2 j c2, (l.take j).map (· + na)) (by simp))
                  have hlj : ((l.take j).map (· + na)).length = j := by rw [List.length_map, List.length_take, HM.out]; omega
                  have HLJ := Lib.hid hlj
                  have HD2 := Lib.hid hD2
                  have HF2' := Lib.hid hF2
                  have HB2 := Lib.hid hB2
                  have HO2 := Lib.hid hO2
                  have hb1 : w1.heap.size ≤ wr.heap.size := by
                    have g1 := HF2.out.size
                    have g2 := HF3.out.size
                    have g3 := HF4.out.size
                    have g4 := hF2.size
                    omega
                  have hz : ((pv : Int) + (na : Int)) = ((pv + na : Nat) : Int) := by omega
                  have HZ := Lib.hid hz
                  clear htj hlj hD2 hF2 hB2 hO2 hz hj2 hb
                  go_wp2_with (first
                    | (at_builtin; refine place_push (n := pv + na) HZ.out HOW.out hb1 (by rw [HLJ.out]; omega) rfl (.tmp 102) (.tmp 106) rfl rfl rfl ?_; intro tA tc w5 ho5 hf5 ha5; have HD5 := Lib.hid (HD2.out.more ho5 hf5 ha5); have HF5 := Lib.hid hf5; have HO5 := Lib.hid ho5; have HA5 := Lib.hid ha5; clear ho5 hf5 ha5))
                  go_roundw
                  case rel =>
                    have hmin : min j l.length = j := by have := HM.out; omega
                    rw [hmin]
                    refine ⟨j + 1, tA, tc, by omega, rfl, by go_num, Lib.hid ⟨?_, ?_, ?_, ?_⟩⟩
                    · rw [HTJ.out, List.map_append]
                      have h := HD5.out
                      rw [HLJ.out] at h
                      exact h
                    · refine HF2'.out.trans HF5.out (fun x hx hl => ?_)
                      have := HO2.out x (by simpa using hx)
                      omega
                    · exact HB2.out.far HF5.out (fun hm => MM.own_row_ne HOW.out HB2.out (by decide) (by simpa using hm))
                    · intro x hx
                      have h := HA5.out
                      rw [HLJ.out] at h
                      rcases h with h | ⟨z, h, hz⟩
                      · exact HO2.out x (h ▸ hx)
                      · rw [h] at hx
                        injection hx with hx
                        have := HF2'.out.size
                        omega
                  case measure => simp [intOf]; omega
                · obtain rfl : j = m := by omega
                  rw [List.take_of_length_le (by rw [HM.out]; exact Nat.le_refl _)] at hD2
                  have y0 := hB2.at (i := 0) rfl
                  have y1 := hB2.at (i := 1) rfl
                  have y2 := hB2.at (i := 2) rfl
                  have y3 := hB2.at (i := 3) rfl
                  have g4 := hB2.frozen 4
                  have y4 := hB2.at (i := 4) rfl
                  have hml : j = (l.map (· + na)).length := by rw [List.length_map, HM.out]
                  have HML := Lib.hid hml
                  have hFb := one_far wr bx 4 (.slice A2 j c2)
                  have HD3 := Lib.hid (hD2.box hB2 HNE.out hFb)
                  have HD3m : Hid (Dat (wr.setCell ⟨bx, 4, none⟩ (.slice A2 j c2)) w1.heap.size (.slice A (na + k) c) (.slice Ba ma da) rs ra.tops [(.slice A2 (l.map (· + na)).length c2, l.map (· + na))]) := Lib.hid (by rw [← hml]; exact HD3.out)
                  have hF3' : MM.Far S w4 (wr.setCell ⟨bx, 4, none⟩ (.slice A2 j c2)) := by
                    refine hF2.trans hFb (fun x hx hl => ?_)
                    have e : x = bx := by simpa using hx
                    have := HB4.out
                    omega
                  have HF3' := Lib.hid hF3'
                  clear hF3'
                  have hb1 : w1.heap.size ≤ (wr.setCell ⟨bx, 4, none⟩ (.slice A2 j c2)).heap.size := by
                    have g2 := HF2.out.size
                    have g3 := HF3.out.size
                    have g4 := HF4.out.size
                    have g5 := HF3'.out.size
                    have g1 := HDa.out
                    omega
                  have HRW : Hid ((wr.setCell ⟨bx, 4, none⟩ (.slice A2 j c2)).ownsRow w1.heap.size 34 5 (.slice A (na + k) c) rs.length (ndC rs)) := Lib.hid HD3.out.row
                  clear hD2 hF2 hB2 hO2 hml hFb
                  go_wp2_with (first
                    | (at_builtin; refine node_push ⟨kd, at_ + ((a.size : Int) + 1), nn, ss, l.map (· + na)⟩ A2 c2 (pz := wr.heap.size) HML.out (by simp [World.setCell]) HRW.out hb1 (by rw [HL.out]; omega) rfl (.tmp 111) (.tmp 113) rfl rfl rfl ?_; intro tA tc w5 ho5 hf5 ha5; have HD5 := Lib.hid (Dat.node ⟨kd, at_ + ((a.size : Int) + 1), nn, ss, l.map (· + na)⟩ (.slice A2 (l.map (· + na)).length c2) HD3m.out ho5 hf5); have HF5 := Lib.hid hf5; have HA5 := Lib.hid ha5; clear ho5 hf5 ha5))
                  go_roundw
                  case rel =>
                    rw [HL.out]
                    have hD5 := HD5.out
                    have hA5 := HA5.out
                    rw [HL.out] at hD5 hA5
                    refine ⟨k + 1, tA, tc, by omega, rfl, by go_num, Lib.hid ⟨_, hD5, ?_, ?_, ?_, ?_⟩⟩
                    · rw [List.length_append, HL.out]; rfl
                    · rw [List.map_append, HRS.out, HTK.out, List.map_append, ← List.append_assoc]; rfl
                    · refine HF3'.out.trans HF5.out (fun x hx hl => ?_)
                      rcases HB.out with h | ⟨z, h, hz⟩
                      · exact h hx
                      · rw [h] at hx
                        have e : x = z := by simpa using hx
                        omega
                    · rcases hA5 with h | ⟨z, h, hz⟩
                      · rcases HB.out with h2 | ⟨z2, h2, hz2⟩
                        · left
                          show (Value.slice tA (na + k + 1) tc).ownBlock.toList ⊆ S
                          rw [h]
                          exact h2
                        · exact .inr ⟨z2, h.trans h2, hz2⟩
                      · exact .inr ⟨z, h, Nat.le_trans HF3'.out.size hz⟩
                  case measure => simp [intOf]; omega
            · obtain rfl : k = nb := by omega
              rw [List.take_of_length_le (by rw [HNB.out]; exact Nat.le_refl _)] at hrs
              have HT0 : Hid (JT w1.heap.size na w4 S ra rb rs (.slice A (na + k) c) 0 ma Ba da wr) := Lib.hid ⟨by rw [List.take_zero, List.map_nil, List.append_nil]; exact hD, hF, .inl HSa.out.2⟩
              have HRS := Lib.hid hrs
              have HL := Lib.hid hl
              clear hD hF hB hrs hl
              go_wp2
              go_loopw [7, 118] (fun s7 s118 wz => ∃ (j : Nat) (A2 : Option Addr) (c2 : Nat), j ≤ mb ∧ s7 = .slice A2 (ma + j) c2 ∧ s118 = .int .i64 j ∧ Hid (JT w1.heap.size na w4 S ra rb rs (.slice A (na + k) c) j ma A2 c2 wz)) (fun _ s118 _ => mb - (intOf s118).toNat)
              case atStart => exact ⟨0, Ba, da, by omega, rfl, rfl, HT0⟩
              case round =>
                obtain ⟨j, A2, c2, hj, rfl, rfl, hI2⟩ := hrel
                obtain ⟨hD2, hF2, hB2⟩ := hI2.out
                clear hI2 HT0
                by_cases hlt2 : j < mb
                · have hj2 : j < rb.tops.length := by rw [HMB.out]; exact hlt2
                  obtain ⟨Bx, dx, htv, -, -, -, hIL⟩ := ((HDb.out.to HF4.out).far hF2 HSlt.out).tops_row
                  injection htv with htv1 htv2 htv3
                  subst htv1
                  clear htv2 htv3
                  obtain ⟨gl, ol, hLA, hgl, hcl⟩ := hIL j hj2
                  subst hLA
                  have hb := HPL.out.lt (.inl (List.getElem_mem hj2))
                  rw [HNB.out] at hb
                  have htj : rb.tops.take (j + 1) = rb.tops.take j ++ [rb.tops[j]] := by rw [List.take_succ_eq_append_getElem hj2]
                  generalize rb.tops[j] = pv at *
                  have hpv : pv ≤ 8000 := by omega
                  have HTJ := Lib.hid htj
                  have hlj : (ra.tops ++ (rb.tops.take j).map (· + na)).length = ma + j := by rw [List.length_append, List.length_map, List.length_take, HMA.out, HMB.out]; omega
                  have HOW : Hid (wr.ownsRow w1.heap.size 3 1 (.slice A2 (ma + j) c2) (ra.tops ++ (rb.tops.take j).map (· + na)).length (ints (ra.tops ++ (rb.tops.take j).map (· + na)))) := Lib.hid (hD2.kin.each _ (List.mem_cons_self ..))
                  have HLJ := Lib.hid hlj
                  have HD2 := Lib.hid hD2
                  have HF2' := Lib.hid hF2
                  have HB2 := Lib.hid hB2
                  have hb1 : w1.heap.size ≤ wr.heap.size := by
                    have g1 := HF2.out.size
                    have g2 := HF3.out.size
                    have g3 := HF4.out.size
                    have g4 := hF2.size
                    omega
                  have hz : ((pv : Int) + (na : Int)) = ((pv + na : Nat) : Int) := by omega
                  have HZ := Lib.hid hz
                  clear htj hlj hD2 hF2 hB2 hz hj2 hb hIL
                  go_wp2_with (first
                    | (at_builtin; refine place_push (n := pv + na) HZ.out HOW.out hb1 (by rw [HLJ.out]; omega) rfl (.tmp 122) (.tmp 126) rfl rfl rfl ?_; intro tA tc w5 ho5 hf5 ha5; have HD5 := Lib.hid (HD2.out.top ho5 hf5 ha5); have HF5 := Lib.hid hf5; have HA5 := Lib.hid ha5; clear ho5 hf5 ha5))
                  go_roundw
                  case rel =>
                    have hA5 := HA5.out
                    have hD5 := HD5.out
                    rw [HLJ.out] at hA5 hD5
                    have hlen2 : ra.tops.length + min j rb.tops.length + 1 = ma + j + 1 := by have h1 := HMA.out; have h2 := HMB.out; omega
                    rw [hlen2]
                    refine ⟨j + 1, tA, tc, by omega, rfl, by go_num, Lib.hid ⟨?_, ?_, ?_⟩⟩
                    · rw [HTJ.out, List.map_append, ← List.append_assoc]
                      exact hD5
                    · refine HF2'.out.trans HF5.out (fun x hx hl => ?_)
                      rcases HB2.out with h | ⟨z, h, hz⟩
                      · exact h hx
                      · rw [h] at hx
                        have e : x = z := by simpa using hx
                        omega
                    · rcases hA5 with h | ⟨z, h, hz⟩
                      · rcases HB2.out with h2 | ⟨z2, h2, hz2⟩
                        · left
                          show (Value.slice tA (ma + j + 1) tc).ownBlock.toList ⊆ S
                          rw [h]
                          exact h2
                        · exact .inr ⟨z2, h.trans h2, hz2⟩
                      · exact .inr ⟨z, h, Nat.le_trans HF2'.out.size hz⟩
                  case measure => simp [intOf]; omega
                · obtain rfl : j = mb := by omega
                  rw [List.take_of_length_le (by rw [HMB.out]; exact Nat.le_refl _)] at hD2
                  have hyf := HDy.out.far hF2 (fun x hx => by have := HSlt.out x hx; have := HF3.out.size; omega)
                  obtain ⟨Y1, e1, hy1, -, -, -, hyN⟩ := hyf.nodes
                  obtain ⟨Y2, e2, hy2, -, -, -, hyT⟩ := hyf.tops_row
                  obtain ⟨Z1, f1, hz1, -, -, -, hzN⟩ := hD2.nodes
                  obtain ⟨Z2, f2, hz2, -, -, -, hzT⟩ := hD2.tops_row
                  injection hy1 with q1 p1 p2
                  injection hy2 with q2 p3 p4
                  injection hz1 with q3 p5 p6
                  injection hz2 with q4 p7 p8
                  subst q1 q2 q3 q4
                  clear p1 p2 p3 p4 p5 p6 p7 p8
                  have HYN2 := Lib.hid (HRSy.out ▸ hyN)
                  have HYT2 := Lib.hid hyT
                  have HZN2 : Hid (NdRow wr A (shR (a.size + 1) ra.row ra.tops rb).row) := Lib.hid (by
                    have : (shR (a.size + 1) ra.row ra.tops rb).row = ra.row ++ rb.row.map (shN (a.size + 1) na) := by simp only [shR, HNA.out]
                    rw [this, ← HRS.out]
                    exact hzN)
                  have HZT2 : Hid (IntRow wr A2 (shR (a.size + 1) ra.row ra.tops rb).tops) := Lib.hid (by
                    have : (shR (a.size + 1) ra.row ra.tops rb).tops = ra.tops ++ rb.tops.map (· + na) := by simp only [shR, HNA.out]
                    rw [this]
                    exact hzT)
                  have HLS : Hid (∀ x ∈ (shR (a.size + 1) ra.row ra.tops rb).row, x.l.length ≤ 100000) := Lib.hid (by
                    intro x hx
                    simp only [shR] at hx
                    rcases List.mem_append.1 hx with hx | hx
                    · have := HSA.out.2.2 x hx; omega
                    · obtain ⟨z, hz, rfl⟩ := List.mem_map.1 hx
                      have := HSB.out.2.2 z hz
                      simp only [shN, List.length_map]; omega)
                  have HFz := Lib.hid hF2
                  have HSame := Lib.hid (fun c1 c2 => same_call (c1 := c1) (c2 := c2) HYN.out (by omega) HLS.out HYN2.out HZN2.out)
                  have HInts := Lib.hid (fun (w6 : World) (f : MM.Far [] wr w6) c1 c2 => ints_call (c1 := c1) (c2 := c2) HYM.out (by omega) (HYT2.out.far f) (HZT2.out.far f))
                  clear hyf hyN hyT hzN hzT hD2 hF2 hB2 HYN2 HYT2 HZN2 HZT2
                  go_wp2_with (first
                    | (go_at_call 13; ((with_reducible refine (HSame.out _ _).mono ?_); rintro e w6 ⟨rfl, hF6⟩; have HF6 := Lib.hid hF6; clear hF6))
                    | (go_at_call 14; ((with_reducible refine (HInts.out _ HF6.out _ _).mono ?_); rintro e w7 ⟨rfl, hF7⟩; have HF7 := Lib.hid hF7; clear hF7)))
                  go_ret
                  refine ⟨rfl, ?_⟩
                  have f4 : MM.Far [] w w4 := ((HF1.out.trans HF2.out (by simp)).trans HF3.out (by simp)).trans HF4.out (by simp)
                  have f5 : MM.Far S w wr := (f4.mono (S' := S) (by simp)).trans HFz.out (fun _ h _ => h)
                  exact ((f5.trans HF6.out (by simp)).trans HF7.out (by simp)).below (Nat.le_refl _) HSge.out
end RW6
end Go.Proofs.YtkhcaejijlaohaaDoor
