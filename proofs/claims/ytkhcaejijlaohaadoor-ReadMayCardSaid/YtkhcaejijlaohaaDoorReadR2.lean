/-
  Contracts of the document's reader: put, close, token. Conditions: there are no more than 20000 data; tokens of the six kinds.
-/
import Derived.Test.YtkhcaejijlaohaaDoorReadR1
import Derived.Test.YtkhcaejijlaohaaDoorReadTop
namespace Go.Proofs.YtkhcaejijlaohaaDoor
open Go.RowKit
namespace RM6
open LX RX RW6
theorem close_all : ∀ (m : Nat) {w0 w : World} {q : Nat} {rv tv ov : Value} {rs : List (Nd × Value)} {tops : List Nat} {ex : List (Value × List Nat)} {p : Pt} {hp : Value} {os1 : List (Pt × Value)}, os1.length = m →
    Rdr w0 w q rv tv ov rs tops ((p, hp) :: os1) ex → rs.length + os1.length ≤ 20000 → tops.length ≤ 20000 → (∀ z ∈ os1, z.1.l.length ≤ 20000) →
    Calls Tryd.prog 37 #[.pointer (some ⟨q, 0, none⟩)] w (PutP w0 q (putO (os1.map (·.1)) (rs.map (·.1)) tops ⟨4, p.at_, 0, emp, p.l⟩) ex) := by
  intro m
  induction m with
  | zero =>
    intro w0 w q rv tv ov rs tops ex p hp os1 hm h hn ht hl
    refine close_of h hn (Lib.hid fun w1 ov1 A c _ h1 => ?_)
    refine put_of ⟨4, p.at_, 0, emp, p.l⟩ A c h1 hn ht hl (Lib.hid fun w2 rv2 rs2 p2 hp2 os2 e _ _ _ => ?_)
    omega
  | succ m ih =>
    intro w0 w q rv tv ov rs tops ex p hp os1 hm h hn ht hl
    refine close_of h hn (Lib.hid fun w1 ov1 A c _ h1 => ?_)
    refine put_of ⟨4, p.at_, 0, emp, p.l⟩ A c h1 hn ht hl (Lib.hid fun w2 rv2 rs2 p2 hp2 os2 e1 e2 hl2 h2 => ?_)
    exact ih (by omega) h2 (by omega) ht hl2
section
variable {w0 w : World} {q : Nat} {rv tv ov : Value} {rs : List (Nd × Value)} {tops : List Nat} {os : List (Pt × Value)} {ex : List (Value × List Nat)}
theorem put_any (x : Nd) (A : Option Addr) (c : Nat) (h : Rdr w0 w q rv tv ov rs tops os ((.slice A x.l.length c, x.l) :: ex)) (hn : rs.length + os.length ≤ 20000) (ht : tops.length ≤ 20000) (hl : ∀ p ∈ os, p.1.l.length ≤ 20000) :
    Calls Tryd.prog 36 #[.pointer (some ⟨q, 0, none⟩), .agg #[.int .u8 x.kind, .int .i64 x.at_, .int .i64 x.n, .string x.s, .slice A x.l.length c]] w
      (PutP w0 q (putO (os.map (·.1)) (rs.map (·.1)) tops x) ex) :=
  put_of x A c h hn ht hl (Lib.hid fun _ _ _ _ _ os2 _ _ hl2 h2 => close_all os2.length rfl h2 (by omega) ht hl2)
/-- The reader at q is r. -/
def Has (w0 w : World) (q : Nat) (r : Rd) : Prop := ∃ rv tv ov rs os, Rdr w0 w q rv tv ov rs r.tops os [] ∧ rs.map (·.1) = r.row ∧ os.map (·.1) = r.op
theorem Has.to {w1 : World} {r : Rd} (h : Has w0 w q r) (f : MM.Far [] w w1) : Has w0 w1 q r := by
  obtain ⟨rv, tv, ov, rs, os, h1, h2, h3⟩ := h
  exact ⟨rv, tv, ov, rs, os, h1.to f, h2, h3⟩
theorem Has.far {r : Rd} (h : Has w0 w q r) : MM.Far [] w0 w := by
  obtain ⟨_, _, _, _, _, h1, _⟩ := h
  exact h1.far
theorem put_has {w' : World} {r : Rd} {x : Nd} {e : Ending} (hrs : rs.map (·.1) = r.row) (hos : os.map (·.1) = r.op) (h : PutP w0 q (putO (os.map (·.1)) (rs.map (·.1)) r.tops x) [] e w') : e = .returned (.tuple #[]) ∧ Has w0 w' q (put r x) := by
  obtain ⟨he, rv, tv, ov, rs2, os2, h1, h2, h3⟩ := h
  rw [hrs, hos] at h1 h2 h3
  exact ⟨he, rv, tv, ov, rs2, os2, h1, h2, h3⟩
/-- What a token comes to. -/
def TokC (w0 w : World) (q : Nat) (X : Except Int Rd) (e : Ending) (w' : World) : Prop := match X with
  | .error z => e = .returned (.int .i64 z) ∧ MM.Far [] w w'
  | .ok r => e = .returned (.int .i64 0) ∧ Has w0 w' q r
/-- Behind the append to what is open. -/
def CutP (w0 : World) (q : Nat) (rv tv : Value) (rs : List (Nd × Value)) (tops : List Nat) (os : List (Pt × Value)) (a : Int) (b : Bool) (tb : Nat) (l : List Value) (wx : World) : Prop :=
  MM.Row wx tb 48 l ∧ ∃ ov', Rdr w0 wx q rv tv ov' rs tops ((⟨a, b, []⟩, .slice none 0 0) :: os) []
theorem pt_one (a : Int) (b : Bool) : ∀ u ∈ [Value.int .i64 a, .bool b, .slice none 0 0], u.oneCell' = true := by
  intro u hu
  simp only [List.mem_cons, List.not_mem_nil, or_false] at hu
  rcases hu with rfl | rfl | rfl <;> rfl
set_option maxHeartbeats 4000000 in
set_option maxRecDepth 20000 in
theorem token_any (t : Tk) (htk : t.kind = 1 ∨ t.kind = 2 ∨ t.kind = 3 ∨ t.kind = 4 ∨ t.kind = 5 ∨ t.kind = 6) (r : Rd) (h : Has w0 w q r) (hbd : Bd r 19990) :
    Calls Tryd.prog 22 #[.pointer (some ⟨q, 0, none⟩), .agg #[.int .u8 t.kind, .int .i64 t.at_, .int .i64 t.n, .string t.s]] w
      (TokC w0 w q (token r t)) := by
  have hF0 := (MM.Far.refl [] w).alloc (.cells #[.int .u8 t.kind, .int .i64 t.at_, .int .i64 t.n, .string t.s] 48)
  have HF := Lib.hid hF0
  obtain ⟨rv, tv, ov, rs, os, hR, hrs, hos⟩ := h.to hF0
  obtain ⟨oA, oc, rfl⟩ := form_ w0 hR.op
  have HB := Lib.hid (MM.Row.new w 48 [.int .u8 t.kind, .int .i64 t.at_, .int .i64 t.n, .string t.s])
  have z0 := HB.out.at (i := 0) rfl
  have z1 := HB.out.at (i := 1) rfl
  have z2 := HB.out.at (i := 2) rfl
  have z3 := HB.out.at (i := 3) rfl
  have c2 := hR.head.at (i := 2) rfl
  have hol : os.length = r.op.length := by rw [← hos, List.length_map]
  have hsum : rs.length + os.length ≤ 19990 := by have := hbd.sum; rw [← hrs, ← hos, List.length_map, List.length_map] at this; exact this
  have htop : r.tops.length ≤ 20000 := by have := hbd.tops; omega
  have hls : ∀ p ∈ os, p.1.l.length ≤ 20000 := fun p hp => by have := hbd.lists _ (by rw [← hos]; exact List.mem_map_of_mem hp); omega
  have HR := Lib.hid hR
  have HRS := Lib.hid hrs
  have HOS := Lib.hid hos
  have HOL := Lib.hid hol
  have HBD := Lib.hid hbd
  have HLS := Lib.hid hls
  have HSUM := Lib.hid hsum
  have HTOP := Lib.hid htop
  clear hF0 h hR hrs hos hbd hls htop hol
  obtain ⟨kd, at_, n, s⟩ := t
  simp only at *
  have hos2 : os.length ≤ 20000 := by omega
  clear hsum
  go_enter Tryd.func22, Tryd.ntmps22
  go_wp2
  obtain ⟨tb, htb⟩ : ∃ tb, w.heap.size = tb := ⟨_, rfl⟩
  rw [htb] at HB z0 z1 z2 z3
  rw [htb]
  clear htb
  generalize hWE : w.alloc (.cells #[.int .u8 kd, .int .i64 at_, .int .i64 n, .string s] 48) = W at *
  have HB' : Hid (MM.Row W tb 48 [.int .u8 kd, .int .i64 at_, .int .i64 n, .string s]) := Lib.hid (hWE ▸ HB.out)
  clear hWE HB
  go_cut [5] (fun s5 wx => s5 = .bool (inQ r) ∧ ∃ d, wx = W.drewN d)
  case first =>
    by_cases ho : os.length = 0
    · have d1 : decide ((0 : Int) < (os.length : Int)) = false := by rw [decide_eq_false_iff_not]; omega
      have d2 : decide (0 < os.length) = false := by rw [decide_eq_false_iff_not]; omega
      have d3 : ¬ 0 < os.length := by omega
      have HE : Hid (inQ r = false) := Lib.hid (by
        have : r.op = [] := List.length_eq_zero_iff.1 (by rw [← HOL.out]; exact ho)
        unfold inQ; rw [this])
      clear ho
      go_quiet (fail)
      go_wp2
      go_meet
      exact ⟨by rw [HE.out], _, rfl⟩
    · obtain ⟨⟨p, hp⟩, os1, rfl⟩ : ∃ z os1, os = z :: os1 := by
        cases os with
        | nil => exact absurd rfl ho
        | cons z l => exact ⟨z, l, rfl⟩
      obtain ⟨og, oc2, e, cA, cQ, cL, hfz, hog, hog0⟩ := open_at HR.out
      injection e with e1 e2 e3
      subst e1 e3
      have HE : Hid (inQ r = p.q) := Lib.hid (by
        unfold inQ; rw [← HOS.out, List.map_cons])
      rw [List.length_cons] at c2 hos2
      have d1 : decide ((0 : Int) < ((os1.length : Nat) : Int) + 1) = true := by rw [decide_eq_true_iff]; omega
      have h1 : (os1.length : Int) < (os1.length : Int) + 1 := by omega
      have hwr : IntKind.i64.wrap ((os1.length : Nat) : Int) = (os1.length : Int) := IntWalk.i64_in _ (by omega)
      clear ho e2
      go_quiet (fail)
      go_wp2
      go_meet
      exact ⟨by rw [HE.out], _, rfl⟩
  case rest =>
    obtain ⟨rfl, d, rfl⟩ := hcut
    have hFd := (MM.Far.refl [] W).drewN d
    have HRd := Lib.hid (HR.out.to hFd)
    have HBd := Lib.hid (HB'.out.far hFd (by simp))
    have HF2 := Lib.hid (HF.out.trans hFd (by simp))
    clear hFd HF HR HB' z0 z1 z2 z3 c2
    obtain ⟨V, hV⟩ : ∃ V, W.drewN d = V := ⟨_, rfl⟩
    rw [hV] at HRd HBd HF2
    rw [hV]
    clear hV
    have z0 := HBd.out.at (i := 0) rfl
    have z1 := HBd.out.at (i := 1) rfl
    have z2 := HBd.out.at (i := 2) rfl
    have z3 := HBd.out.at (i := 3) rfl
    have c2 := HRd.out.head.at (i := 2) rfl
    have f2 := HRd.out.head.frozen 2
    rcases htk with rfl | rfl | rfl | rfl | rfl | rfl
    · have hkq : ((1 : Int) == 3) = false := by decide
      by_cases hd : 50 ≤ os.length
      · have hd1 : decide ((50 : Int) ≤ (os.length : Int)) = true := by simp; omega
        have HT : Hid (token r ⟨1, at_, n, s⟩ = .error 62) := Lib.hid (by
          have h50 : 50 ≤ r.op.length := by rw [← HOL.out]; exact hd
          unfold token; simp [h50])
        go_wp2
        go_ret
        rw [HT.out]
        exact ⟨rfl, HF2.out⟩
      · have hd1 : decide ((50 : Int) ≤ (os.length : Int)) = false := by simp; omega
        have HT : Hid (token r ⟨1, at_, n, s⟩ = .ok ⟨r.row, r.tops, ⟨at_, false, []⟩ :: r.op⟩) := Lib.hid (by
          have h50 : ¬ 50 ≤ r.op.length := by rw [← HOL.out]; exact hd
          unfold token; simp [h50])
        have F6 : MM.Far [] V (V.alloc (.cells #[.int .i64 at_, .bool false, .slice none 0 0] 57)) := (MM.Far.refl [] V).alloc _
        have c2a := (HRd.out.to F6).head.at (i := 2) rfl
        have hbV := HRd.out.far.size
        have z0a := (HBd.out.far F6 (by simp)).at (i := 0) rfl
        have z1a := (HBd.out.far F6 (by simp)).at (i := 1) rfl
        clear F6
        go_wp2
        go_cut [] (fun wx => CutP w0 q rv tv rs r.tops os at_ false tb [.int .u8 1, .int .i64 at_, .int .i64 n, .string s] wx)
        case first =>
          go_region_law (
            refine MO.step_append ?_ (.tmp 69) (.tmp 76) 53 ?_ w0.heap.size 57 _ 3 40 parts_slice part_info rfl (by omega) (.slice oA os.length oc) os.length (ptC os.reverse) ?_ ?_ (some ⟨V.heap.size, 0, none⟩) 1 1 [.int .i64 at_, .bool false, .slice none 0 0] ?_ rfl (fun h => by cases h) [] ?_ (pt_one at_ false) ?_ ?_ ?_ ?_
            · rfl
            · rfl
            · rfl
            · exact HRd.out.op.alloc _
            · rfl
            · exact (MM.Src.row (MM.Row.new V 57 [.int .i64 at_, .bool false, .slice none 0 0]) (by simp) _ (fun j u hu => hu))
            · simp only [maxLen]; omega
            · omega
            · simp; omega
            intro v2 w2 hv2 hg2 hat2
            obtain ⟨A2, c2, rfl⟩ := form_ w0 hv2
            have F2 : MM.Far (Value.slice oA os.length oc).ownBlock.toList V w2 := far_app hg2
            have HH2 : Hid (MM.Row w2 q 55 _) := Lib.hid (HRd.out.head.far F2 (fun hm => MM.own_row_ne HRd.out.op HRd.out.head (by decide) (by simpa using hm)))
            have d2W := HH2.out.at (i := 2) rfl
            have e2W := HH2.out.frozen 2
            have HN := Lib.hid (HRd.out.push (w1 := w2) ⟨at_, false, []⟩ rfl hv2 F2)
            have HB2 := Lib.hid ((HBd.out.far F2 (fun hm => MM.own_row_ne HRd.out.op HBd.out (by decide) (by simpa using hm))).other (p := ⟨q, 2, none⟩) (fun e => by
              have hbq := HBd.out
              rw [e] at hbq
              exact HRd.out.head.ne hbq (by decide) rfl) (.slice A2 (os.length + 1) c2))
            clear hg2 hv2 hat2 F2)
          all_goals
            go_wp2_with fail
            go_meet
            exact ⟨HB2.out, _, HN.out⟩
        case rest =>
          obtain ⟨hB6, ov6, hR6⟩ := hcut
          have HR6 := Lib.hid hR6
          have y0 := hB6.at (i := 0) rfl
          have y1 := hB6.at (i := 1) rfl
          clear hR6 hB6 z0 z1 z2 z3 c2 f2 c2a z0a z1a
          go_wp2
          go_ret
          rw [HT.out]
          exact ⟨rfl, rv, tv, ov6, rs, _, HR6.out, HRS.out, by rw [List.map_cons, HOS.out]⟩
    · obtain ⟨bq, hbq⟩ : ∃ bq, inQ r = bq := ⟨_, rfl⟩
      have HBQ := Lib.hid hbq
      rw [hbq]
      clear hbq
      cases bq with
      | true =>
        have HT : Hid (token r ⟨2, at_, n, s⟩ = .error 63) := Lib.hid (by unfold token; simp [HBQ.out])
        go_wp2
        go_ret
        rw [HT.out]
        exact ⟨rfl, HF2.out⟩
      | false =>
        by_cases ho : os.length = 0
        · have HT : Hid (token r ⟨2, at_, n, s⟩ = .error 61) := Lib.hid (by
            have : r.op = [] := List.length_eq_zero_iff.1 (by rw [← HOL.out]; exact ho)
            unfold token; simp [HBQ.out, this])
          have d1 : (((os.length : Nat) : Int) == 0) = true := by simp [ho]
          clear ho
          go_wp2
          go_ret
          rw [HT.out]
          exact ⟨rfl, HF2.out⟩
        · obtain ⟨⟨p, hp⟩, os1, rfl⟩ : ∃ z os1, os = z :: os1 := by
            cases os with
            | nil => exact absurd rfl ho
            | cons z l => exact ⟨z, l, rfl⟩
          have hop : r.op = p :: os1.map (·.1) := by rw [← HOS.out, List.map_cons]
          have HT : Hid (token r ⟨2, at_, n, s⟩ = .ok (putO (os1.map (·.1)) r.row r.tops ⟨4, p.at_, 0, emp, p.l⟩)) := Lib.hid (by
            unfold token close; simp [HBQ.out, hop])
          have HC := Lib.hid (close_all os1.length rfl HRd.out (by have := HSUM.out; rw [List.length_cons] at this; omega) HTOP.out (fun z hz => HLS.out z (List.mem_cons_of_mem _ hz)))
          rw [List.length_cons] at c2 hos2
          have d0 : decide (((os1.length : Nat) : Int) + 1 = 0) = false := by simp; omega
          have d1 : (((os1.length : Nat) : Int) + 1 == 0) = false := by rw [beq_eq_false_iff_ne]; omega
          clear ho hop
          go_wp2_with (go_at_call 37; refine HC.out.mono ?_; rintro e w7 ⟨rfl, h7⟩; have H7 := Lib.hid h7; clear h7)
          go_ret
          rw [HT.out]
          obtain ⟨rv7, tv7, ov7, rs7, os7, h1, h2, h3⟩ := H7.out
          rw [HRS.out] at h1 h2 h3
          exact ⟨rfl, rv7, tv7, ov7, rs7, os7, h1, h2, h3⟩
    · have hkq : ((3 : Int) == 3) = true := by decide
      by_cases hd : 50 ≤ os.length
      · have hd1 : decide ((50 : Int) ≤ (os.length : Int)) = true := by simp; omega
        have HT : Hid (token r ⟨3, at_, n, s⟩ = .error 62) := Lib.hid (by
          have h50 : 50 ≤ r.op.length := by rw [← HOL.out]; exact hd
          unfold token; simp [h50])
        go_wp2
        go_ret
        rw [HT.out]
        exact ⟨rfl, HF2.out⟩
      · have hd1 : decide ((50 : Int) ≤ (os.length : Int)) = false := by simp; omega
        have HT : Hid (token r ⟨3, at_, n, s⟩ = .ok (put ⟨r.row, r.tops, ⟨at_, true, []⟩ :: r.op⟩ ⟨3, at_, 0, quoteB, []⟩)) := Lib.hid (by
          have h50 : ¬ 50 ≤ r.op.length := by rw [← HOL.out]; exact hd
          unfold token; simp [h50])
        have F6 : MM.Far [] V (V.alloc (.cells #[.int .i64 at_, .bool true, .slice none 0 0] 57)) := (MM.Far.refl [] V).alloc _
        have c2a := (HRd.out.to F6).head.at (i := 2) rfl
        have hbV := HRd.out.far.size
        have z0a := (HBd.out.far F6 (by simp)).at (i := 0) rfl
        have z1a := (HBd.out.far F6 (by simp)).at (i := 1) rfl
        clear F6
        go_wp2
        go_cut [] (fun wx => CutP w0 q rv tv rs r.tops os at_ true tb [.int .u8 3, .int .i64 at_, .int .i64 n, .string s] wx)
        case first =>
          go_region_law (
            refine MO.step_append ?_ (.tmp 69) (.tmp 76) 53 ?_ w0.heap.size 57 _ 3 40 parts_slice part_info rfl (by omega) (.slice oA os.length oc) os.length (ptC os.reverse) ?_ ?_ (some ⟨V.heap.size, 0, none⟩) 1 1 [.int .i64 at_, .bool true, .slice none 0 0] ?_ rfl (fun h => by cases h) [] ?_ (pt_one at_ true) ?_ ?_ ?_ ?_
            · rfl
            · rfl
            · rfl
            · exact HRd.out.op.alloc _
            · rfl
            · exact (MM.Src.row (MM.Row.new V 57 [.int .i64 at_, .bool true, .slice none 0 0]) (by simp) _ (fun j u hu => hu))
            · simp only [maxLen]; omega
            · omega
            · simp; omega
            intro v2 w2 hv2 hg2 hat2
            obtain ⟨A2, c2, rfl⟩ := form_ w0 hv2
            have F2 : MM.Far (Value.slice oA os.length oc).ownBlock.toList V w2 := far_app hg2
            have HH2 : Hid (MM.Row w2 q 55 _) := Lib.hid (HRd.out.head.far F2 (fun hm => MM.own_row_ne HRd.out.op HRd.out.head (by decide) (by simpa using hm)))
            have d2W := HH2.out.at (i := 2) rfl
            have e2W := HH2.out.frozen 2
            have HN := Lib.hid (HRd.out.push (w1 := w2) ⟨at_, true, []⟩ rfl hv2 F2)
            have HB2 := Lib.hid ((HBd.out.far F2 (fun hm => MM.own_row_ne HRd.out.op HBd.out (by decide) (by simpa using hm))).other (p := ⟨q, 2, none⟩) (fun e => by
              have hbq := HBd.out
              rw [e] at hbq
              exact HRd.out.head.ne hbq (by decide) rfl) (.slice A2 (os.length + 1) c2))
            clear hg2 hv2 hat2 F2)
          all_goals
            go_wp2_with fail
            go_meet
            exact ⟨HB2.out, _, HN.out⟩
        case rest =>
          obtain ⟨hB6, ov6, hR6⟩ := hcut
          have HR6 := Lib.hid hR6
          have y0 := hB6.at (i := 0) rfl
          have y1 := hB6.at (i := 1) rfl
          clear hR6 hB6 z0 z1 z2 z3 c2 f2 c2a z0a z1a
          have HA := Lib.hid (put_any ⟨3, at_, 0, quoteB, []⟩ none 0 HR6.out.ex_none (by have := HSUM.out; rw [List.length_cons]; omega) HTOP.out (by
            intro p hp
            rcases List.mem_cons.1 hp with rfl | hp
            · simp
            · exact HLS.out p hp))
          go_wp2_with (go_at_call 36; refine HA.out.mono ?_; rintro e w7 ⟨rfl, h7⟩; have H7 := Lib.hid h7; clear h7)
          go_ret
          rw [HT.out]
          obtain ⟨rv7, tv7, ov7, rs7, os7, h1, h2, h3⟩ := H7.out
          rw [List.map_cons, HOS.out, HRS.out] at h1 h2 h3
          exact ⟨rfl, rv7, tv7, ov7, rs7, os7, h1, h2, h3⟩
    · have HA := Lib.hid (put_any ⟨1, at_, n, emp, []⟩ none 0 HRd.out.ex_none (by have := HSUM.out; omega) HTOP.out HLS.out)
      have HT : Hid (token r ⟨4, at_, n, s⟩ = .ok (put r ⟨1, at_, n, emp, []⟩)) := Lib.hid (by unfold token; simp)
      go_wp2_with (go_at_call 36; refine HA.out.mono ?_; rintro e w2 h2; have h3 := put_has HRS.out HOS.out h2; have he := h3.1; subst he; have HP2 := Lib.hid h3.2; clear h2 h3)
      go_ret
      rw [HT.out]
      exact ⟨rfl, HP2.out⟩
    · have HA := Lib.hid (put_any ⟨2, at_, n, emp, []⟩ none 0 HRd.out.ex_none (by have := HSUM.out; omega) HTOP.out HLS.out)
      have HT : Hid (token r ⟨5, at_, n, s⟩ = .ok (put r ⟨2, at_, n, emp, []⟩)) := Lib.hid (by unfold token; simp)
      go_wp2_with (go_at_call 36; refine HA.out.mono ?_; rintro e w2 h2; have h3 := put_has HRS.out HOS.out h2; have he := h3.1; subst he; have HP2 := Lib.hid h3.2; clear h2 h3)
      go_ret
      rw [HT.out]
      exact ⟨rfl, HP2.out⟩
    · have HA := Lib.hid (put_any ⟨3, at_, 0, s, []⟩ none 0 HRd.out.ex_none (by have := HSUM.out; omega) HTOP.out HLS.out)
      have HT : Hid (token r ⟨6, at_, n, s⟩ = .ok (put r ⟨3, at_, 0, s, []⟩)) := Lib.hid (by unfold token; simp)
      go_wp2_with (go_at_call 36; refine HA.out.mono ?_; rintro e w2 h2; have h3 := put_has HRS.out HOS.out h2; have he := h3.1; subst he; have HP2 := Lib.hid h3.2; clear h2 h3)
      go_ret
      rw [HT.out]
      exact ⟨rfl, HP2.out⟩
end
end RM6
end Go.Proofs.YtkhcaejijlaohaaDoor
