/-
  Contracts of the code's reader: take, end. Conditions: there are no more than 20000 data; tokens of the six kinds.
-/
import Derived.Test.YtbglcdjimipeeaaDoorReadC4
import Derived.Test.YtbglcdjimipeeaaDoorReadTop
namespace Go.Proofs.YtbglcdjimipeeaaDoor
open Go.RowKit
namespace RC6
open LX RX RW6
open RM6 (Kin ndC kinsN kinsP ints_snoc ints_len ndC_snoc own_off one_far)
section
variable {w0 w : World} {q : Nat} {rv tv ov : Value} {rs : List (Nd × Value)} {tops : List Nat} {os : List (Pt × Value)} {ex : List (Value × List Nat)}
theorem TokC.from {w1 w' : World} {X : Except Int Rd} {e : Ending} (f : MM.Far [] w w1) (h : TokC w0 w1 q X e w') : TokC w0 w q X e w' := by
  cases X with
  | error z => exact ⟨h.1, f.trans h.2 (by simp)⟩
  | ok r => exact ⟨h.1, (KeepT.nil f).trans h.2.1, h.2.2⟩
theorem put_has {w' : World} {r : Rd} {x : Nd} {e : Ending} (hrs : rs.map (·.1) = r.row) (hos : os.map (·.1) = r.op) (h : PutC w0 w q (putO (os.map (·.1)) (rs.map (·.1)) r.tops x) [] e w') : KeepT w w' ∧ Has w0 w' q (put r x) := by
  obtain ⟨_, hk, rv, tv, ov, rs2, os2, h1, h2, h3⟩ := h
  rw [hrs, hos] at h1 h2 h3
  exact ⟨hk, rv, tv, ov, rs2, os2, h1, h2, h3⟩
set_option maxHeartbeats 4000000 in
set_option maxRecDepth 20000 in
theorem take_any (t : Tk) (htk : t.kind = 1 ∨ t.kind = 2 ∨ t.kind = 3 ∨ t.kind = 4 ∨ t.kind = 5 ∨ t.kind = 6) (r : Rd) (h : Has w0 w q r) (hbd : Bd r 19990) :
    Calls Tryd.prog 9 #[.pointer (some ⟨q, 0, none⟩), .agg #[.int .u8 t.kind, .int .i64 t.at_, .int .i64 t.n, .string t.s]] w
      (TokC w0 w q (token r t)) := by
  have hF0 := (MM.Far.refl [] w).alloc (.cells #[.int .u8 t.kind, .int .i64 t.at_, .int .i64 t.n, .string t.s] 43)
  have HF := Lib.hid hF0
  have HH := Lib.hid (h.to hF0)
  obtain ⟨rv, tv, ov, rs, os, hR, hrs, hos⟩ := h.to hF0
  have HB := Lib.hid (MM.Row.new w 43 [.int .u8 t.kind, .int .i64 t.at_, .int .i64 t.n, .string t.s])
  have z0 := HB.out.at (i := 0) rfl
  have z1 := HB.out.at (i := 1) rfl
  have z2 := HB.out.at (i := 2) rfl
  have z3 := HB.out.at (i := 3) rfl
  have hsum : rs.length + os.length ≤ 20000 := by have := hbd.sum; rw [← hrs, ← hos, List.length_map, List.length_map] at this; omega
  have htop : r.tops.length ≤ 20000 := by have := hbd.tops; omega
  have hls : ∀ p ∈ os, p.1.l.length ≤ 20000 := fun p hp => by have := hbd.lists _ (by rw [← hos]; exact List.mem_map_of_mem hp); omega
  have HRn := Lib.hid hR.ex_none
  have HRS := Lib.hid hrs
  have HOS := Lib.hid hos
  have HBD := Lib.hid hbd
  have HLS := Lib.hid hls
  have HSUM := Lib.hid hsum
  have HTOP := Lib.hid htop
  clear hF0 h hR hrs hos hbd hls hsum htop
  obtain ⟨kd, at_, n, s⟩ := t
  simp only at *
  rcases htk with rfl | rfl | rfl | rfl | rfl | rfl
  · have HC := Lib.hid (begin_any ⟨1, at_, n, s⟩ (.inl rfl) r HH.out HBD.out)
    obtain ⟨X, hX⟩ : ∃ X, token r ⟨1, at_, n, s⟩ = X := ⟨_, rfl⟩
    rw [hX] at HC ⊢
    clear hX
    cases X with
    | error z =>
      go_enter Tryd.func9, Tryd.ntmps9
      go_wp2_with (go_at_call 13; refine HC.out.mono ?_; rintro e w2 ⟨rfl, hF2⟩; have HF2 := Lib.hid hF2; clear hF2)
      go_ret
      exact ⟨rfl, HF.out.trans HF2.out (by simp)⟩
    | ok R =>
      go_enter Tryd.func9, Tryd.ntmps9
      go_wp2_with (go_at_call 13; refine HC.out.mono ?_; rintro e w2 ⟨rfl, hK2, hH2⟩; have HK2 := Lib.hid hK2; have HH2 := Lib.hid hH2; clear hK2 hH2)
      go_ret
      exact ⟨rfl, (KeepT.nil HF.out).trans HK2.out, HH2.out⟩
  · have HC := Lib.hid (finish_any ⟨2, at_, n, s⟩ rfl r HH.out HBD.out)
    obtain ⟨X, hX⟩ : ∃ X, token r ⟨2, at_, n, s⟩ = X := ⟨_, rfl⟩
    rw [hX] at HC ⊢
    clear hX
    cases X with
    | error z =>
      go_enter Tryd.func9, Tryd.ntmps9
      go_wp2_with (go_at_call 14; refine HC.out.mono ?_; rintro e w2 ⟨rfl, hF2⟩; have HF2 := Lib.hid hF2; clear hF2)
      go_ret
      exact ⟨rfl, HF.out.trans HF2.out (by simp)⟩
    | ok R =>
      go_enter Tryd.func9, Tryd.ntmps9
      go_wp2_with (go_at_call 14; refine HC.out.mono ?_; rintro e w2 ⟨rfl, hK2, hH2⟩; have HK2 := Lib.hid hK2; have HH2 := Lib.hid hH2; clear hK2 hH2)
      go_ret
      exact ⟨rfl, (KeepT.nil HF.out).trans HK2.out, HH2.out⟩
  · have HC := Lib.hid (begin_any ⟨3, at_, n, s⟩ (.inr rfl) r HH.out HBD.out)
    obtain ⟨X, hX⟩ : ∃ X, token r ⟨3, at_, n, s⟩ = X := ⟨_, rfl⟩
    rw [hX] at HC ⊢
    clear hX
    cases X with
    | error z =>
      go_enter Tryd.func9, Tryd.ntmps9
      go_wp2_with (go_at_call 13; refine HC.out.mono ?_; rintro e w2 ⟨rfl, hF2⟩; have HF2 := Lib.hid hF2; clear hF2)
      go_ret
      exact ⟨rfl, HF.out.trans HF2.out (by simp)⟩
    | ok R =>
      go_enter Tryd.func9, Tryd.ntmps9
      go_wp2_with (go_at_call 13; refine HC.out.mono ?_; rintro e w2 ⟨rfl, hK2, hH2⟩; have HK2 := Lib.hid hK2; have HH2 := Lib.hid hH2; clear hK2 hH2)
      go_ret
      exact ⟨rfl, (KeepT.nil HF.out).trans HK2.out, HH2.out⟩
  · have HA := Lib.hid (add_any ⟨1, at_, n, emp, []⟩ none 0 HRn.out HSUM.out HTOP.out HLS.out)
    have HT : Hid (token r ⟨4, at_, n, s⟩ = .ok (put r ⟨1, at_, n, emp, []⟩)) := Lib.hid (by unfold token; simp)
    rw [HT.out]
    go_enter Tryd.func9, Tryd.ntmps9
    go_wp2_with (go_at_call 15; refine HA.out.mono ?_; rintro e w2 h2; have he := h2.1; subst he; have HP2 := Lib.hid (put_has HRS.out HOS.out h2); clear h2)
    go_ret
    exact ⟨rfl, (KeepT.nil HF.out).trans HP2.out.1, HP2.out.2⟩
  · have HA := Lib.hid (add_any ⟨2, at_, n, emp, []⟩ none 0 HRn.out HSUM.out HTOP.out HLS.out)
    have HT : Hid (token r ⟨5, at_, n, s⟩ = .ok (put r ⟨2, at_, n, emp, []⟩)) := Lib.hid (by unfold token; simp)
    rw [HT.out]
    go_enter Tryd.func9, Tryd.ntmps9
    go_wp2_with (go_at_call 15; refine HA.out.mono ?_; rintro e w2 h2; have he := h2.1; subst he; have HP2 := Lib.hid (put_has HRS.out HOS.out h2); clear h2)
    go_ret
    exact ⟨rfl, (KeepT.nil HF.out).trans HP2.out.1, HP2.out.2⟩
  · have HA := Lib.hid (add_any ⟨3, at_, 0, s, []⟩ none 0 HRn.out HSUM.out HTOP.out HLS.out)
    have HT : Hid (token r ⟨6, at_, n, s⟩ = .ok (put r ⟨3, at_, 0, s, []⟩)) := Lib.hid (by unfold token; simp)
    rw [HT.out]
    go_enter Tryd.func9, Tryd.ntmps9
    go_wp2_with (go_at_call 15; refine HA.out.mono ?_; rintro e w2 h2; have he := h2.1; subst he; have HP2 := Lib.hid (put_has HRS.out HOS.out h2); clear h2)
    go_ret
    exact ⟨rfl, (KeepT.nil HF.out).trans HP2.out.1, HP2.out.2⟩
/-- What the end comes to. -/
def EndP (w : World) (X : Except (Int × Int) Rd) (e : Ending) (w' : World) : Prop := (match X with
  | .ok _ => e = .returned (.tuple #[.int .i64 0, .int .i64 0])
  | .error (a, z) => e = .returned (.tuple #[.int .i64 a, .int .i64 z])) ∧ ∃ d, w' = w.drewN d
set_option maxHeartbeats 1000000 in
theorem end_any (r : Rd) (h : Has w0 w q r) (hbd : Bd r 20000) :
    Calls Tryd.prog 10 #[.pointer (some ⟨q, 0, none⟩)] w (EndP w (endE r)) := by
  obtain ⟨rv, tv, ov, rs, os, hR, hrs, hos⟩ := h
  obtain ⟨oA, oc, rfl⟩ := form_ w0 hR.op
  have hol : os.length = r.op.length := by rw [← hos, List.length_map]
  have HR := Lib.hid hR
  have c2 := HR.out.head.at (i := 2) rfl
  by_cases ho : os.length = 0
  · have d1 : (((os.length : Nat) : Int) == 0) = true := by simp [ho]
    have HE : Hid (endE r = .ok r) := Lib.hid (by
      have hop : r.op = [] := List.eq_nil_of_length_eq_zero (by omega)
      unfold endE; rw [hop])
    clear hR hrs hos hol ho hbd
    go_enter Tryd.func10, Tryd.ntmps10
    go_wp2
    go_ret2
    rw [HE.out]
    exact ⟨rfl, 0, rfl⟩
  · obtain ⟨⟨p, hp⟩, os1, rfl⟩ : ∃ z os1, os = z :: os1 := by
      cases os with
      | nil => exact absurd rfl ho
      | cons z l => exact ⟨z, l, rfl⟩
    obtain ⟨og, oc2, e, hc1, hc2, c0, c1, c2', c3, c4, c5, hfz, hog, hog0⟩ := open_at HR.out
    injection e with e1 e2 e3
    subst e1 e3
    have hop : r.op = p :: os1.map (·.1) := by rw [← hos, List.map_cons]
    have hos1 : os1.length ≤ 20000 := by have := hbd.sum; rw [hop, List.length_cons, List.length_map] at this; omega
    rw [List.length_cons] at c2
    have d0 : decide (((os1.length : Nat) : Int) + 1 = 0) = false := by simp; omega
    obtain ⟨bq, hbq⟩ : ∃ bq, p.q = bq := ⟨_, rfl⟩
    have HQ := Lib.hid c2
    have HE : Hid (endE r = if bq = true then .error (p.at_, 63) else .error (p.at_, 60)) := Lib.hid (by unfold endE; rw [hop]; simp only [hbq])
    have HC5 := Lib.hid (hbq ▸ c5)
    have HC1 := Lib.hid c1
    clear hR hrs hos hol hbd hop ho e2 c0 c1 c2' c3 c4 c5 hfz hbq
    cases bq
    all_goals
      have c1 := HC1.out
      have c5 := HC5.out
      go_enter Tryd.func10, Tryd.ntmps10
      go_wp2_with (first
        | (go_at_call 16; refine (inner_any _ HQ.out hos1).mono ?_; rintro e w3 ⟨rfl, d, rfl⟩))
      go_ret2
      rw [HE.out]
      exact ⟨rfl, d, rfl⟩
end
end RC6
end Go.Proofs.YtbglcdjimipeeaaDoor
