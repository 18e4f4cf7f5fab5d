/-
  Contract of the code's Word. Conditions: the arena's rows are as the list says; what the names' table tells; the numbers' table.
-/
import Derived.Test.YtbglcdjimipeeaaGreatDoorWordC2
import Derived.Defers
import Derived.Recover
import Derived.Laws.IdiomStrings
import Derived.Laws.BytesArg
namespace Go.Proofs.YtbglcdjimipeeaaGreatDoor
open Go.RowKit
namespace SX
theorem wrt_err {tS : Int → ByteArray} {tB : Int → Bool} {ts : List AP.Th} : ∀ (f : Nat) (m : Bool) (T : List UInt8) (x : Int) (E : List UInt8), 122 ≤ f + T.length → T.length ≤ 120 → wrt tS tB ts f m T x = .error E → 120 < E.length := by
  intro f
  induction f with
  | zero => intro m T x E h1 h2 h; omega
  | succ f ih =>
    intro m T x E h1 h2 h
    unfold wrt at h
    split at h
    · split at h
      · rename_i e he
        injection h with h
        subst h
        exact (ad_err he).2
      · rename_i T2 he
        obtain ⟨_, l2, g2⟩ := ad_ok he
        have : T.length + 1 = T2.length := by
          rw [← g2]; split <;> rfl
        split at h
        · rename_i e he2
          injection h with h
          subst h
          exact ih _ _ _ _ (by omega) l2 he2
        · rename_i T3 he3
          have := wr_len he3
          exact ih _ _ _ _ (by omega) (by omega) h
    split at h
    · exact (ad_err h).2
    split at h
    · exact (ad_err h).2
    split at h
    · rename_i e he
      injection h with h
      subst h
      exact (ad_err he).2
    · split at h
      · rename_i e he
        injection h with h
        subst h
        exact (ad_err he).2
      · exact (ad_err h).2
/-- A word's text, cut where it is too long. -/
def cutX (X : Except (List UInt8) (List UInt8)) : List UInt8 := match X with
  | .ok T => T
  | .error T => T.take 117 ++ [46, 46, 46]
end SX
namespace SW
open LX SX
open RC6 (form_)
theorem cell_bytes {w : World} {base : Nat} {bv : Value} {T : List UInt8} (h : w.ownsRow base 5 1 bv T.length (Lib.byteCells T)) : (bv = .slice none 0 0 ∧ T = []) ∨ ∃ g c, bv = .slice (some ⟨g, 0, none⟩) T.length c ∧ T.length ≤ c ∧ c ≤ maxLen ∧ ∀ j (hj : j < T.length), w.cell? ((⟨g, 0, none⟩ : Addr).add j) = some (.int .u8 (T[j].toNat : Int)) := by
  rcases h.2 with ⟨rfl, hz⟩ | ⟨g, cap, cur, rfl, hbg, hg, hn, hm, _⟩
  · exact .inl ⟨rfl, List.eq_nil_of_length_eq_zero hz⟩
  · refine .inr ⟨g, cap, rfl, hn, hm, fun j hj => ?_⟩
    exact h.cells (g := g) rfl j (.int .u8 (T[j].toNat : Int)) (by simp [Lib.byteCells, hj])
theorem ta_yes (w : World) : (Instr.typeAssert (.iface 100 (.agg #[])) 20 100 true).run Tryz.prog w = .ok (.tuple #[.agg #[], .bool true]) w := by kernel_rfl
theorem ta_no (w : World) : (Instr.typeAssert .nilIface 20 100 true).run Tryz.prog w = .ok (.tuple #[.agg #[], .bool false]) w := by kernel_rfl
set_option maxHeartbeats 200000 in
set_option maxRecDepth 20000 in
/-- The deferred closure, behind a panic of its own type. -/
theorem catch_yes {w : World} {q rp g c : Nat} {T : List UInt8} {m : Nat} (hm : T.length = m) (hc2 : w.cell? ⟨q, 2, none⟩ = some (.slice (some ⟨g, 0, none⟩) m c)) (hlo : 120 < m) (hcap : m ≤ c) (hcell : ∀ j (hj : j < T.length), w.cell? ((⟨g, 0, none⟩ : Addr).add j) = some (.int .u8 (T[j].toNat : Int)))
    (hg : g < w.heap.size) (hr : MM.Row w rp 9 [.string ⟨#[]⟩]) (older : List PanicEntry) :
    CallsD Tryz.prog 42 #[.pointer (some ⟨q, 0, none⟩), .pointer (some ⟨rp, 0, none⟩)] (.panicking ({ v := tooLong, recovered := false } :: older)) w fun e u' w' =>
      e = .returned (.tuple #[]) ∧ u' = .panicking ({ v := tooLong, recovered := true } :: older) ∧ MM.Far [rp] w w' ∧ MM.Row w' rp 9 [.string (str (T.take 117 ++ [46, 46, 46]))] := by
  refine callsD_of_wpS Tryz.func42 rfl fun c₀ cs hu => ?_
  apply wpS_seq
  apply wpS_region
  simp [wpOpsS, go_sem, recoverD, hu, Tryz.ntmps42, Exit.thenS, tooLong, ta_yes]
  refine wpS_of_wp ?_
  change Code.wp _ _ _ { tmps := #[.pointer (some ⟨q, 0, none⟩), .pointer (some ⟨rp, 0, none⟩), .pointer (some ⟨w.heap.size, 0, none⟩), .bool true, .tuple #[.agg #[], .bool true], .iface 100 (.agg #[]), .tuple #[.agg #[], .bool true], .agg #[], .bool true, undef, undef, undef, undef, undef, undef], defers := [] } _
  have hF := (MM.Far.refl [] w).alloc (.cells #[] 100)
  have hq := World.block_lt_of_cell? w _ hc2
  have k2 := (hF.cell (p := ⟨q, 2, none⟩) hq (by simp)).trans hc2
  have hr2 := hr.far hF (by simp)
  have hT := List.length_take (i := 117) (l := T)
  have hcv : ∀ W : World, MM.Far [] w W → (convert 72 9 (.slice (some ⟨g, 0, none⟩) 117 c)).run Tryz.prog W = .ok (.string (str (T.take 117))) W := fun W f => by
    have h1 : (T.take 117).length = 117 := by rw [hT]; omega
    have := run_convert_bytes_back (P := Tryz.prog) W 72 9 5 ⟨g, 0, none⟩ c (T.take 117) Tryz.underlying72 Tryz.underlying5 Tryz.underlying9 (fun j hj => by
      rw [f.cell (by rw [MM.add_block]; exact hg) (by simp), hcell j (by rw [h1] at hj; omega)]
      rw [List.getElem_take])
    rw [h1] at this
    exact this
  have hcv1 := hcv _ hF
  have f0 := hr2.frozen 0
  have r0 := hr2.at (i := 0) rfl
  have hsz : (str (T.take 117)).size ≤ 117 := by show (T.take 117).length ≤ 117; rw [hT]; omega
  have HE : Hid ((str (T.take 117)) ++ (⟨#[46, 46, 46]⟩ : ByteArray) = str (T.take 117 ++ [46, 46, 46])) := Lib.hid (str_app (str (T.take 117)) [46, 46, 46])
  have HF := Lib.hid hF
  have HR2 := Lib.hid hr2
  have HU := Lib.hid hu
  have hcI : (117 : Int) ≤ (c : Int) := by omega
  have hc0 : ¬ c = 0 := by omega
  clear hF hr hr2 hu hcell hcv hT hm hc2
  generalize w.alloc (.cells #[] 100) = W at *
  go_wp2
  rw [HE.out]
  have hE1 := (HF.out.mono (S' := [rp]) (by simp)).setCell (p := ⟨rp, 0, none⟩) (by simp) (.string (str (T.take 117 ++ [46, 46, 46])))
  have hE2 := HR2.out.put 0 (.string (str (T.take 117 ++ [46, 46, 46])))
  simp [bodyPostS, results, Tryz.results42]
  exact ⟨hE1, hE2⟩
set_option maxHeartbeats 200000 in
set_option maxRecDepth 20000 in
/-- The deferred closure, behind an ordinary end. -/
theorem catch_no {w : World} {a b : Value} : CallsD Tryz.prog 42 #[a, b] .returning w fun e u' w' => e = .returned (.tuple #[]) ∧ u' = .returning ∧ MM.Far [] w w' := by
  refine callsD_of_wpS Tryz.func42 rfl fun c₀ cs hu => ?_
  apply wpS_seq
  apply wpS_region
  simp [wpOpsS, go_sem, recoverD, hu, Tryz.ntmps42, Exit.thenS, ta_no]
  refine wpS_of_wp ?_
  change Code.wp _ _ _ { tmps := #[a, b, .pointer (some ⟨w.heap.size, 0, none⟩), .bool false, .tuple #[.agg #[], .bool false], .nilIface, .tuple #[.agg #[], .bool false], .agg #[], .bool false, undef, undef, undef, undef, undef, undef], defers := [] } _
  have hF := Lib.hid ((MM.Far.refl [] w).alloc (.cells #[] 100))
  generalize w.alloc (.cells #[] 100) = W at *
  go_wp2
  cases c₀
  simp_all [bodyPostS, results, Tryz.results42]
  exact hF.out
theorem Wp.start (w : World) (av nv : Value) : Wp w (w.alloc (.cells #[av, nv, .slice none 0 0] 98)) w.heap.size av nv [] :=
  ⟨.slice none 0 0, (MM.Far.refl [] w).alloc _, Nat.le_refl _, MM.Row.new w 98 [av, nv, .slice none 0 0], MO.none_ _ _ _ _⟩
set_option maxHeartbeats 1000000 in
set_option maxRecDepth 20000 in
theorem show_any {w : World} {na : Option Addr} {tS : Int → ByteArray} {tB : Int → Bool} {p g h n : Nat} {ts : List AP.Th} (hA : AW.Ar w p g h n ts) (hN : Nms w (.pointer na) tS tB) (hT : Tab w) (x : Int) (hx : WP.U x) :
    Calls Tryz.prog 20 #[AW.ptr p, .pointer na, .int .u64 x] w fun e w' => e = .returned (.string (str (cutX (wrt tS tB ts 122 false [] x)))) ∧ MM.Far [] w w' := by
  have hmf : ∀ (fn : Fn) (first cap : Array Value) (w : World), (Instr.makeFunc fn first cap).run Tryz.prog w = .ok (.func fn first cap) w := fun _ _ _ _ => rfl
  have hF1 := (MM.Far.refl [] w).alloc (.cells #[.string ⟨#[]⟩] 9)
  have hR1 := MM.Row.new w 9 [.string ⟨#[]⟩]
  have hN1 : Nms (w.alloc (.cells #[.string ⟨#[]⟩] 9)) (.pointer na) tS tB := ⟨hN.1, fun wx f i => hN.2 wx (hF1.trans f (by simp)) i⟩
  have HWD := Lib.hid (word_any (q := w.heap.size + 1) (hA.far hF1 (by simp) (by simp) (by simp)) hN1 (hT.far hF1) 122)
  have HS := Lib.hid (Wp.start (w.alloc (.cells #[.string ⟨#[]⟩] 9)) (AW.ptr p) (.pointer na))
  rw [show (w.alloc (.cells #[.string ⟨#[]⟩] 9)).heap.size = w.heap.size + 1 by simp] at HS
  rw [show w.alloc (.cells [Value.string ⟨#[]⟩].toArray 9) = w.alloc (.cells #[.string ⟨#[]⟩] 9) from rfl] at hR1
  obtain ⟨X, hX⟩ : ∃ X, wrt tS tB ts 122 false [] x = X := ⟨_, rfl⟩
  rw [hX]
  have HC := Lib.hid (HWD.out _ [] x HS.out (by simp) (by simp) hx)
  rw [hX] at HC
  have HF1 := Lib.hid hF1
  have HR1 := Lib.hid hR1
  have hXE := hX
  clear hF1 hR1 hN1 hX hA hN hT hx HWD HS
  have hl : ∀ T, X = .error T → 120 < T.length := fun T h => wrt_err _ _ _ _ _ (by decide) (by simp) (hXE.trans h)
  have HXE := Lib.hid hl
  clear hl hXE
  cases X with
  | ok T =>
    go_enter_defers Tryz.func20, Tryz.ntmps20
    go_wp2_with (fail)
    refine HC.out.mono ?_
    rintro e w3 ⟨rfl, hW3⟩
    obtain ⟨bv, hF3, hq3, hH3, hB3⟩ := hW3
    have c2 := hH3.at (i := 2) rfl
    have hR3 := HR1.out.far hF3 (by simp)
    have r0 := hR3.at (i := 0) rfl
    have f0 := hR3.frozen 0
    have HF3 := Lib.hid (HF1.out.trans hF3 (by simp))
    have HR3 := Lib.hid hR3
    have hcv : (convert 72 9 bv).run Tryz.prog w3 = .ok (.string (str T)) w3 := by
      rcases cell_bytes hB3 with ⟨rfl, rfl⟩ | ⟨gb, c, rfl, _, _, hcell⟩
      · exact run_convert_bytes_nil (P := Tryz.prog) w3 72 5 Tryz.underlying72 Tryz.underlying5 0 0 9 Tryz.underlying9
      · exact run_convert_bytes_back (P := Tryz.prog) w3 72 9 5 ⟨gb, 0, none⟩ c T Tryz.underlying72 Tryz.underlying5 Tryz.underlying9 hcell
    obtain ⟨bA, bc, hbv⟩ := form_ _ hB3
    obtain ⟨m, hm⟩ : ∃ m, T.length = m := ⟨_, rfl⟩
    rw [hm] at hbv
    subst hbv
    have HFX := Lib.hid (fun (W : World) (v : Value) (f : MM.Far [] w W) => f.setCell (p := ⟨w.heap.size, 0, none⟩) (fun h => absurd h (Nat.lt_irrefl _)) v)
    clear hF3 hq3 hH3 hB3 hR3 hm HC HF1 HR1
    generalize w.heap.size = rp at *
    go_wp2
    refine leaves_cons (f := 42) (args := #[.pointer (some ⟨rp + 1, 0, none⟩), .pointer (some ⟨rp, 0, none⟩)]) (by simp) (by simp [go_sem]) ?_
    refine catch_no.mono ?_
    rintro e u' w4 ⟨rfl, rfl, hF4⟩
    have hR4 := (HR3.out.put 0 (.string (str T))).far hF4 (by simp)
    have k0 := hR4.at (i := 0) rfl
    simp [Leaves, settle, results, Tryz.results20, go_sem, k0]
    exact ⟨rfl, (HFX.out _ _ HF3.out).trans hF4 (by simp)⟩
  | error T =>
    have hl := HXE.out T rfl
    go_enter_defers Tryz.func20, Tryz.ntmps20
    go_wp2_with (fail)
    refine HC.out.mono ?_
    rintro e w3 ⟨rfl, hW3⟩
    obtain ⟨bv, hF3, hq3, hH3, hB3⟩ := hW3
    have c2 := hH3.at (i := 2) rfl
    have hR3 := HR1.out.far hF3 (by simp)
    have HF3 := Lib.hid (HF1.out.trans hF3 (by simp))
    obtain ⟨gb, c, rfl, hcap, hcm, hcell⟩ : ∃ gb c, bv = .slice (some ⟨gb, 0, none⟩) T.length c ∧ T.length ≤ c ∧ c ≤ maxLen ∧ ∀ j (hj : j < T.length), w3.cell? ((⟨gb, 0, none⟩ : Addr).add j) = some (.int .u8 (T[j].toNat : Int)) := by
      rcases cell_bytes hB3 with ⟨_, rfl⟩ | h
      · simp at hl
      · exact h
    have hgb := (MM.own_lt hB3 gb rfl).1
    have HFX := Lib.hid (fun (W : World) (f : MM.Far [w.heap.size] w3 W) => HF3.out.trans f (fun b hb hl => by
      have : b = w.heap.size := by simpa using hb
      omega))
    clear hF3 hq3 hH3 hB3 HC HF1 HR1
    generalize w.heap.size = rp at *
    refine leaves_cons (f := 42) (args := #[.pointer (some ⟨rp + 1, 0, none⟩), .pointer (some ⟨rp, 0, none⟩)]) (by simp) (by simp [go_sem]) ?_
    refine (catch_yes rfl c2 hl hcap hcell hgb hR3 []).mono ?_
    rintro e u' w4 ⟨rfl, rfl, hF4, hR4⟩
    have k0 := hR4.at (i := 0) rfl
    simp [Leaves, settle, results, Tryz.results20, go_sem, k0]
    exact ⟨rfl, HFX.out _ hF4⟩
end SW
end Go.Proofs.YtbglcdjimipeeaaGreatDoor
