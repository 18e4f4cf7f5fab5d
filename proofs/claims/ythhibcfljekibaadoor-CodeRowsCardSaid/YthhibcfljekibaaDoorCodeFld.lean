/-
  strings.Fields of the text that names the primitives: its words, a row of texts. Condition: the library's table of blanks.
-/
import Derived.Test.YthhibcfljekibaaDoorCodeC4
import Derived.Laws.DeepStrings4
namespace Go.Proofs.YthhibcfljekibaaDoor
open Go.RowKit
set_option linter.unusedVariables false
namespace KP
def namL : List (List UInt8) := [[43], [45], [42], [113, 117, 111, 116, 105, 101, 110, 116], [114, 101, 109, 97, 105, 110, 100, 101, 114], [60], [61], [101, 113, 63], [110, 111, 116], [110, 117, 108, 108, 63],
  [112, 97, 105, 114, 63], [99, 111, 110, 115], [99, 97, 114], [99, 100, 114], [110, 117, 109, 98, 101, 114, 63], [115, 121, 109, 98, 111, 108, 63], [112, 114, 111, 99, 101, 100, 117, 114, 101, 63], [99, 97, 108, 108, 47, 99, 99],
  [111, 117, 116], [115, 112, 97, 119, 110], [109, 105, 99, 114, 111], [97, 102, 116, 101, 114], [99, 97, 110, 99, 101, 108], [112, 114, 111, 109, 105, 115, 101], [115, 101, 116, 116, 108, 101], [116, 104, 101, 110], [115, 116, 114, 101, 97, 109], [119, 114, 105, 116, 101], [114, 101, 97, 100], [116, 105, 109, 101]]
/-- The names but call/cc, that the program's text has. -/
def worL : List (List UInt8) := namL.eraseIdx 17
def texL : List UInt8 := (worL.intersperse [32]).flatten
def byt (i : Nat) : Int := ((texL.getD i 0).toNat : Int)
def spc (b : Int) : Int := if (9 ≤ b ∧ b ≤ 13) ∨ b = 32 then 1 else 0
def wasF : Nat → Int
  | 0 => 1
  | i + 1 => spc (byt i)
def cntF : Nat → Int
  | 0 => 0
  | i + 1 => cntF i + if wasF i = 1 ∧ spc (byt i) = 0 then 1 else 0
def orF : Nat → Int
  | 0 => 0
  | i + 1 => bits .or .u8 (orF i) (byt i)
/-- How many words, and where the open one began. -/
def naF : Nat → Nat
  | 0 => 0
  | i + 1 => naF i + if byt i = 32 then 1 else 0
def fsF : Nat → Nat
  | 0 => 0
  | i + 1 => if byt i = 32 then i + 1 else fsF i
def wor (k : Nat) : ByteArray := ⟨(worL.getD k []).toArray⟩
def tex : ByteArray := ⟨texL.toArray⟩
set_option maxRecDepth 100000 in
theorem tex_size : texL.length = 160 := by decide +kernel
theorem tex_end : cntF 160 = 29 ∧ orF 160 = 127 ∧ naF 160 = 28 ∧ fsF 160 < 160 ∧ (texL.drop (fsF 160)) = worL.getD 28 [] := by decide +kernel
theorem tex_byte : ∀ i, i < 160 → (0 ≤ byt i ∧ byt i < 128) ∧ (byt i = 32 ∨ spc (byt i) = 0) ∧ (wasF i = 0 ∨ wasF i = 1) ∧ 0 ≤ cntF i ∧ cntF i ≤ 29 := by decide +kernel
theorem tex_word : ∀ i, i < 160 → fsF i ≤ i ∧ naF i < 29 ∧ (byt i = 32 → i + 1 < 160 ∧ byt (i + 1) ≠ 32 ∧ (texL.drop (fsF i)).take (i - fsF i) = worL.getD (naF i) []) := by decide +kernel
end KP
namespace KW
open KP
/-- The library's table of blanks. -/
structure AT (w : World) : Prop where
  lt : 0 < w.heap.size
  slot : ∀ b : Nat, b < 256 → w.cell? ⟨0, b, none⟩ = some (.int .u8 (spc b))
theorem AT.far {w w' : World} (h : AT w) (f : MM.Far [] w w') : AT w' :=
  ⟨Nat.lt_of_lt_of_le h.lt f.size, fun b hb => (f.cell (p := ⟨0, b, none⟩) h.lt (by simp)).trans (h.slot b hb)⟩
theorem AT.far_in {w w' : World} {g : Nat} (h : AT w) (f : MM.Far [g] w w') (hg : 0 ≠ g) : AT w' :=
  ⟨Nat.lt_of_lt_of_le h.lt f.size, fun b hb => (f.cell (p := ⟨0, b, none⟩) h.lt (by simpa using hg)).trans (h.slot b hb)⟩
def emS : ByteArray := ⟨#[]⟩
def rowL (k : Nat) : List Value := (List.range 29).map fun j => .string (if j < k then wor j else emS)
theorem rowL_set (k : Nat) (h : k < 29) : (rowL k).set k (.string (wor k)) = rowL (k + 1) := by
  apply List.ext_getElem?
  intro j
  unfold rowL
  rw [List.getElem?_set]
  simp only [List.length_map, List.length_range, List.getElem?_map]
  by_cases e : k = j
  · subst e
    rw [if_pos rfl, if_pos h, List.getElem?_range h]
    simp
  · rw [if_neg e]
    by_cases hj : j < 29
    · rw [List.getElem?_range hj]
      simp only [Option.map_some]
      by_cases h1 : j < k
      · rw [if_pos h1, if_pos (by omega)]
      · rw [if_neg h1, if_neg (by omega)]
    · rw [List.getElem?_eq_none (by simpa using hj)]
      rfl
theorem rowL_zero : rowL 0 = List.replicate 29 (.string emS) := by
  unfold rowL
  simp only [Nat.not_lt_zero, if_false]
  rfl
theorem row_str (k j : Nat) (h : j < 29) (hk : j < k) : (rowL k)[j]? = some (.string (wor j)) := by
  unfold rowL
  rw [List.getElem?_map, List.getElem?_range h]
  simp [hk]
theorem tex_at (i : Nat) (h : i < tex.size) : ((tex[i]'h).toNat : Int) = byt i := by
  unfold byt
  have hs : i < texL.length := h
  rw [List.getD_eq_getElem?_getD, List.getElem?_eq_getElem hs]
  rfl
theorem tex_cut (a b : Nat) (l : List UInt8) (h : (texL.drop a).take (b - a) = l) : tex.extract a b = ⟨l.toArray⟩ := by
  apply ByteArray.ext
  rw [ByteArray.data_extract]
  apply Array.toList_inj.1
  rw [← h]
  simp [tex]
theorem nsp (wa sp : Int) (h1 : wa = 0 ∨ wa = 1) (h2 : sp = 0 ∨ sp = 1) : bits .and .i64 wa (bits .xor .i64 (if IntKind.i64.signed = true then -1 else 9223372036854775807) sp) = if wa = 1 ∧ sp = 0 then 1 else 0 := by
  rcases h1 with rfl | rfl <;> rcases h2 with rfl | rfl <;> decide
theorem strs_slice : Tryd.prog.underlying 55 = some (.slice 9) := by kernel_rfl
theorem str_info : (Tryd.prog.info? 9).map (fun i => (i.zero, i.size, i.bytes)) = some (some (.string emS), 1, 16) := by kernel_rfl
set_option maxHeartbeats 4000000 in
set_option maxRecDepth 20000 in
theorem fields_any (w : World) (hA : AT w) : Calls Tryd.prog 18 #[.string tex] w fun e w' => ∃ g, e = .returned (.slice (some ⟨g, 0, none⟩) 29 29) ∧ MM.Row w' g 9 (rowL 29) ∧ w.heap.size ≤ g ∧ MM.Far [] w w' := by
  have HS : Hid (tex.size = 160) := Lib.hid tex_size
  have HB : Hid (∀ i (h : i < tex.size), ((tex[i]'h).toNat : Int) = byt i) := Lib.hid tex_at
  have HX : Hid (∀ i, i < 160 → byt i = 32 → tex.extract (fsF i) i = wor (naF i)) := Lib.hid (fun i hi h => tex_cut _ _ _ ((tex_word i hi).2.2 h).2.2)
  have HXE : Hid (tex.extract (fsF 160) tex.size = wor 28) := Lib.hid (tex_cut _ _ _ (by
    have h := tex_end.2.2.2.2
    rw [List.take_of_length_le (by rw [List.length_drop]; exact Nat.le_of_eq (by rw [show texL.length = tex.size from rfl])), h]))
  have HT := Lib.hid (fun i hi => tex_byte i hi)
  have HW := Lib.hid (fun i hi => tex_word i hi)
  have HE := Lib.hid tex_end
  have hgA := hA.lt
  have HA := Lib.hid hA
  clear hA
  generalize tex = s at *
  obtain ⟨n, hn⟩ : ∃ n, s.size = n := ⟨_, rfl⟩
  have hn160 : n = 160 := hn.symm.trans HS.out
  have HN := Lib.hid hn
  have HN160 := Lib.hid hn160
  have hle : n ≤ 160 := by omega
  clear hn160
  go_enter Tryd.func18, Tryd.ntmps18
  go_wp2_with (fail)
  go_loopw [3, 4, 5, 6] (fun s3 s4 s5 s6 wr => ∃ i : Nat, i ≤ n ∧ s3 = num (cntF i) ∧ s4 = num (wasF i) ∧ s5 = .int .u8 (orF i) ∧ s6 = num i ∧ w = wr) (fun _ _ _ s6 _ => n - (intOf s6).toNat)
  case atStart => exact ⟨0, by omega, rfl, rfl, rfl, rfl, rfl⟩
  case round =>
    obtain ⟨i, hi, rfl, rfl, rfl, rfl, rfl⟩ := hrel
    by_cases hlt : i < n
    · have hil : i < s.size := by rw [hn]; exact hlt
      have hb := HB.out i hil
      obtain ⟨⟨t1, t2⟩, -, t4, t5, t6⟩ := HT.out i (by have := HN160.out; omega)
      have C1 : Hid (cntF (i + 1) = cntF i + if wasF i = 1 ∧ spc (byt i) = 0 then 1 else 0) := Lib.hid rfl
      have C2 : Hid (wasF (i + 1) = spc (byt i)) := Lib.hid rfl
      have C3 : Hid (orF (i + 1) = bits .or .u8 (orF i) (byt i)) := Lib.hid rfl
      obtain ⟨b, hbb⟩ : ∃ b : Nat, (s[i]'hil).toNat = b := ⟨_, rfl⟩
      rw [hbb] at hb
      rw [← hb] at t1 t2 C1 C2 C3
      have hc : w.cell? ⟨0, b, none⟩ = some (.int .u8 (spc b)) := HA.out.slot b (by omega)
      have hsp : spc (b : Int) = 0 ∨ spc (b : Int) = 1 := by unfold spc; split <;> simp
      generalize spc (b : Int) = sp at *
      generalize cntF i = cn at *
      generalize wasF i = wa at *
      generalize orF i = oo at *
      have hs0 : 0 ≤ sp := by rcases hsp with rfl | rfl <;> decide
      have hs1 : sp ≤ 1 := by rcases hsp with rfl | rfl <;> decide
      have HSP := Lib.hid hsp
      have T4 := Lib.hid t4
      clear hb hsp t4
      go_wp2_with (fail)
      go_roundw
      case rel =>
        refine ⟨i + 1, by omega, ?_, ?_, ?_, by go_num, by first | rfl | trivial⟩
        · rw [C1.out, nsp _ _ T4.out HSP.out, IntWalk.wrap64_in _ (by split <;> omega)]
        · rw [C2.out]
        · rw [C3.out]
      case measure => simp [intOf]; omega
    · obtain rfl : i = n := by omega
      obtain ⟨e1, e2, e3, e4, e5⟩ := HE.out
      have hi160 : i = 160 := HN160.out
      have E1 : Hid (cntF i = 29) := Lib.hid (by rw [hi160]; exact e1)
      have E2 : Hid (orF i = 127) := Lib.hid (by rw [hi160]; exact e2)
      clear e1 e2 e3 e4 e5 hi160
      generalize cntF i = cn at *
      generalize wasF i = wa at *
      generalize orF i = oo at *
      obtain rfl : cn = 29 := E1.out
      obtain rfl : oo = 127 := E2.out
      have hmk := run_make_row' (P := Tryd.prog) 55 9 (.string emS) 16 strs_slice str_info rfl .i64 .i64 29 (by omega) (by omega)
      rw [made_list, show ((29 : Nat) : Int) = 29 from rfl] at hmk
      obtain ⟨L0, hL0⟩ : ∃ L0, List.replicate 29 (Value.string emS) = L0 := ⟨_, rfl⟩
      rw [hL0] at hmk
      have HL0 := Lib.hid hL0
      clear hL0
      have HR0 := Lib.hid (MM.Row.new w 9 L0)
      have HF0 := Lib.hid ((MM.Far.refl [] w).alloc (.cells L0.toArray 9))
      go_wp2_with (fail)
      have hrow0 : Hid (MM.Row (w.alloc (.cells L0.toArray 9)) w.heap.size 9 (rowL (naF 0))) := Lib.hid (by
        show MM.Row _ _ _ (rowL 0)
        rw [rowL_zero, HL0.out]; exact HR0.out)
      have HA1 := Lib.hid (HA.out.far HF0.out)
      have hs1 : w.heap.size < (w.alloc (.cells L0.toArray 9)).heap.size := by simp
      generalize w.alloc (.cells L0.toArray 9) = w1 at *
      obtain ⟨g, hg⟩ : ∃ g, w.heap.size = g := ⟨_, rfl⟩
      rw [hg] at hrow0 hs1 hgA
      rw [hg]
      have HG := Lib.hid hg
      have hgA1 : 0 < w1.heap.size := HA1.out.lt
      clear hmk HR0 hg
      have h0n : 0 < i := by have := HN160.out; omega
      have h0s : 0 < s.size := by rw [hn]; exact h0n
      have hb0 : ∃ b : Nat, (s[0]'h0s).toNat = b ∧ b < 256 ∧ spc (b : Int) = 0 := by
        refine ⟨_, rfl, (s[0]'h0s).toNat_lt, ?_⟩
        rw [HB.out 0 h0s]; decide +kernel
      obtain ⟨b0, hbb0, hb256, hsp0⟩ := hb0
      have hc0 : w1.cell? ⟨0, b0, none⟩ = some (.int .u8 0) := by rw [HA1.out.slot b0 hb256, hsp0]
      go_loopw [12] (fun s12 wr => s12 = num 0 ∧ w1 = wr) (fun _ _ => 0)
      case atStart => exact ⟨rfl, by first | rfl | trivial⟩
      case round =>
        obtain ⟨rfl, rfl⟩ := hrel
        clear hsp0
        go_wp2_with (fail)
        clear hbb0 hc0
        have HF1 : Hid (MM.Far [] w w1) := HF0
        go_loopw [10, 11, 12] (fun s10 s11 s12 wr => ∃ j : Nat, j ≤ i ∧ s10 = num (naF j) ∧ s11 = num (fsF j) ∧ s12 = num j ∧ Hid (MM.Row wr g 9 (rowL (naF j))) ∧ Hid (MM.Far [] w wr)) (fun _ _ s12 _ => i - (intOf s12).toNat)
        case atStart => exact ⟨0, by omega, rfl, rfl, rfl, hrow0, HF1⟩
        case round =>
          obtain ⟨j, hj, rfl, rfl, rfl, HRj, HFj⟩ := hrel
          have HAj := Lib.hid (HA.out.far HFj.out)
          have hgAj : 0 < wr.heap.size := HAj.out.lt
          have hgj := HRj.out.lt
          by_cases hlt : j < i
          · have hjl : j < s.size := by rw [hn]; exact hlt
            have hj160 : j < 160 := by have := HN160.out; omega
            have hb := HB.out j hjl
            have D1 : Hid (naF (j + 1) = naF j + if byt j = 32 then 1 else 0) := Lib.hid rfl
            have D2 : Hid (fsF (j + 1) = if byt j = 32 then j + 1 else fsF j) := Lib.hid rfl
            obtain ⟨q1, q2, q3⟩ := HW.out j hj160
            obtain ⟨⟨t1, t2⟩, t3, -, -, -⟩ := HT.out j hj160
            have hX := HX.out j hj160
            obtain ⟨b, hbb⟩ : ∃ b : Nat, (s[j]'hjl).toNat = b := ⟨_, rfl⟩
            rw [hbb] at hb
            have hb256 : (b : Int) < 256 := by omega
            have hb0 : (0 : Int) ≤ (b : Int) := by omega
            have hc := HAj.out.slot b (by omega)
            clear t1 t2
            by_cases h32 : byt j = 32
            · obtain ⟨q4, q5, -⟩ := q3 h32
              have hsp : spc (b : Int) = 1 := by rw [hb, h32]; rfl
              rw [hsp] at hc
              rw [if_pos h32] at D1 D2
              have hX2 := hX h32
              have hsl : ∀ W, (Instr.slice 9 (.string s) (some (.int .i64 (fsF j : Nat))) (some (.int .i64 (j : Nat))) none).run Tryd.prog W = .ok (.string (wor (naF j))) W := fun W => by
                rw [run_slice_string_if W 9 s .i64 .i64 _ _ Tryd.underlying9, if_pos ⟨by omega, by omega⟩, if_pos ⟨by omega, by omega⟩, Int.toNat_natCast, Int.toNat_natCast, hX2]
              have hj1 : j + 1 < s.size := by have := HN160.out; omega
              have hb1 : ∃ b1 : Nat, (s[j + 1]'hj1).toNat = b1 ∧ b1 < 256 ∧ spc (b1 : Int) = 0 := by
                refine ⟨_, rfl, (s[j + 1]'hj1).toNat_lt, ?_⟩
                rw [HB.out (j + 1) hj1]
                rcases (HT.out (j + 1) q4).2.1 with h | h
                · exact absurd h q5
                · exact h
              obtain ⟨b1, hbb1, hb1256, hsp1⟩ := hb1
              have hfz : wr.frozen? ⟨g, naF j, none⟩ = false := HRj.out.frozen _
              have hw := HRj.out.put (naF j) (.string (wor (naF j)))
              rw [rowL_set _ q2, ← D1.out] at hw
              have HW2 := Lib.hid hw
              have hgw : w.heap.size = g := HG.out
              have HFw : Hid (MM.Far [] w (wr.setCell ⟨g, naF j, none⟩ (.string (wor (naF j))))) := Lib.hid (HFj.out.setCell (fun h => by simp at h; omega) _)
              have HAw := Lib.hid (HA.out.far HFw.out)
              have hc1 : (wr.setCell ⟨g, naF j, none⟩ (.string (wor (naF j)))).cell? ⟨0, b1, none⟩ = some (.int .u8 0) := by rw [HAw.out.slot b1 hb1256, hsp1]
              have hgw1 : 0 < (wr.setCell ⟨g, naF j, none⟩ (.string (wor (naF j)))).heap.size := HAw.out.lt
              have hb1' : (b1 : Int) < 256 := by omega
              have hn1 : (j : Int) + 1 < (i : Int) := by omega
              have hn2 : naF j < 29 := q2
              have HCR := Lib.hid hrow0
              clear hsp1 h32 hsp hb hX2 t3 hX q3 hgw hw hrow0
              have hcell : ∃ u0, wr.cell? ⟨g, naF j, none⟩ = some u0 := ⟨_, HRj.out.at (List.getElem?_eq_getElem (by unfold rowL; simpa using q2))⟩
              obtain ⟨u0, hu0⟩ := hcell
              go_wp2_with (fail)
              clear hu0 hfz hc hsl
              generalize wr.setCell ⟨g, naF j, none⟩ (.string (wor (naF j))) = w5 at *
              go_loopw [12] (fun s12 wz => s12 = num ((j + 1 : Nat) : Int) ∧ w5 = wz) (fun _ _ => 0)
              case atStart => exact ⟨by go_num, by first | rfl | trivial⟩
              case round =>
                obtain ⟨rfl, rfl⟩ := hrel
                go_wp2_with (fail)
                go_roundw
                case rel => exact ⟨j + 1, by omega, by rw [D1.out]; go_num, by rw [D2.out], by go_num, HW2, HFw⟩
                case measure => simp [intOf]; omega
            · have hsp : spc (b : Int) = 0 := by
                rcases t3 with h | h
                · exact absurd h h32
                · rw [hb]; exact h
              rw [hsp] at hc
              rw [if_neg h32] at D1 D2
              clear t3 hX q3 hb h32 hsp
              have HRj2 : Hid (MM.Row wr g 9 (rowL (naF (j + 1)))) := Lib.hid (by rw [D1.out]; exact HRj.out)
              go_wp2_with (fail)
              go_roundw
              case rel => exact ⟨j + 1, by omega, by rw [D1.out]; rfl, by rw [D2.out], by go_num, HRj2, HFj⟩
              case measure => simp [intOf]; omega
          · obtain rfl : j = i := by omega
            obtain ⟨-, -, e3, e4, -⟩ := HE.out
            have hi160 : j = 160 := HN160.out
            have E3 : naF j = 28 := by rw [hi160]; exact e3
            have E4 : fsF j < j := by rw [hi160]; exact e4
            have hX3 : s.extract (fsF j) s.size = wor 28 := by rw [hi160]; exact HXE.out
            have hsl : ∀ W, (Instr.slice 9 (.string s) (some (.int .i64 (fsF j : Nat))) none none).run Tryd.prog W = .ok (.string (wor 28)) W := fun W => by
              rw [run_slice_string_from_if W 9 s .i64 _ Tryd.underlying9, if_pos ⟨by omega, by omega⟩, Int.toNat_natCast, hX3]
            have hRj := HRj.out
            rw [E3] at hRj
            have hfz : wr.frozen? ⟨g, 28, none⟩ = false := hRj.frozen _
            have hu0 : wr.cell? ⟨g, 28, none⟩ = some (.string emS) := hRj.at (by rfl)
            have hw := hRj.put 28 (.string (wor 28))
            rw [rowL_set 28 (by omega)] at hw
            have HW2 := Lib.hid hw
            have HFw : Hid (MM.Far [] w (wr.setCell ⟨g, 28, none⟩ (.string (wor 28)))) := Lib.hid (HFj.out.setCell (fun h => by have := HG.out; simp at h; omega) _)
            clear e3 e4 hi160 hX3 hRj hw
            rw [E3]
            clear E3
            go_wp2_with (fail)
            go_ret
            exact ⟨g, rfl, HW2.out, by rw [HG.out]; exact Nat.le_refl _, HFw.out⟩
end KW
end Go.Proofs.YthhibcfljekibaaDoor
