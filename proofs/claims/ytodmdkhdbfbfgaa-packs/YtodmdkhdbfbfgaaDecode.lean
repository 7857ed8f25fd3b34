/- What decode of package pack returns: the document's reading of a coded text. -/
import Derived.Test.YtodmdkhdbfbfgaaReadData
namespace Go.Proofs.Ytodmdkhdbfbfgaa
open Go.RowKit Pk
set_option linter.unusedVariables false

theorem check_all (a : Option Addr) (c : Nat) (z : Nat → Int) (w : World) (hz : IntsIn w a 288 z) :
    Calls Try.prog 36 #[.slice a 288 c] w fun e w' => w' = w ∧ ((Fits z 288 ∧ e = .returned (.int .i64 0)) ∨ (¬ Fits z 288 ∧ ∃ er : Int, (er != 0) = true ∧ e = .returned (.int .i64 er))) := by
  rcases first_bad z 288 with h | ⟨q, hq, hb, hg⟩
  · by_cases hs : 4096 < sumTo z 288
    · refine (check_rng a 288 c z w (by omega) hz h).mono fun e w' ⟨he, hw⟩ => ⟨hw, .inr ⟨fun hf => by have := hf.sum; omega, 2, by decide, ?_⟩⟩
      rw [he, if_pos hs]
    · refine (check_rng a 288 c z w (by omega) hz h).mono fun e w' ⟨he, hw⟩ => ⟨hw, .inl ⟨⟨h, by omega⟩, ?_⟩⟩
      rw [he, if_neg hs]
  · exact (check_bad a 288 c z w (by omega) hz q hq hb hg).mono fun e w' ⟨he, hw⟩ => ⟨hw, .inr ⟨fun hf => hb (hf.rng q hq), 1, by decide, he⟩⟩

/-- What decode answers. -/
def ansD : Option (List UInt8) → Ending
  | none => .returned (.tuple #[.string ⟨#[]⟩, .bool false])
  | some l => .returned (.tuple #[.string (txt l), .bool true])

theorem i64_or8 (x y : Int) (hx0 : 0 ≤ x) (hx1 : x < 4611686018427387904) (hy0 : 0 ≤ y) (hy1 : y < 256) (hx : x % 256 = 0) : bits .or .i64 x y = x + y :=
  bits_join .i64 62 (by decide) (fun n h0 h1 => by rw [IntKind.wrap_i64]; omega) 8 x y hx0 (by simpa using hx) (by omega) hy0 (by omega) (by omega)

/-- What is known of a text of at least two bytes. -/
theorem txt_two (r : List UInt8) (hr : ¬ r.length < 2) : ∃ t, t = txt r ∧ t.size = r.length ∧ (∀ h : 0 < t.size, (t[0]'h).toNat = (r.getD 0 0).toNat) ∧
    (∀ h : 1 < t.size, (t[1]'h).toNat = (r.getD 1 0).toNat) ∧ t.extract 2 t.size = txt (r.drop 2) := by
  refine ⟨_, rfl, by rw [txt_size], fun h => by rw [txt_getD], fun h => by rw [txt_getD], ?_⟩
  rw [txt_extract, txt_size]
  congr 1
  apply List.take_of_length_le
  simp

set_option maxRecDepth 100000 in
set_option maxHeartbeats 1000000 in
theorem dec_short (r : List UInt8) (w : World) (hr : r.length < 2) : Calls Try.prog 41 #[.string (txt r)] w fun e w' => e = ansD none ∧ w' = w := by
  have hsz : (txt r).size < 2 := by rw [txt_size]; exact hr
  go_enter Try.func41, Try.ntmps41
  go_wp2
  go_ret2
  exact ⟨rfl, rfl⟩

set_option maxRecDepth 100000 in
set_option maxHeartbeats 4000000 in
theorem dec_size (r : List UInt8) (w : World) (hr : ¬ r.length < 2) (hr2 : r.length ≤ 140737488351232) (h : 256 * (r.getD 0 0).toNat + (r.getD 1 0).toNat < 1 ∨ 4000 < 256 * (r.getD 0 0).toNat + (r.getD 1 0).toNat) :
    Calls Try.prog 41 #[.string (txt r)] w fun e w' => e = ansD none ∧ ∃ q, w' = w.drewN q := by
  obtain ⟨t, ht, hs, hc0, hc1, _⟩ := txt_two r hr
  have hs1 : 1 < t.size := by omega
  have hs0 : 0 < t.size := by omega
  have hsb : t.size ≤ 140737488351232 := by omega
  have hc0 := hc0 hs0
  have hc1 := hc1 hs1
  rw [← ht]
  clear ht hs
  have hx1 := (r.getD 0 0).toNat_lt
  have hx2 := (r.getD 1 0).toNat_lt
  generalize (r.getD 0 0).toNat = x1 at *
  generalize (r.getD 1 0).toNat = x2 at *
  have hlt1 : (0 : Int) < (t.size : Int) := by omega
  have hlt2 : (1 : Int) < (t.size : Int) := by omega
  have hor : bits BinOp.or IntKind.i64 ((x1 : Int) * 256) (x2 : Int) = (x1 : Int) * 256 + (x2 : Int) := i64_or8 _ _ (by omega) (by omega) (by omega) (by omega) (by omega)
  by_cases hd : 256 * x1 + x2 < 1
  · go_enter Try.func41, Try.ntmps41
    go_wp2
    go_quiet (fail)
    go_wp2
    go_ret2
    exact ⟨rfl, _, rfl⟩
  · have h' : 4000 < 256 * x1 + x2 := by omega
    clear h
    go_enter Try.func41, Try.ntmps41
    go_wp2
    go_quiet (fail)
    go_wp2
    go_ret2
    exact ⟨rfl, _, rfl⟩

theorem grown_below {w w' : World} {B rb : Nat} (h : w.grownBy w' (some rb)) (hB : B ≤ w.heap.size) (hr : B ≤ rb) : Below B w w' :=
  (Below.refl B w).grown h hB (fun k hk => by simp at hk; omega)

theorem Rd.below {w w' : World} {rb : Nat} {s : List UInt8} {pos : Nat} (h : Rd w rb s pos) (hb : Below w.heap.size w w') : Rd w' rb s pos := (hb.block rb h.lt).trans h

theorem conv_own' {w : World} {base : Nat} {v : Value} {n : Nat} {l : List UInt8} (h : w.ownsRow base 5 1 v n (Lib.strCells (txt l))) (t : ByteArray) (ht : t = txt l) : (convert 67 9 v).run Try.prog w = .ok (.string t) w := by rw [ht]; exact conv_own h

set_option maxRecDepth 100000 in
set_option maxHeartbeats 4000000 in
theorem dec_body (r : List UInt8) (w : World) (hr : ¬ r.length < 2) (hr2 : r.length ≤ 140737488351232) (size : Nat) (hsize : 256 * (r.getD 0 0).toNat + (r.getD 1 0).toNat = size) (h1 : 1 ≤ size) (h4 : size ≤ 4000) :
    Calls Try.prog 41 #[.string (txt r)] w fun e w' => e = ansD (bodyF (r.drop 2) 288 size) ∧ Below w.heap.size w w' := by
  obtain ⟨t, ht, hs, hc0, hc1, hex⟩ := txt_two r hr
  have hs1 : 1 < t.size := by omega
  have hs0 : 0 < t.size := by omega
  have hsb : t.size ≤ 140737488351232 := by omega
  have hc0 := hc0 hs0
  have hc1 := hc1 hs1
  rw [← ht]
  have hsl : (r.drop 2).length ≤ 140737488351232 := by simp; omega
  have Hex := hidI hex
  clear ht hs hex
  have hx1 := (r.getD 0 0).toNat_lt
  have hx2 := (r.getD 1 0).toNat_lt
  generalize (r.getD 0 0).toNat = x1 at *
  generalize (r.getD 1 0).toNat = x2 at *
  generalize r.drop 2 = s at *
  have hlt1 : (0 : Int) < (t.size : Int) := by omega
  have hlt2 : (1 : Int) < (t.size : Int) := by omega
  have hor : bits BinOp.or IntKind.i64 ((x1 : Int) * 256) (x2 : Int) = (size : Int) := by
    rw [i64_or8 _ _ (by omega) (by omega) (by omega) (by omega) (by omega)]; omega
  clear hsize
  obtain ⟨R, hR⟩ : ∃ R, lensF s 288 0 0 (fun _ => 0) = R := ⟨_, rfl⟩
  have HR := hidI hR
  clear hR
  go_enter Try.func41, Try.ntmps41
  go_wp2
  go_quiet (fail)
  go_wp2_with fail
  rw [Hex.out]
  have hr0 : ∀ q, Rd ((w.alloc (.cells #[.string (txt s), .int .i64 0] 86)).drewN q) w.heap.size s 0 := fun q => by
    have h : Rd (w.alloc (.cells #[.string (txt s), .int .i64 0] 86)) w.heap.size s 0 := heap_alloc_new w _
    exact h.drewN q
  have hb0 : ∀ q, Below w.heap.size w ((w.alloc (.cells #[.string (txt s), .int .i64 0] 86)).drewN q) := fun q => below_drewN ((Below.refl _ _).alloc (Nat.le_refl _) _) q
  refine (readLens w.heap.size s _ hsl (hr0 _) R HR.out).mono ?_
  rintro e w1 ⟨hg1, hres⟩
  have hb1 : Below w.heap.size w w1 := (hb0 _).trans (grown_below hg1 (by simp) (Nat.le_refl _))
  have hs1' := hg1.size
  simp at hs1'
  clear hg1 hb0 hr0
  rcases hres with ⟨z, pos, hRz, hpos, rfl, hrow1, hrd1⟩ | ⟨hRn, rfl⟩
  · rw [hRz] at HR
    clear hRz R
    simp only [World.heap_drewN, World.size_alloc] at hrow1 ⊢
    have hin := rowIs_ints hrow1
    go_wp2_with fail
    refine (check_all _ _ z w1 hin).mono ?_
    rintro e w2 ⟨rfl, hfit⟩
    rcases hfit with ⟨hf, rfl⟩ | ⟨hnf, er, her, rfl⟩
    · go_wp2_with fail
      refine (newDecoder_any _ _ z w2 hin).mono ?_
      rintro e w3 ⟨rfl, hb3, hdc3⟩
      have hrd3 := hrd1.below hb3
      have hB3 : Below w.heap.size w w3 := hb1.trans (hb3.mono (by omega))
      have hs3 := hB3.size
      have HfB := hidI ((fitsB_iff z 288).2 hf)
      obtain ⟨RD, hRD⟩ : ∃ R, dataF s z 288 size size [] pos = R := ⟨_, rfl⟩
      have HRD := hidI hRD
      clear hb3 hb1 hrd1 hrow1 hin
      go_wp2_with fail
      refine (readData w.heap.size _ _ z s pos size w3 hsl hf hrd3 hpos hdc3 h1 h4 RD hRD).mono ?_
      rintro e w4 ⟨hg4, hres⟩
      have hB4 : Below w.heap.size w w4 := hB3.trans (grown_below hg4 hs3 (Nat.le_refl _))
      have hs4 := hB4.size
      clear hg4 hdc3 hrd3 hRD hf
      rcases hres with ⟨out, p, a4, c4, n4, hRDs, hp, rfl, hown4, hrd4⟩ | ⟨hRDn, rfl⟩
      · have Hbody := hidI (bodyF_data s 288 size z _ _ _ HR.out HfB.out (HRD.out.trans hRDs))
        clear hRDs
        by_cases h8 : 8 * s.length - p < 8
        · by_cases hv0 : val s p (8 * s.length - p) = 0
          · have Hb := hidI (Hbody.out.trans (if_pos ⟨h8, hv0⟩))
            have hends := ends_yes w.heap.size s p w4 hsl hrd4 hp h8
            rw [show decide (val s p (8 * s.length - p) = 0) = true by simpa using hv0] at hends
            have Hends := hidI hends
            clear hends hv0
            go_wp2_with fail
            refine Hends.out.mono ?_
            rintro e w5 ⟨rfl, hg5⟩
            have hB5 : Below w.heap.size w w5 := hB4.trans (grown_below hg5 hs4 (Nat.le_refl _))
            have hown5 := own_keep hown4 hg5 hrd4.rowT (by decide)
            obtain ⟨to, hto⟩ : ∃ to, to = txt out := ⟨_, rfl⟩
            have hcv := conv_own' hown5 to hto
            have Hto := hidI hto
            clear hto hown4 hown5 hg5 hrd4
            go_wp2
            go_ret2
            refine ⟨?_, hB5⟩
            rw [Hb.out]
            show _ = Ending.returned (.tuple #[.string (txt out), .bool true])
            rw [← Hto.out]; rfl
          · have Hb := hidI (Hbody.out.trans (if_neg (fun h => hv0 h.2)))
            have hends := ends_yes w.heap.size s p w4 hsl hrd4 hp h8
            rw [show decide (val s p (8 * s.length - p) = 0) = false by simpa using hv0] at hends
            have Hends := hidI hends
            clear hends hv0
            go_wp2_with fail
            refine Hends.out.mono ?_
            rintro e w5 ⟨rfl, hg5⟩
            have hB5 : Below w.heap.size w w5 := hB4.trans (grown_below hg5 hs4 (Nat.le_refl _))
            go_wp2
            go_ret2
            refine ⟨?_, hB5⟩
            rw [Hb.out]; rfl
        · have Hb := hidI (Hbody.out.trans (if_neg (fun h => h8 h.1)))
          go_wp2_with fail
          refine (ends_no w.heap.size s p w4 hsl hrd4 hp h8).mono ?_
          rintro e w5 ⟨rfl, hg5⟩
          have hB5 : Below w.heap.size w w5 := hB4.trans (grown_below hg5 hs4 (Nat.le_refl _))
          go_wp2
          go_ret2
          refine ⟨?_, hB5⟩
          rw [Hb.out]; rfl
      · have Hb := hidI (bodyF_nodata s 288 size z _ HR.out HfB.out (HRD.out.trans hRDn))
        clear hRDn
        go_wp2
        go_ret2
        refine ⟨?_, hB4⟩
        rw [Hb.out]; rfl
    · have HfB : Hid (fitsB z 288 = false) := by
        cases h : fitsB z 288 with
        | false => rfl
        | true => exact absurd ((fitsB_iff z 288).1 h) hnf
      have Hb := hidI (bodyF_unfit s 288 size z _ HR.out HfB.out)
      go_wp2
      go_ret2
      refine ⟨?_, hb1⟩
      rw [Hb.out]; rfl
  · have Hb := hidI (bodyF_none s 288 size (HR.out.trans hRn))
    clear hRn
    go_wp2
    go_ret2
    refine ⟨?_, hb1⟩
    rw [Hb.out]; rfl

/-- decode of any text behind the form's byte. -/
theorem decode_any (r : List UInt8) (w : World) (hr : r.length ≤ 140737488351232) : Calls Try.prog 41 #[.string (txt r)] w fun e w' => e = ansD (unpF 288 (1 :: r)) ∧ Below w.heap.size w w' := by
  by_cases h2 : r.length < 2
  · exact (dec_short r w h2).mono fun e w' ⟨he, hw⟩ => by rw [he, hw, unpF_short 288 r h2]; exact ⟨rfl, Below.refl _ _⟩
  · by_cases h3 : 256 * (r.getD 0 0).toNat + (r.getD 1 0).toNat < 1 ∨ 4000 < 256 * (r.getD 0 0).toNat + (r.getD 1 0).toNat
    · exact (dec_size r w h2 hr h3).mono fun e w' ⟨he, q, hw⟩ => by rw [he, hw, unpF_size 288 r h2 h3]; exact ⟨rfl, below_drewN (Below.refl _ _) q⟩
    · rw [unpF_body 288 r h2 h3]
      exact dec_body r w h2 hr _ rfl (by omega) (by omega)
end Go.Proofs.Ytodmdkhdbfbfgaa
