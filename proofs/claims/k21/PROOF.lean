import PyProof.Rows.All
import Wide.All
import OpenK.AllK
import Wide.FinOn
import PySem.Challenge.RW_whistleboard_k21_calls_nearly_read
import HandS.Text
import PyProof.Rows.StrCase
import HandS.ForMost
import HandS.ForExc
import HandS.Flow
import HandS.IsInst
import HandS.More
import HandS.Walk
import HandS.Zip
import HandS.ExcInit
import HandS.ExcField
import HandS.ExcIs
import HandS.FStr
import HandS.Small
import KE.KExcIs
import KE.IntTextLaws
set_option Elab.async false
set_option linter.all false
set_option maxRecDepth 100000
set_option maxHeartbeats 4000000
namespace My
open PySem PySem.Spec PyProof.Rows TL
/-! ### words between blanks -/
abbrev WSt := List (List Nat) × List Nat
def wst (st : WSt) (c : Nat) : WSt := if c = 32 then (if st.2 = [] then st else (st.1 ++ [st.2], [])) else (st.1, st.2 ++ [c])
def wfn (st : WSt) : List (List Nat) := if st.2 = [] then st.1 else st.1 ++ [st.2]
def wds (l : List Nat) : List (List Nat) := wfn (l.foldl wst ([], []))
theorem pre32 (c : Nat) (r : List Nat) : pre [32] (c :: r) = decide (c = 32) := by
  unfold pre
  show ([c] == [32]) = decide (c = 32)
  by_cases h : c = 32
  · rw [h]; rfl
  · rw [decide_eq_false h]
    exact beq_eq_false_iff_ne.mpr fun z => h (List.cons.inj z).1
theorem spl_step (acc : List Nat) (c : Nat) (r : List Nat) : spl [32] 0 acc (c :: r) = if c = 32 then acc :: spl [32] 0 [] r else spl [32] 0 (acc ++ [c]) r := by
  by_cases h : c = 32
  · rw [if_pos h, spl_hit (by rw [pre32, decide_eq_true h])]
    rfl
  · rw [if_neg h, spl_miss (by rw [pre32, decide_eq_false h])]
def ne0 (x : List Nat) : Bool := !x.isEmpty
theorem ne0_nil : ne0 [] = false := rfl
theorem ne0_iff {x : List Nat} : ne0 x = true ↔ x ≠ [] := by
  cases x <;> simp [ne0]
theorem spl_wds : ∀ (l acc : List Nat) (D : List (List Nat)), D ++ (spl [32] 0 acc l).filter ne0 = wfn (l.foldl wst (D, acc))
  | [], acc, D => by
    rw [spl_nil]
    show D ++ [acc].filter ne0 = wfn (D, acc)
    unfold wfn
    by_cases h : acc = []
    · rw [if_pos h, h]
      show D ++ [] = D
      rw [List.append_nil]
    · rw [if_neg h, List.filter_cons_of_pos (ne0_iff.mpr h)]
      rfl
  | c :: r, acc, D => by
    rw [spl_step, List.foldl_cons]
    by_cases h : c = 32
    · rw [if_pos h]
      unfold wst
      rw [if_pos h]
      by_cases e : acc = []
      · show D ++ (acc :: spl [32] 0 [] r).filter ne0 = wfn (r.foldl wst (if acc = [] then (D, acc) else (D ++ [acc], [])))
        rw [if_pos e, List.filter_cons_of_neg (by rw [e]; decide), ← spl_wds r acc D, e]
      · show D ++ (acc :: spl [32] 0 [] r).filter ne0 = wfn (r.foldl wst (if acc = [] then (D, acc) else (D ++ [acc], [])))
        rw [if_neg e, List.filter_cons_of_pos (ne0_iff.mpr e), ← spl_wds r [] (D ++ [acc]), List.append_assoc]
        rfl
    · rw [if_neg h]
      have e : wst (D, acc) c = (D, acc ++ [c]) := by
        unfold wst
        rw [if_neg h]
      rw [e, ← spl_wds r (acc ++ [c]) D]
theorem spl_mem : ∀ (l acc : List Nat) (p : List Nat), p ∈ spl [32] 0 acc l → ∀ c ∈ p, c ∈ acc ∨ c ∈ l
  | [], acc, p, hp, c, hc => by
    rw [spl_nil] at hp
    have := List.mem_singleton.mp hp
    subst this
    exact .inl hc
  | a :: r, acc, p, hp, c, hc => by
    rw [spl_step] at hp
    by_cases h : a = 32
    · rw [if_pos h] at hp
      rcases List.mem_cons.mp hp with e | e
      · subst e
        exact .inl hc
      · rcases spl_mem r [] p e c hc with q | q
        · cases q
        · exact .inr (List.mem_cons_of_mem _ q)
    · rw [if_neg h] at hp
      rcases spl_mem r (acc ++ [a]) p hp c hc with q | q
      · rcases List.mem_append.mp q with q | q
        · exact .inl q
        · exact .inr (List.mem_cons.mpr (.inl (List.mem_singleton.mp q)))
      · exact .inr (List.mem_cons_of_mem _ q)
theorem spl_free : ∀ (l acc : List Nat) (p : List Nat), 32 ∉ acc → p ∈ spl [32] 0 acc l → 32 ∉ p
  | [], acc, p, ha, hp => by
    rw [spl_nil] at hp
    have := List.mem_singleton.mp hp
    subst this
    exact ha
  | a :: r, acc, p, ha, hp => by
    rw [spl_step] at hp
    by_cases h : a = 32
    · rw [if_pos h] at hp
      rcases List.mem_cons.mp hp with e | e
      · subst e
        exact ha
      · exact spl_free r [] p (fun z => by cases z) e
    · rw [if_neg h] at hp
      refine spl_free r (acc ++ [a]) p (fun z => ?_) hp
      rcases List.mem_append.mp z with q | q
      · exact ha q
      · exact h (List.mem_singleton.mp q).symm
theorem lo1_blank (c : Nat) : lo1 c = 32 ↔ c = 32 := by
  unfold lo1
  split <;> omega
theorem spl_low : ∀ (l acc : List Nat), spl [32] 0 (acc.map lo1) (l.map lo1) = (spl [32] 0 acc l).map (List.map lo1)
  | [], acc => by rw [List.map_nil, spl_nil, spl_nil]; rfl
  | c :: r, acc => by
    rw [List.map_cons, spl_step, spl_step]
    by_cases h : c = 32
    · rw [if_pos h, if_pos ((lo1_blank c).mpr h), List.map_cons, ← spl_low r []]
      rfl
    · rw [if_neg h, if_neg (fun z => h ((lo1_blank c).mp z)), ← spl_low r (acc ++ [c]), List.map_append]
      rfl
/-! ### the words of a call's text -/
def Asc (n : Nat) (z : Str) : Prop := z.length ≤ n ∧ ∀ c ∈ tl z, c < 128
abbrev bl1 : Str := Str.ofString " "
theorem tl_bl1 : tl bl1 = [32] := by decide +kernel
def cw (z : Str) : List Str := ((Txt.split z bl1).filter (fun w => w.length != 0)).map Txt.lower
theorem split_tl (z : Str) : (Txt.split z bl1).map tl = spl [32] 0 [] (tl z) := by
  have q := split_spl z bl1 (by rw [tl_bl1]; intro h; cases h) (kind_ok (by decide +kernel))
  rw [tl_bl1] at q
  exact q
theorem lower_tl {x : Str} (h : ∀ c ∈ tl x, c < 128) : tl (Txt.lower x) = (tl x).map lo1 := by
  rw [lower_ascii h]
  exact Array.toList_map
theorem upper_tl {x : Str} (h : ∀ c ∈ tl x, c < 128) : tl (Txt.upper x) = (tl x).map up1 := by
  rw [upper_ascii h]
  exact Array.toList_map
theorem filter_tl (l : List Str) : (l.filter (fun w => w.length != 0)).map tl = (l.map tl).filter ne0 := by
  induction l with
  | nil => rfl
  | cons w l ih =>
    have e : (w.length != 0) = ne0 (tl w) := by
      rw [len_tl]
      cases tl w <;> rfl
    rw [List.map_cons]
    cases h : ne0 (tl w) with
    | true =>
      rw [List.filter_cons_of_pos (by rw [e, h]), List.filter_cons_of_pos h, List.map_cons, ih]
    | false =>
      rw [List.filter_cons_of_neg (by rw [e, h]; decide), List.filter_cons_of_neg (by rw [h]; decide), ih]
theorem part_asc {z w : Str} (hz : ∀ c ∈ tl z, c < 128) (hw : w ∈ Txt.split z bl1) : ∀ c ∈ tl w, c < 128 := fun c hc => by
  have m : tl w ∈ spl [32] 0 [] (tl z) := by
    rw [← split_tl]
    exact List.mem_map.mpr ⟨w, hw, rfl⟩
  rcases spl_mem _ _ _ m c hc with q | q
  · cases q
  · exact hz c q
theorem cw_tl {z : Str} (hz : ∀ c ∈ tl z, c < 128) : (cw z).map tl = (wds (tl z)).map (List.map lo1) := by
  have e := spl_wds (tl z) [] []
  rw [List.nil_append] at e
  unfold wds
  rw [← e, ← split_tl, ← filter_tl]
  unfold cw
  rw [List.map_map, List.map_map]
  refine List.map_congr_left fun w hw => ?_
  exact lower_tl (part_asc hz ((List.mem_filter.mp hw).1))
theorem cw_eq {z : Str} {ws : List Str} (hz : ∀ c ∈ tl z, c < 128) (h : (wds (tl z)).map (List.map lo1) = ws.map tl) : cw z = ws := map_tl_inj ((cw_tl hz).trans h)
/-! ### the machine at blanks and signs -/
theorem wst_blanks (st : WSt) : ∀ k : Nat, (List.replicate (k + 1) 32).foldl wst st = (wfn st, [])
  | 0 => by
    show wst st 32 = _
    unfold wst wfn
    rw [if_pos rfl]
    split
    · rename_i h
      rw [← h]
    · rfl
  | k + 1 => by
    rw [List.replicate_succ', List.foldl_append, wst_blanks st k]
    rfl
theorem wst_blank0 {st : WSt} (h : st.2 = []) : ∀ k : Nat, (List.replicate k 32).foldl wst st = st
  | 0 => rfl
  | k + 1 => by
    rw [wst_blanks]
    unfold wfn
    rw [if_pos h, ← h]
theorem wst_sign (st : WSt) {c : Nat} (h : c ≠ 32) : wst st c = (st.1, st.2 ++ [c]) := by
  unfold wst
  rw [if_neg h]
theorem wfn_blanks (st : WSt) : ∀ k : Nat, wfn ((List.replicate k 32).foldl wst st) = wfn st
  | 0 => rfl
  | k + 1 => by
    rw [wst_blanks]
    unfold wfn
    rw [if_pos rfl]
/-! ### what is due at each place -/
def kinds : List Str := ["car", "chimney", "grass", "house", "people", "works"]
def isNm (w : Str) : Bool := decide (1 ≤ w.length ∧ w.length ≤ 8) && (tl w).all (fun c => decide (97 ≤ c ∧ c ≤ 122))
def numS (k : Nat) : Str := Str.ofString (toString ((k : Nat) : Int))
def pumpsL : List Str := (List.range 20).map (fun k => numS (1 + k))
def okAt : Nat → Str → Bool
  | 0, w => decide (w ∈ kinds)
  | 1, w => decide (w = Str.ofString "at")
  | 2, w => isNm w
  | 3, w => decide (w = Str.ofString "make")
  | 4, w => decide (w ∈ pumpsL)
  | _ + 5, _ => false
theorem letters_mem (c : Nat) : c ∈ tl (Str.ofString "abcdefghijklmnopqrstuvwxyz") ↔ 97 ≤ c ∧ c ≤ 122 := by
  have e : tl (Str.ofString "abcdefghijklmnopqrstuvwxyz") = (List.range 26).map (97 + ·) := by decide +kernel
  rw [e, List.mem_map]
  constructor
  · rintro ⟨k, hk, rfl⟩
    have := List.mem_range.mp hk
    omega
  · intro h
    exact ⟨c - 97, List.mem_range.mpr (by omega), by omega⟩
/-- small letters and figures: what the law's words have -/
def Sm (c : Nat) : Prop := (97 ≤ c ∧ c ≤ 122) ∨ (48 ≤ c ∧ c ≤ 57)
theorem Sm.lo {c : Nat} (h : Sm c) : lo1 c = c := by
  unfold lo1
  rcases h with h | h
  · rw [if_neg (by omega)]
  · rw [if_neg (by omega)]
theorem Sm.up {c : Nat} (h : Sm c) : lo1 (up1 c) = c ∧ up1 c ≠ 32 ∧ up1 c < 128 := by
  rcases h with h | h
  · have e : up1 c = c - 32 := if_pos h
    rw [e]
    unfold lo1
    rw [if_pos (by omega)]
    omega
  · have e : up1 c = c := if_neg (by omega)
    rw [e]
    unfold lo1
    rw [if_neg (by omega)]
    omega
theorem Sm.ne {c : Nat} (h : Sm c) : c ≠ 32 ∧ c < 128 := by
  unfold Sm at h
  omega
theorem pumps_facts : ∀ k, k < 20 → intText? (numS (1 + k)) = some ((1 + k : Nat) : Int) ∧ (numS (1 + k)).length ≤ 2 ∧ tl (numS (1 + k)) ≠ [] ∧ (∀ c ∈ tl (numS (1 + k)), 48 ≤ c ∧ c ≤ 57) := by decide +kernel
theorem kinds_facts : ∀ w ∈ kinds, isNm w = true := by decide +kernel
theorem isNm_at : isNm (Str.ofString "at") = true := by decide +kernel
theorem isNm_make : isNm (Str.ofString "make") = true := by decide +kernel
theorem isNm_sm {w : Str} (h : isNm w = true) : tl w ≠ [] ∧ (∀ c ∈ tl w, 97 ≤ c ∧ c ≤ 122) ∧ w.length ≤ 8 := by
  unfold isNm at h
  rw [Bool.and_eq_true, decide_eq_true_eq, List.all_eq_true] at h
  refine ⟨fun z => ?_, fun c hc => of_decide_eq_true (h.2 c hc), h.1.2⟩
  have := h.1.1
  rw [len_tl, z] at this
  exact absurd this (by decide)
theorem isNm_of {w : Str} (h0 : 1 ≤ w.length) (h1 : w.length ≤ 8) (h2 : ∀ c ∈ tl w, 97 ≤ c ∧ c ≤ 122) : isNm w = true := by
  unfold isNm
  rw [Bool.and_eq_true, decide_eq_true_eq, List.all_eq_true]
  exact ⟨⟨h0, h1⟩, fun c hc => decide_eq_true (h2 c hc)⟩
/-- the words of a right call -/
inductive GoodWs : List Str → Prop where
  | three {k p : Str} (hk : k ∈ kinds) (hp : isNm p = true) : GoodWs [k, Str.ofString "at", p]
  | five {k p : Str} {n : Nat} (hk : k ∈ kinds) (hp : isNm p = true) (hn : n < 20) : GoodWs [k, Str.ofString "at", p, Str.ofString "make", numS (1 + n)]
theorem nm_sm {w : Str} (h : isNm w = true) : tl w ≠ [] ∧ (∀ c ∈ tl w, Sm c) ∧ w.length ≤ 8 :=
  ⟨(isNm_sm h).1, fun c hc => .inl ((isNm_sm h).2.1 c hc), (isNm_sm h).2.2⟩
theorem num_sm {n : Nat} (h : n < 20) : tl (numS (1 + n)) ≠ [] ∧ (∀ c ∈ tl (numS (1 + n)), Sm c) ∧ (numS (1 + n)).length ≤ 8 := by
  obtain ⟨_, h1, h2, h3⟩ := pumps_facts n h
  exact ⟨h2, fun c hc => .inr (h3 c hc), by omega⟩
theorem GoodWs.sm {ws : List Str} (g : GoodWs ws) : ∀ w ∈ ws, tl w ≠ [] ∧ (∀ c ∈ tl w, Sm c) ∧ w.length ≤ 8 := by
  cases g with
  | three hk hp =>
    intro w hw
    simp only [List.mem_cons, List.not_mem_nil, or_false] at hw
    rcases hw with rfl | rfl | rfl
    · exact nm_sm (kinds_facts _ hk)
    · exact nm_sm isNm_at
    · exact nm_sm hp
  | five hk hp hn =>
    intro w hw
    simp only [List.mem_cons, List.not_mem_nil, or_false] at hw
    rcases hw with rfl | rfl | rfl | rfl | rfl
    · exact nm_sm (kinds_facts _ hk)
    · exact nm_sm isNm_at
    · exact nm_sm hp
    · exact nm_sm isNm_make
    · exact num_sm hn
theorem GoodWs.ok {ws : List Str} (g : GoodWs ws) : ∀ (i : Nat) (w : Str), ws[i]? = some w → okAt i w = true := by
  cases g with
  | three hk hp =>
    intro i w hw
    match i, hw with
    | 0, hw => cases hw; exact decide_eq_true hk
    | 1, hw => cases hw; decide +kernel
    | 2, hw => cases hw; exact hp
  | five hk hp hn =>
    intro i w hw
    match i, hw with
    | 0, hw => cases hw; exact decide_eq_true hk
    | 1, hw => cases hw; decide +kernel
    | 2, hw => cases hw; exact hp
    | 3, hw => cases hw; decide +kernel
    | 4, hw => cases hw; exact decide_eq_true (List.mem_map.mpr ⟨_, List.mem_range.mpr hn, rfl⟩)
/-! ### the text that the law writes -/
/-- behind i whole words -/
def At (ws : List Str) (i : Nat) (st : WSt) : Prop := (i = 0 ∧ st = ([], [])) ∨ (0 < i ∧ st.2 ≠ [] ∧ (st.1 ++ [st.2]).map (List.map lo1) = (ws.take i).map tl)
/-- at the j-th sign of the word w, behind i whole ones -/
def Amid (ws : List Str) (i : Nat) (w : Str) (j : Nat) (st : WSt) : Prop := st.1.map (List.map lo1) = (ws.take i).map tl ∧ st.2.map lo1 = (tl w).take j
theorem At.blanks {ws : List Str} {i : Nat} {st : WSt} (h : At ws i st) (w : Str) {k : Nat} (hk : i ≠ 0 → k ≠ 0) : Amid ws i w 0 ((List.replicate k 32).foldl wst st) := by
  rcases h with ⟨rfl, rfl⟩ | ⟨hi, h1, h2⟩
  · rw [wst_blank0 rfl]
    exact ⟨rfl, rfl⟩
  · obtain ⟨m, rfl⟩ : ∃ m, k = m + 1 := ⟨k - 1, by have := hk (by omega); omega⟩
    rw [wst_blanks]
    refine ⟨?_, rfl⟩
    show (wfn st).map (List.map lo1) = _
    unfold wfn
    rw [if_neg h1]
    exact h2
theorem Amid.step {ws : List Str} {i j : Nat} {w : Str} {st : WSt} {c d : Nat} (h : Amid ws i w j st) (hc : (tl w)[j]? = some c) (hd : lo1 d = c) (hn : d ≠ 32) : Amid ws i w (j + 1) (wst st d) := by
  rw [wst_sign st hn]
  refine ⟨h.1, ?_⟩
  show (st.2 ++ [d]).map lo1 = _
  rw [List.map_append, h.2, List.take_add_one, hc, List.map_cons, hd]
  rfl
theorem Amid.done {ws : List Str} {i : Nat} {w : Str} {st : WSt} (h : Amid ws i w (tl w).length st) (hw : ws[i]? = some w) (hne : tl w ≠ []) : At ws (i + 1) st := by
  have h2 := h.2
  rw [List.take_length] at h2
  refine .inr ⟨Nat.succ_pos _, fun z => ?_, ?_⟩
  · rw [z] at h2
    exact hne h2.symm
  · rw [List.map_append, h.1, List.take_add_one, hw, List.map_cons, List.map_nil, h2, List.map_append]
    rfl
theorem At.fin {ws : List Str} {st : WSt} (h : At ws ws.length st) (hne : ws ≠ []) (k : Nat) : (wfn ((List.replicate k 32).foldl wst st)).map (List.map lo1) = ws.map tl := by
  rw [wfn_blanks]
  rcases h with ⟨h0, _⟩ | ⟨_, h1, h2⟩
  · exact absurd (List.length_eq_zero_iff.mp h0) hne
  · unfold wfn
    rw [if_neg h1, h2, List.take_length]
end My

set_option Elab.async false
set_option linter.all false
set_option maxRecDepth 100000
set_option maxHeartbeats 4000000
namespace My
open PySem PySem.Spec PyProof.Rows L2
/-! ### own words over the layer -/
/-- a def that is called by its name and lets nothing out -/
def Cal (P : Program) (w : World) (K : PySem.W.Frag) (mg : Str → Option Value) (base : Heap) (k : Nat) (x : Str) (sp : Sp) : Prop :=
  ∃ (f : Addr) (fd : FuncData) (ps : List Str), FnOk P w K mg base CX0 k f fd ps sp ∧ mg x = some (.ref f) ∧ PySem.W.keepIn K (.ref f) = true ∧ Binds K fd ps []
theorem pe_cal {X : Cx} {k j : Nat} {x : Str} {sp : Sp} {p pos : Pos} {e : Expr} {es : List Expr} {t : TA} (c : Cal X.prog X.w X.K X.mg X.base k x sp) (hr : Room j X.A) (hk : k ≤ j) (hg : Gl X x) (ha : PA X (e :: es) t)
    (hdb : (x == ("__debug__" : Str)) = false := by decide) (he : starEach (e :: es) X.env = (false, eval e X.env) :: starEach es X.env := by rfl) (hpl : (backTo pos (starEach es X.env)).any (·.1) = false := by rfl) :
    PE X (.Call (.Name x p) (e :: es) [] pos) (tCall sp [] E0 t) := by
  obtain ⟨f, fd, ps, F, hm, kp, b⟩ := c
  exact pe_call F (hr.mono hk) hg hm kp b .nil pass0 ha hdb he hpl
theorem same_upd {H : Hp} {p : Addr} {o : HO} (h : H p = none) : Same H (upd H p o) := fun b x e => by
  rw [upd_ne (ne_of_none e h)]
  exact e
/-- a list or tuple of the given values, by its places -/
theorem atI_of {xs : List V} {z : Int} {v : V} (h0 : 0 ≤ z) (h : xs[z.toNat]? = some v) : atI xs z = some v := by
  have e : z = (z.toNat : Int) := (Int.toNat_of_nonneg h0).symm
  rw [e]
  exact atI_nat h
theorem ixN_nat {n : Nat} {j : Nat} (h : j < n) : ixN n (j : Int) = some j := by
  unfold ixN
  simp
  omega
/-! ### the bag -/
def Bag (H : Hp) (p : Addr) : Prop := ∃ g s : Int, H p = some (.lst [.int g, .int s]) ∧ 0 ≤ g ∧ 0 ≤ s ∧ s < 2147483648
/-- all stands but the bag at p -/
def Sx (p : Addr) (H H' : Hp) : Prop := ∀ b o, b ≠ p → H b = some o → H' b = some o
def topS (i : Nat) : Stmt := PySem.Challenge.pw_whistleboard_k21_calls_nearly_read.main.body.getD i (.Pass ⟨0, 0, 0, 0⟩)
structure Txt (mg : Str → Option Value) : Prop where
  z_len : mg "len" = none
  z_abs : mg "abs" = none
  z_all : mg "all" = none
  z_str : mg "str" = none
  z_int : mg "int" = none
  z_isinstance : mg "isinstance" = none
  z_range : mg "range" = none
  z_max : mg "max" = none
  z_min : mg "min" = none
  z_bool : mg "bool" = none
  z_list : mg "list" = none
  z_tuple : mg "tuple" = none
  z_enumerate : mg "enumerate" = none
  z_zip : mg "zip" = none
  z_ValueError : mg "ValueError" = none
  g_LONGEST_NAME : ∃ t, mg "LONGEST_NAME" = some (.int 8 t)
  g_MOST_PUMPS : ∃ t, mg "MOST_PUMPS" = some (.int 20 t)
  g_WORDS_WITHOUT_NUMBER : ∃ t, mg "WORDS_WITHOUT_NUMBER" = some (.int 3 t)
  g_WORDS_WITH_NUMBER : ∃ t, mg "WORDS_WITH_NUMBER" = some (.int 5 t)
  g_LETTERS : ∃ t, mg "LETTERS" = some (.str "abcdefghijklmnopqrstuvwxyz" t)
theorem Sx.of {p : Addr} {H H' : Hp} (h : ∀ b, b ≠ p → H' b = H b) : Sx p H H' := fun b o hb e => by
  rw [h b hb]
  exact e
theorem Sx.trans {p : Addr} {H H1 H2 : Hp} (a : Sx p H H1) (b : Sx p H1 H2) : Sx p H H2 := fun c o hc e => b c o hc (a c o hc e)
theorem Sx.same {p : Addr} {H H' : Hp} (h : Same H H') : Sx p H H' := fun b o _ e => h b o e
theorem Sx.toSame {p : Addr} {H H1 H2 : Hp} (a : Same H H1) (b : Sx p H1 H2) (np : H p = none) : Same H H2 := fun c o e => b c o (ne_of_none e np) (a c o e)
theorem Bag.some {p : Addr} {H : Hp} (h : Bag H p) : ∃ o, H p = some o := by
  obtain ⟨g, s, e, _⟩ := h
  exact ⟨_, e⟩
theorem Bag.same {p : Addr} {H H' : Hp} (h : Bag H p) (sm : Same H H') : Bag H' p := by
  obtain ⟨g, s, e, r⟩ := h
  exact ⟨g, s, sm _ _ e, r⟩
theorem Bag.ne {p l : Addr} {H : Hp} (h : Bag H p) (hl : H l = none) : l ≠ p := fun e => by
  obtain ⟨o, q⟩ := h.some
  rw [e, q] at hl
  cases hl
theorem neF (v : V) : V.bl (!decide (v = v)) = V.bl false := by
  rw [decide_eq_true rfl]
  rfl
theorem isF' {v : V} (h : v ≠ .non) : V.bl (decide (v = V.non)) = V.bl false := by
  rw [decide_eq_false h]
/-- no test in a comprehension -/
theorem yesI {σ : L2.St} {H : Hp} {A B : Hp → Prop} (h : A H) : tYes σ H (fun b H3 => if b = true then A H3 else B H3) := by
  show if true = true then A H else B H
  exact iteT h
theorem cal_mk {P : Program} {w : World} {K : PySem.W.Frag} {mg : Str → Option Value} {base : Heap} {k : Nat} {x : Str} {sp : Sp} {f : Addr} {fd : FuncData} {ps : List Str} (F : FnOk P w K mg base CX0 k f fd ps sp) (g : mg x = some (.ref f)) (kp : PySem.W.keepIn K (.ref f) = true) (b : Binds K fd ps []) : Cal P w K mg base k x sp := ⟨f, fd, ps, F, g, kp, b⟩
theorem pe_glob' {X : Cx} {x : Str} {pos : Pos} {i : Int} (h : ∃ t, X.mg x = some (.int i t)) (hg : Gl X x) (hd : (x == ("__debug__" : Str)) = false := by decide) : PE X (.Name x pos) (tC (.int i)) := by
  obtain ⟨t, e⟩ := h
  exact pe_glob hg e ⟨_, rfl⟩ (hd := hd)
theorem pe_globS {X : Cx} {x : Str} {pos : Pos} {i : Str} (h : ∃ t, X.mg x = some (.str i t)) (hg : Gl X x) (hd : (x == ("__debug__" : Str)) = false := by decide) : PE X (.Name x pos) (tC (.str i)) := by
  obtain ⟨t, e⟩ := h
  exact pe_glob hg e ⟨_, rfl⟩ (hd := hd)
section
variable {P : Program} {w : World} {K : PySem.W.Frag} {mg : Str → Option Value} {base : Heap}
/-! ### _law_take -/
abbrev s_law_take : Stmt := topS 22
abbrev N_law_take : List Str := ["_law_bag_here", "_law_many", "_law_digit"]
theorem sc_law_take : FnScope N_law_take ["_law_bag_here", "_law_many"] (defScope s_law_take) := ⟨rfl, rfl, rfl, by decide +kernel, rfl, by decide +kernel, by decide +kernel⟩
def sp_law_take : Sp := fun vs H Q _ => ∃ (p : Addr) (m : Int), vs = [.ref p, .int m] ∧ Bag H p ∧ 0 < m ∧ m < 1073741824 ∧
  ∀ d H', 0 ≤ d → d < m → Bag H' p → (∀ b, b ≠ p → H' b = H b) → Q (.int d) H'
theorem ok_law_take {f : Addr} {fd : FuncData} {k : Nat} (F : Fun K "_law_take" "_law_take" s_law_take f fd) : FnOk P w K mg base CX0 (k + 1) f fd ["_law_bag_here", "_law_many"] sp_law_take := by
  refine F.ok sc_law_take (fun vs H Q E h => ?_) (fun cdv A outer s H vs Q E hr h => ?_)
  · obtain ⟨p, m, rfl, _⟩ := h
    rfl
  · obtain ⟨p, m, rfl, ⟨g, sd, hp, hg, h0, h1⟩, hm0, hm1, q⟩ := h
    refine ⟨_, (pss_cons (ps_if (pt_cmpR op_gt (pe_ix ix_list (pv 0) pe_int (fun _ _ => rfl)) pe_int (nomark _)) (pss_cons (ps_set (i := 2) sc_law_take.nd rfl (.inl rfl) (pe_op op_mod (pe_ix ix_list (pv 0) pe_int (fun _ _ => rfl)) (pv 1)))
        (pss_cons (ps_asg (pe_op op_fdiv (pe_ix ix_list (pv 0) pe_int (fun _ _ => rfl)) (pv 1)) (pg_sub (pv 0) pe_int set_list))
        (pss_one (ps_ret (pv 2))))) pss_nil)
      (pss_cons (ps_asg (pe_op op_mod (pe_op op_add (pe_op op_mul (pe_ix ix_list (pv 0) pe_int (fun _ _ => rfl)) pe_int) pe_int) pe_int) (pg_sub (pv 0) pe_int set_list))
      (pss_one (ps_ret (pe_op op_mod (pe_op op_mod (pe_op op_pow (pe_op op_fdiv (pe_ix ix_list (pv 0) pe_int (fun _ _ => rfl)) pe_int) pe_int) pe_int) (pv 1)))))), ?_⟩
    have hL : SqL K H p [.int g, .int sd] := SqL.of hp
    refine ⟨_, rfl, p, _, 0, .int g, rfl, rfl, hL, atI_nat (j := 0) rfl, _, _, rfl, rfl, _, rfl, ite2 (fun e => ?_) (fun e => ?_)⟩
    · have eg : (0 : Int) < g := of_decide_eq_true e
      refine ⟨_, rfl, p, _, 0, .int g, rfl, rfl, hL, atI_nat (j := 0) rfl, _, rfl, _, _, rfl, rfl, hm0, ?_⟩
      refine ⟨_, rfl, p, _, 0, .int g, rfl, rfl, hL, atI_nat (j := 0) rfl, _, rfl, _, _, rfl, rfl, ⟨hm0, hm1⟩, ?_⟩
      refine ⟨_, rfl, p, _, 0, 0, rfl, rfl, hp, rfl, ?_⟩
      refine ⟨_, rfl, ?_⟩
      refine q _ _ (Int.emod_nonneg _ (by omega)) (Int.emod_lt_of_pos _ hm0) ⟨g / m, sd, upd_same, Int.ediv_nonneg hg (by omega), h0, h1⟩ (fun b hb => upd_ne hb)
    · refine ⟨_, rfl, p, _, 1, .int sd, rfl, rfl, hL, atI_nat (j := 1) rfl, _, _, rfl, rfl, .inl ⟨by omega, by omega⟩, _, _, rfl, rfl, _, _, rfl, rfl, (by show (0 : Int) < 2147483647; decide), ?_⟩
      refine ⟨_, rfl, p, _, 1, 1, rfl, rfl, hp, rfl, ?_⟩
      have e0 : 0 ≤ (sd * 48271 + 11) % 2147483647 := Int.emod_nonneg _ (by decide)
      have e1 : (sd * 48271 + 11) % 2147483647 < 2147483647 := Int.emod_lt_of_pos _ (by decide)
      refine ⟨_, rfl, p, _, 1, .int ((sd * 48271 + 11) % 2147483647), rfl, rfl, SqL.of upd_same, atI_nat (j := 1) rfl, _, _, rfl, rfl, ⟨by decide, by decide⟩, _, _, rfl, rfl, ⟨by decide, by decide, by omega⟩, _, _, rfl, rfl, (by show (0 : Int) < 2147483629; decide), _, rfl, _, _, rfl, rfl, hm0, ?_⟩
      refine q _ _ (Int.emod_nonneg _ (by omega)) (Int.emod_lt_of_pos _ hm0) ⟨g, _, upd_same, hg, e0, by omega⟩ (fun b hb => upd_ne hb)
/-! ### _law_bag -/
abbrev s_law_bag : Stmt := topS 21
abbrev N_law_bag : List Str := ["_law_script", "_law_at", "_law_cell", "_law_great", "_law_primes"]
theorem sc_law_bag : FnScope N_law_bag ["_law_script", "_law_at"] (defScope s_law_bag) := ⟨rfl, rfl, rfl, by decide +kernel, rfl, by decide +kernel, by decide +kernel⟩
def primes : List Int := [2147483629, 2147483587, 2147483579, 2147483563, 2147483549, 2147483543, 2147483497, 2147483489]
theorem primes_at (j : Nat) (h : j < 8) : ∃ p : Int, primes[j]? = some p ∧ 0 < p ∧ p < 2147483648 := by
  have q : ∀ j : Nat, j < 8 → ∃ p : Int, primes[j]? = some p ∧ 0 < p ∧ p < 2147483648 := fun j h =>
    match j, h with
    | 0, _ => ⟨_, rfl, by decide, by decide⟩ | 1, _ => ⟨_, rfl, by decide, by decide⟩ | 2, _ => ⟨_, rfl, by decide, by decide⟩ | 3, _ => ⟨_, rfl, by decide, by decide⟩
    | 4, _ => ⟨_, rfl, by decide, by decide⟩ | 5, _ => ⟨_, rfl, by decide, by decide⟩ | 6, _ => ⟨_, rfl, by decide, by decide⟩ | 7, _ => ⟨_, rfl, by decide, by decide⟩
    | n + 8, h => absurd h (by omega)
  exact q j h
def sp_law_bag (K : PySem.W.Frag) : Sp := fun vs H Q _ => ∃ (a : Addr) (ns : List Int) (at_ : Int), vs = [.ref a, .int at_] ∧ SqL K H a (ns.map V.int) ∧ 0 ≤ at_ ∧ at_ < 1000000 ∧
  ∀ H' p, Same H H' → H p = none → Bag H' p → Q (.ref p) H'
theorem ok_law_bag {f : Addr} {fd : FuncData} {k : Nat} (F : Fun K "_law_bag" "_law_bag" s_law_bag f fd) (T : Txt mg) : FnOk P w K mg base CX0 (k + 1) f fd ["_law_script", "_law_at"] (sp_law_bag K) := by
  refine F.ok sc_law_bag (fun vs H Q E h => ?_) (fun cdv A outer s H vs Q E hr h => ?_)
  · obtain ⟨a, ns, m, rfl, _⟩ := h
    rfl
  · obtain ⟨a, ns, m, rfl, hS, hm0, hm1, q⟩ := h
    refine ⟨_, (pss_cons (ps_set (i := 2) sc_law_bag.nd rfl (.inl rfl) pe_int)
      (pss_cons (ps_if (pt_cmpR op_lt (pv 1) (pe_callB call_len_seq (by rfl) T.z_len (by decide +kernel) (pa_cons (pv 0) pa_nil)) (nomark _)) (pss_one (ps_set (i := 2) sc_law_bag.nd rfl (.inl rfl) (pe_ix ix_list (pv 0) (pv 1) (fun _ _ => rfl)))) pss_nil)
      (pss_cons (ps_set (i := 3) sc_law_bag.nd rfl (.inl rfl) pe_int)
      (pss_cons (ps_if (pt_cmpR op_ge (pe_callB call_abs (by rfl) T.z_abs (by decide +kernel) (pa_cons (pv 2) pa_nil)) (pe_op op_pow pe_int pe_int) (nomark _)) (pss_one (ps_set (i := 3) sc_law_bag.nd rfl (.inl rfl) (pe_callB call_abs (by rfl) T.z_abs (by decide +kernel) (pa_cons (pv 2) pa_nil)))) pss_nil)
      (pss_cons (ps_set (i := 4) sc_law_bag.nd rfl (.inl rfl) (pe_lst (pa_cons pe_int (pa_cons pe_int (pa_cons pe_int (pa_cons pe_int (pa_cons pe_int (pa_cons pe_int (pa_cons pe_int (pa_cons pe_int pa_nil))))))))))
      (pss_one (ps_ret (pe_lst (pa_cons (pv 3) (pa_cons (pe_op op_mod (pe_op op_pow (pe_op op_add (pe_op op_add (pe_op op_mod (pv 2) pe_int) (pe_op op_mul pe_int (pv 1))) pe_int) pe_int) (pe_ix ix_list (pv 4) (pe_op op_mod (pv 1) pe_int) (fun _ _ => rfl))) pa_nil)))))))))), ?_⟩
    have nat8 : (m % 8).toNat < 8 := by omega
    obtain ⟨pr, hpr, pr0, pr1⟩ := primes_at _ nat8
    have hat : atI (primes.map V.int) (m % 8) = some (.int pr) := atI_of (by omega) (by rw [List.getElem?_map, hpr]; rfl)
    have hcell : ∀ x : Int, (x % 2147483647 + 104729 * m + 7).natAbs < 2 ^ 64 := fun x => by omega
    refine ⟨_, rfl, _, rfl, a, _, rfl, .inl hS, _, _, rfl, rfl, _, rfl, ite2 (fun e => ?g1) (fun e => ?g2)⟩
    case' g1 =>
      have hl : m.toNat < ns.length := by
        have z : m < ((ns.map V.int).length : Nat) := of_decide_eq_true e
        rw [List.length_map] at z
        omega
      have hc : atI (ns.map V.int) m = some (.int (ns[m.toNat])) := atI_of hm0 (by rw [List.getElem?_map, List.getElem?_eq_getElem hl]; rfl)
      refine ⟨_, rfl, _, rfl, a, _, _, _, rfl, rfl, hS, hc, ?_⟩
      generalize ns[m.toNat] = c
    all_goals
      refine ⟨_, rfl, _, rfl, _, _, rfl, rfl, ⟨by decide, by decide, by decide⟩, _, _, rfl, rfl, _, rfl, ite2 (fun e1 => ?_) (fun e1 => ?_)⟩
    all_goals try refine ⟨_, rfl, _, rfl, ?_⟩
    all_goals
      refine ⟨(by show 8 ≤ sizeLine; decide), fun tp ntp => ?_⟩
      refine ⟨_, rfl, _, rfl, _, _, rfl, rfl, (by show (0 : Int) < 2147483647; decide), _, rfl, _, _, rfl, rfl, .inl ⟨by decide, by decide⟩, _, _, rfl, rfl, _, _, rfl, rfl, _, _, rfl, rfl, ⟨by decide, by decide, hcell _⟩, _, rfl, _, rfl, _, _, rfl, rfl, (by show (0 : Int) < 8; decide), tp, _, _, _, rfl, rfl, SqL.of (xs := primes.map V.int) upd_same, hat, _, _, rfl, rfl, pr0, (by show 2 ≤ sizeLine; decide), fun p np => ?_⟩
      refine q _ p ((same_upd ntp).trans (same_upd np)) ((same_upd ntp).free np) ⟨_, _, upd_same, ?_, Int.emod_nonneg _ (by omega), Int.lt_trans (Int.emod_lt_of_pos _ pr0) pr1⟩
      first | decide | (split <;> omega)
end
end My

set_option Elab.async false
set_option linter.all false
set_option maxRecDepth 100000
set_option maxHeartbeats 4000000
namespace My
open PySem PySem.Spec PyProof.Rows L2 TL RZ
theorem str_app (a b : Str) : (a ++ b).length = a.length + b.length := Array.size_append
theorem reps_tl (c : Nat) : ∀ (n : Nat) (acc : Array Nat), ((List.replicate n (#[c] : Array Nat)).foldl (· ++ ·) acc).toList = acc.toList ++ List.replicate n c
  | 0, acc => by
    show acc.toList = acc.toList ++ []
    rw [List.append_nil]
  | n + 1, acc => by
    rw [List.replicate_succ, List.foldl_cons, reps_tl c n, Array.toList_append, List.append_assoc, List.replicate_succ]
    rfl
section
variable {X : Cx}
/-- a text times a number -/
theorem op_mulS : OpR X (binaryOp .Mult) (fun x y H Q => ∃ (z : Str) (n : Int), x = .str z ∧ y = .int n ∧ MulOk z n ∧ Q (.str (Txt.mul z n)) H) := by
  intro pins s σ H x y v u Q I rx ry h
  obtain ⟨z, n, rfl, rfl, hok, q⟩ := h
  obtain ⟨t, rfl⟩ := rx
  obtain ⟨t', rfl⟩ := ry
  exact SB.mul hok fun t' k => ⟨.str _, H, I.tok k, ⟨t', rfl⟩, q⟩
end
/-- zip of two tuples -/
theorem walk_zipT {K : PySem.W.Frag} {a b : Addr} {xs ys : List V} {n : Nat} (hn : n = min xs.length ys.length) : Walk (ItzT K a b) n (fun H => SqT K H a xs ∧ SqT K H b ys) (YPair (fun i => xs[i]?) (fun i => ys[i]?)) := by
  subst hn
  refine ⟨fun i _ hi q => ?_, fun _ q => ⟨xs, ys, q.1, q.2, by omega⟩, fun i H v H' _ q y => ?_⟩
  · have h1 : i < xs.length := by omega
    have h2 : i < ys.length := by omega
    exact ⟨xs, ys, xs[i], ys[i], q.1, q.2, by simp [h1], by simp [h2]⟩
  · obtain ⟨T, x, z, h1, h2, h3, h4, h5⟩ := y
    exact ⟨T, x, z, h1, h2, h3, h4 xs q.1, h5 ys q.2⟩
theorem Same.sqT {K : PySem.W.Frag} {H H' : Hp} {a : Addr} {xs : List V} (e : Same H H') (h : SqT K H a xs) : SqT K H' a xs := by
  rcases h with (h | ⟨o, h⟩) | h
  · exact .inl (.inl (e _ _ h))
  · exact .inl (.inr ⟨o, e _ _ h⟩)
  · exact .inr h
mutual
theorem Dp.same {K : PySem.W.Frag} {H H' : Hp} (sm : Same H H') : ∀ {v : V} {d : PyData}, Dp K H v d → Dp K H' v d
  | _, _, .non => .non
  | _, _, .bl b => .bl b
  | _, _, .int i => .int i
  | _, _, .str x => .str x
  | _, _, .lst h a => .lst (sm.seq h) (DpAll.same sm a)
  | _, _, .tup h a => .tup (Same.sqT sm h) (DpAll.same sm a)
theorem DpAll.same {K : PySem.W.Frag} {H H' : Hp} (sm : Same H H') : ∀ {vs : List V} {ds : List PyData}, DpAll K H vs ds → DpAll K H' vs ds
  | _, _, .nil => .nil
  | _, _, .cons h a => .cons (Dp.same sm h) (DpAll.same sm a)
end
theorem DpAll.len {K : PySem.W.Frag} {H : Hp} : ∀ {vs : List V} {ds : List PyData}, DpAll K H vs ds → vs.length = ds.length
  | _, _, .nil => rfl
  | _, _, .cons _ a => congrArg Nat.succ (DpAll.len a)
theorem DpAll.at {K : PySem.W.Frag} {H : Hp} : ∀ {vs : List V} {ds : List PyData} (_ : DpAll K H vs ds) (i : Nat) {x : V}, vs[i]? = some x → ∃ d, ds[i]? = some d ∧ Dp K H x d
  | _, _, .nil, i, x, h => by cases h
  | _, _, .cons h a, 0, x, e => ⟨_, rfl, by cases e; exact h⟩
  | _, _, .cons h a, i + 1, x, e => DpAll.at a i e
def tn : PyData → String
  | .none => "NoneType" | .bool _ => "bool" | .int _ => "int" | .str _ => "str" | .list _ => "list" | .tuple _ => "tuple" | .dict _ => "dict"
def isB : PyData → Bool
  | .bool _ => true
  | _ => false
def isS : PyData → Bool
  | .list _ => true
  | .tuple _ => true
  | _ => false
theorem Dp.ty {K : PySem.W.Frag} {H : Hp} {v : V} {d : PyData} (h : Dp K H v d) : TyX K H v (.type (tn d)) := by
  cases h with
  | non => exact .base .non
  | bl b => exact .base (.bl b)
  | int i => exact .base (.int i)
  | str x => exact .base (.str x)
  | lst h _ =>
    rcases h with (h | ⟨o, h⟩) | ⟨o, its, n, h, hc, _⟩
    · exact .base (.lst h)
    · exact .base (.frz h)
    · exact .kList h hc
  | tup h _ =>
    rcases h with (h | ⟨o, h⟩) | ⟨o, its, n, h, hc, _⟩
    · exact .base (.tup h)
    · exact .fTuple h
    · exact .kTuple h hc
theorem kit_bool (d : PyData) : kitB (tn d) "bool" = some (isB d) := by
  cases d with
  | none  => (show kitB "NoneType" "bool" = some false; decide +kernel)
  | bool b => (show kitB "bool" "bool" = some true; decide +kernel)
  | int i => (show kitB "int" "bool" = some false; decide +kernel)
  | str x => (show kitB "str" "bool" = some false; decide +kernel)
  | list x => (show kitB "list" "bool" = some false; decide +kernel)
  | tuple x => (show kitB "tuple" "bool" = some false; decide +kernel)
  | dict x => (show kitB "dict" "bool" = some false; decide +kernel)
theorem kit_seq {K : PySem.W.Frag} (d : PyData) : PySem.W.kitAny K (.type (tn d)) [.type "list", .type "tuple"] = some (isS d) := by
  cases d with
  | none  => exact kitAny_cons (b := false) (kit_ty (by show kitB "NoneType" "list" = some false; decide +kernel)) (fun _ => kitAny_cons (b := false) (kit_ty (by show kitB "NoneType" "tuple" = some false; decide +kernel)) (fun _ => kitAny_nil) (fun z => nomatch z)) (fun z => nomatch z)
  | bool b => exact kitAny_cons (b := false) (kit_ty (by show kitB "bool" "list" = some false; decide +kernel)) (fun _ => kitAny_cons (b := false) (kit_ty (by show kitB "bool" "tuple" = some false; decide +kernel)) (fun _ => kitAny_nil) (fun z => nomatch z)) (fun z => nomatch z)
  | int i => exact kitAny_cons (b := false) (kit_ty (by show kitB "int" "list" = some false; decide +kernel)) (fun _ => kitAny_cons (b := false) (kit_ty (by show kitB "int" "tuple" = some false; decide +kernel)) (fun _ => kitAny_nil) (fun z => nomatch z)) (fun z => nomatch z)
  | str x => exact kitAny_cons (b := false) (kit_ty (by show kitB "str" "list" = some false; decide +kernel)) (fun _ => kitAny_cons (b := false) (kit_ty (by show kitB "str" "tuple" = some false; decide +kernel)) (fun _ => kitAny_nil) (fun z => nomatch z)) (fun z => nomatch z)
  | list x => exact kitAny_cons (b := true) (kit_ty (by show kitB "list" "list" = some true; decide +kernel)) (fun z => nomatch z) (fun _ => rfl)
  | tuple x => exact kitAny_cons (b := false) (kit_ty (by show kitB "tuple" "list" = some false; decide +kernel)) (fun _ => kitAny_cons (b := true) (kit_ty (by show kitB "tuple" "tuple" = some true; decide +kernel)) (fun z => nomatch z) (fun _ => rfl)) (fun z => nomatch z)
  | dict x => exact kitAny_cons (b := false) (kit_ty (by show kitB "dict" "list" = some false; decide +kernel)) (fun _ => kitAny_cons (b := false) (kit_ty (by show kitB "dict" "tuple" = some false; decide +kernel)) (fun _ => kitAny_nil) (fun z => nomatch z)) (fun z => nomatch z)
/-- data less than n deep, of plain texts, of few things -/
inductive Okd : Nat → PyData → Prop where
  | non {n : Nat} : Okd (n + 1) .none
  | bool {n : Nat} (b : Bool) : Okd (n + 1) (.bool b)
  | int {n : Nat} (i : Int) : Okd (n + 1) (.int i)
  | str {n : Nat} {x : Str} (h : ∀ c ∈ tl x, c < 128) : Okd (n + 1) (.str x)
  | list {n : Nat} {ds : List PyData} (hl : ds.length ≤ 1000) (h : ∀ d ∈ ds, Okd n d) : Okd (n + 1) (.list ds)
  | tuple {n : Nat} {ds : List PyData} (hl : ds.length ≤ 1000) (h : ∀ d ∈ ds, Okd n d) : Okd (n + 1) (.tuple ds)
theorem layAll {ds : List PyData} {n : Nat} : (∀ d ∈ ds, d.canLay0 = true ∧ d.depth ≤ n) → PyData.canLayAll0 ds = true ∧ PyData.depthAll ds ≤ n := by
  induction ds with
  | nil =>
    intro _
    simp [PyData.canLayAll0, PyData.depthAll]
  | cons d ds ih =>
    intro h
    have h1 := h d (List.mem_cons_self ..)
    have h2 := ih fun e he => h e (List.mem_cons_of_mem _ he)
    simp only [PyData.canLayAll0, PyData.depthAll, h1.1, h2.1, Bool.and_self, true_and]
    exact Nat.max_le.mpr ⟨h1.2, h2.2⟩
theorem Okd.lay {n : Nat} {d : PyData} (h : Okd n d) : d.canLay0 = true ∧ d.depth ≤ n := by
  induction h with
  | non => simp [PyData.canLay0, PyData.depth]
  | bool b => simp [PyData.canLay0, PyData.depth]
  | int i => simp [PyData.canLay0, PyData.depth]
  | @str n x h =>
    refine ⟨?_, by simp [PyData.depth]⟩
    simp only [PyData.canLay0]
    show x.cps.all (· < 0x110000) = true
    rw [← Array.all_toList, List.all_eq_true]
    intro c hc
    exact decide_eq_true (Nat.lt_trans (h c hc) (by decide))
  | list hl h ih =>
    have q := layAll ih
    simp only [PyData.canLay0, PyData.depth]
    exact ⟨q.1, by omega⟩
  | tuple hl h ih =>
    have q := layAll ih
    simp only [PyData.canLay0, PyData.depth]
    exact ⟨q.1, by omega⟩
theorem Okd.shaped {n : Nat} {d : PyData} (h : Okd n d) (hn : n ≤ 64) : SeqAt.shaped d = true := by
  have q := h.lay
  show (d.canLay0 && decide (d.depth ≤ 64)) = true
  rw [q.1, decide_eq_true (Nat.le_trans q.2 hn)]
  rfl
theorem eqv_self {d : PyData} (h : SeqAt.shaped d = true) : PyData.eqv d d = true := SeqAt.eqv_refl d (SeqAt.canLay_of_shaped h)
theorem iteF' {b : Bool} {A B : Prop} (h : b = false) (hB : B) : if b = true then A else B := by
  rw [h]
  exact iteF hB
theorem iteT' {b : Bool} {A B : Prop} (h : b = true) (hA : A) : if b = true then A else B := by
  rw [h]
  exact iteT hA
theorem bl_ne (b : Bool) : decide (¬ V.bl b = V.bl b) = false := decide_eq_false (fun h => h rfl)
theorem rep_all (n : Nat) : (List.replicate n true).all id = true := by
  induction n with
  | zero => rfl
  | succ n ih => rw [List.replicate_succ, List.all_cons, ih]; rfl
/-- a new object beside a list that grows at D -/
theorem Same.grow {H H' : Hp} {D : Addr} {o : HO} (sm : Same H H') (nD : H D = none) : Same H (upd H' D o) := fun b x e => by
  rw [upd_ne (ne_of_none e nD)]
  exact sm b x e
section
variable {P : Program} {w : World} {K : PySem.W.Frag} {mg : Str → Option Value} {base : Heap}
abbrev s_law_like : Stmt := topS 28
abbrev N_law_like : List Str := ["_law_told_here", "_law_due", "_law_one", "_law_other"]
theorem sc_law_like : FnScope N_law_like ["_law_told_here", "_law_due"] (defScope s_law_like) := ⟨rfl, rfl, rfl, by decide +kernel, rfl, by decide +kernel, by decide +kernel⟩
/-- two things of the same data, less than n deep, are alike -/
def sp_law_like (K : PySem.W.Frag) (n : Nat) : Sp := fun vs H Q _ => ∃ (x y : V) (d : PyData), vs = [x, y] ∧ Dp K H x d ∧ Dp K H y d ∧ Okd n d ∧ ∀ H', Same H H' → Q (.bl true) H'
theorem ok_law_like {f : Addr} {fd : FuncData} (F : Fun K "_law_like" "_law_like" s_law_like f fd) (T : Txt mg) (g : mg "_law_like" = some (.ref f)) (kp : PySem.W.keepIn K (.ref f) = true) (bn : Binds K fd ["_law_told_here", "_law_due"] []) : ∀ n : Nat, n ≤ 64 → FnOk P w K mg base CX0 (n + 1) f fd ["_law_told_here", "_law_due"] (sp_law_like K n) := by
  intro n
  induction n with
  | zero =>
    intro _
    refine F.ok sc_law_like (fun vs H Q E h => ?_) (fun cdv A outer s H vs Q E hr h => ?_)
    · obtain ⟨x, y, d, rfl, _⟩ := h
      rfl
    · obtain ⟨x, y, d, rfl, _, _, h, _⟩ := h
      cases h
  | succ n ih =>
    intro hn
    have C_law_like : Cal P w K mg base (n + 1) "_law_like" (sp_law_like K n) := cal_mk (ih (by omega)) g kp bn
    refine F.ok sc_law_like (fun vs H Q E h => ?_) (fun cdv A outer s H vs Q E hr h => ?_)
    · obtain ⟨x, y, d, rfl, _⟩ := h
      rfl
    · obtain ⟨x, y, d, rfl, hx, hy, ho, q⟩ := h
      have hs := ho.shaped hn
      refine ⟨_, (pss_cons (ps_if (PW.pt (pw_or (pt_cmpR op_ne (pe_callB call_isi (by rfl) T.z_isinstance (by decide +kernel) (pa_cons (pv 0) (pa_cons (pe_bltn (v := .ty "bool") (by rfl) T.z_bool (by decide +kernel) rfl) pa_nil))) (pe_callB call_isi (by rfl) T.z_isinstance (by decide +kernel) (pa_cons (pv 1) (pa_cons (pe_bltn (v := .ty "bool") (by rfl) T.z_bool (by decide +kernel) rfl) pa_nil))) (nomark _)) (pw_or1 (pt_cmpR (op_neD hr.units) (pv 0) (pv 1) (nomark _))))) (pss_one (ps_ret pe_bl)) pss_nil)
      (pss_cons (ps_if (pt_val (pe_callB call_isiT (by rfl) T.z_isinstance (by decide +kernel) (pa_cons (pv 0) (pa_cons (pe_tup (pa_cons (pe_bltn (v := .ty "list") (by rfl) T.z_list (by decide +kernel) rfl) (pa_cons (pe_bltn (v := .ty "tuple") (by rfl) T.z_tuple (by decide +kernel) rfl) pa_nil))) pa_nil)))) (pss_one (ps_ret (pe_callB (cr_all (by rfl)) (by rfl) T.z_all (by decide +kernel) (pa_cons (pe_lc (own := [("_law_one", 2), ("_law_other", 3)]) (g := gTup K 2 (gCons (gName 2) (gCons (gName 3) gNil))) (by rfl) sc_law_like.nd (pi_zipA (by rfl) T.z_zip (pa_cons (pv 0) (pa_cons (pv 1) pa_nil))) (blkOk_by (own := [("_law_one", 2), ("_law_other", 3)]) (N := N_law_like) (sc := defScope s_law_like) (by decide +kernel)) (fun _ _ _ _ _ => (pg_tup rfl (pgs_cons (pg_name (i := 2) sc_law_like.nd rfl (.inl rfl)) (pgs_cons (pg_name (i := 3) sc_law_like.nd rfl (.inl rfl)) pgs_nil)))) (fun _ _ _ _ _ => pts_nil) (fun _ _ _ _ _ => (pe_cal C_law_like hr (Nat.le_refl _) (by rfl) (pa_cons (pv 2) (pa_cons (pv 3) pa_nil))))) pa_nil)))) pss_nil)
      (pss_one (ps_ret pe_bl)))), ?_⟩
      refine ⟨_, rfl, _, _, _, _, _, rfl, .ty "bool", Dp.ty hx, kit_ty (kit_bool d), ?_⟩
      refine ⟨_, rfl, _, _, _, _, _, rfl, .ty "bool", Dp.ty hy, kit_ty (kit_bool d), rfl, _, rfl, ?_⟩
      refine iteF' (by simp) ?_
      refine ⟨_, rfl, _, rfl, d, d, hx, hy, hs, hs, _, rfl, ?_⟩
      refine iteF' (by rw [eqv_self hs]; rfl) ?_
      refine ⟨_, rfl, (by show 2 ≤ sizeLine; decide), fun tp ntp => ?_⟩
      have sm1 : Same H (upd H tp (.tup [.ty "list", .ty "tuple"])) := same_upd ntp
      refine ⟨x, tp, _, _, _, isS d, rfl, upd_same, .cons (.ty "list") (.cons (.ty "tuple") .nil), Dp.ty (Dp.same sm1 hx), kit_seq d, _, rfl, ?_⟩
      cases hx with
      | lst ha hxs =>
        cases hy with
        | lst hb hys =>
        rename_i a xs ds b ys
        refine iteT ?_
        refine ⟨_, rfl, _, rfl, a, b, xs, ys, rfl, .inl ⟨sm1.seq ha, sm1.seq hb, fun D nD => ?_⟩⟩
        obtain ⟨hlen, hall⟩ : ds.length ≤ 1000 ∧ ∀ d ∈ ds, Okd n d := by cases ho with | list hl h => exact ⟨hl, h⟩
        have lx := DpAll.len hxs
        have ly := DpAll.len hys
        have nD0 : H D = none := sm1.free nD
        refine lc_it (walk_zip (n := ds.length) (by rw [lx, ly, Nat.min_self])) (fun i H' => Same H H' ∧ H' D = some (.lst (List.replicate i (V.bl true)))) ⟨sm1.trans (same_upd nD), upd_same⟩ (fun i H' _ p => ⟨p.1.seq ha, p.1.seq hb⟩) ?_ ?_
        · rintro i v H1 H2 hi ⟨sm, hD⟩ ⟨U, x1, y1, rfl, nU, rfl, ex, ey⟩
          obtain ⟨d1, e1, p1⟩ := DpAll.at hxs i ex
          obtain ⟨d2, e2, p2⟩ := DpAll.at hys i ey
          rw [e1] at e2
          cases e2
          have hm : d1 ∈ ds := List.mem_of_getElem? e1
          have sm2 : Same H (upd H1 U (.tup [x1, y1])) := sm.trans (same_upd nU)
          refine ⟨U, [x1, y1], rfl, SqT.of upd_same, rfl, _, _, rfl, _, _, rfl, rfl, rfl, yesI ?_⟩
          refine ⟨_, rfl, _, rfl, x1, y1, d1, rfl, Dp.same sm2 p1, Dp.same sm2 p2, hall d1 hm, fun H3 sm3 => ?_⟩
          · have hD3 : H3 D = some (.lst (List.replicate i (V.bl true))) := sm3 _ _ (by rw [upd_ne (ne_of_none hD nU)]; exact hD)
            refine ⟨_, hD3, ?_, Same.grow (sm2.trans sm3) nD0, ?_⟩
            · rw [List.length_replicate]
              exact Nat.lt_of_lt_of_le hi (Nat.le_trans hlen (by decide))
            · rw [upd_same, ← List.replicate_succ']
        · rintro H1 ⟨sm, hD⟩
          refine ⟨D, List.replicate ds.length true, rfl, SqL.of (by rw [List.map_replicate]; exact hD), ?_⟩
          rw [rep_all]
          exact q _ sm
      | tup ha hxs =>
        cases hy with
        | tup hb hys =>
        rename_i a xs ds b ys
        refine iteT ?_
        refine ⟨_, rfl, _, rfl, a, b, xs, ys, rfl, .inr ⟨Same.sqT sm1 ha, Same.sqT sm1 hb, fun D nD => ?_⟩⟩
        obtain ⟨hlen, hall⟩ : ds.length ≤ 1000 ∧ ∀ d ∈ ds, Okd n d := by cases ho with | tuple hl h => exact ⟨hl, h⟩
        have lx := DpAll.len hxs
        have ly := DpAll.len hys
        have nD0 : H D = none := sm1.free nD
        refine lc_it (walk_zipT (n := ds.length) (by rw [lx, ly, Nat.min_self])) (fun i H' => Same H H' ∧ H' D = some (.lst (List.replicate i (V.bl true)))) ⟨sm1.trans (same_upd nD), upd_same⟩ (fun i H' _ p => ⟨Same.sqT p.1 ha, Same.sqT p.1 hb⟩) ?_ ?_
        · rintro i v H1 H2 hi ⟨sm, hD⟩ ⟨U, x1, y1, rfl, nU, rfl, ex, ey⟩
          obtain ⟨d1, e1, p1⟩ := DpAll.at hxs i ex
          obtain ⟨d2, e2, p2⟩ := DpAll.at hys i ey
          rw [e1] at e2
          cases e2
          have hm : d1 ∈ ds := List.mem_of_getElem? e1
          have sm2 : Same H (upd H1 U (.tup [x1, y1])) := sm.trans (same_upd nU)
          refine ⟨U, [x1, y1], rfl, SqT.of upd_same, rfl, _, _, rfl, _, _, rfl, rfl, rfl, yesI ?_⟩
          refine ⟨_, rfl, _, rfl, x1, y1, d1, rfl, Dp.same sm2 p1, Dp.same sm2 p2, hall d1 hm, fun H3 sm3 => ?_⟩
          · have hD3 : H3 D = some (.lst (List.replicate i (V.bl true))) := sm3 _ _ (by rw [upd_ne (ne_of_none hD nU)]; exact hD)
            refine ⟨_, hD3, ?_, Same.grow (sm2.trans sm3) nD0, ?_⟩
            · rw [List.length_replicate]
              exact Nat.lt_of_lt_of_le hi (Nat.le_trans hlen (by decide))
            · rw [upd_same, ← List.replicate_succ']
        · rintro H1 ⟨sm, hD⟩
          refine ⟨D, List.replicate ds.length true, rfl, SqL.of (by rw [List.map_replicate]; exact hD), ?_⟩
          rw [rep_all]
          exact q _ sm
      | _ => exact iteF (q _ sm1)
end
end My

set_option Elab.async false
set_option linter.all false
set_option maxRecDepth 100000
set_option maxHeartbeats 4000000
namespace My
open PySem PySem.Spec PyProof.Rows L2 TL RZ
/-- what a thing that is no text is -/
def NoStr (K : PySem.W.Frag) (H : Hp) (x : V) : Prop := ∃ a : String, TyX K H x (.type a) ∧ kitB a "str" = some false
theorem pe_globR {X : Cx} {x : Str} {pos : Pos} {a : Addr} (h : X.mg x = some (.ref a)) (hg : Gl X x) (hd : (x == ("__debug__" : Str)) = false := by decide) : PE X (.Name x pos) (tC (.ref a)) := pe_glob hg h rfl (hd := hd)
/-- the written table of kinds -/
def Due (K : PySem.W.Frag) (w : World) (mg : Str → Option Value) : Prop := ∃ (d : Addr) (es : Array DictEntry) (n : Nat), mg "DUE" = some (.ref d) ∧ KDict K w d es n ∧ ∀ z : Str, ∃ r, PySem.W.nsIn K d z = some r ∧ r.isSome = decide (z ∈ kinds)
theorem in_letters (c : Nat) : decide (c ∈ (Str.ofString "abcdefghijklmnopqrstuvwxyz").cps.toList) = decide (97 ≤ c ∧ c ≤ 122) := decide_eq_decide.mpr (letters_mem c)
section
variable {P : Program} {w : World} {K : PySem.W.Frag} {mg : Str → Option Value} {base : Heap}
abbrev s_is_name : Stmt := topS 10
abbrev N_is_name : List Str := ["thing", "sign"]
theorem sc_is_name : FnScope N_is_name ["thing"] (defScope s_is_name) := ⟨rfl, rfl, rfl, by decide +kernel, rfl, by decide +kernel, by decide +kernel⟩
def sp_is_name : Sp := fun vs H Q _ => ∃ z : Str, vs = [.str z] ∧ z.length ≤ 100000 ∧ ∀ H', Same H H' → Q (.bl (isNm z)) H'
theorem ok_is_name {f : Addr} {fd : FuncData} {k : Nat} (F : Fun K "is_name" "is_name" s_is_name f fd) (T : Txt mg) : FnOk P w K mg base CX0 (k + 1) f fd ["thing"] sp_is_name := by
  refine F.ok sc_is_name (fun vs H Q E h => ?_) (fun cdv A outer s H vs Q E hr h => ?_)
  · obtain ⟨z, rfl, _⟩ := h
    rfl
  · obtain ⟨z, rfl, hz, q⟩ := h
    have hs : 100000 ≤ sizeLine := by decide
    refine ⟨_, (pss_cons (ps_if (PW.pt (pw_or (pt_not (pt_val (pe_callB call_isi (by rfl) T.z_isinstance (by decide +kernel) (pa_cons (pv 0) (pa_cons (pe_bltn (v := .ty "str") (by rfl) T.z_str (by decide +kernel) rfl) pa_nil))))) (pw_or1 (pt_not (pt_chain op_le op_le pe_int (pe_callB call_len_str (by rfl) T.z_len (by decide +kernel) (pa_cons (pv 0) pa_nil)) (pe_glob' T.g_LONGEST_NAME (by rfl))))))) (pss_one (ps_ret pe_bl)) pss_nil)
      (pss_one (ps_ret (pe_callB (cr_all (by rfl)) (by rfl) T.z_all (by decide +kernel) (pa_cons (pe_lc (own := [("sign", 1)]) (by rfl) sc_is_name.nd (pi_str (pv 0)) (blkOk_by (own := [("sign", 1)]) (N := N_is_name) (sc := defScope s_is_name) (by decide +kernel)) (fun _ _ _ _ _ => (pg_name (i := 1) sc_is_name.nd rfl (.inl rfl))) (fun _ _ _ _ _ => pts_nil) (fun _ _ _ _ _ => (pe_cmpR op_in_sign (pv 1) (pe_globS T.g_LETTERS (by rfl)) rfl))) pa_nil))))), ?_⟩
    refine ⟨_, rfl, _, _, _, _, true, rfl, .ty "str", .base (.str z), kit_ty (by decide +kernel), true, rfl, ?_⟩
    refine iteF ?_
    have e1 : (1 : Int) ≤ (z.length : Int) ↔ 1 ≤ z.length := by omega
    have e2 : (z.length : Int) ≤ 8 ↔ z.length ≤ 8 := by omega
    have tail : 1 ≤ z.length → z.length ≤ 8 → ∀ D, H D = none → True := fun _ _ _ _ => trivial
    refine ⟨_, rfl, z, rfl, Nat.le_trans hz hs, _, _, rfl, rfl, _, rfl, ite2 (fun c1 => ?_) (fun c1 => ?_)⟩
    · refine ⟨_, _, rfl, rfl, _, rfl, ?_⟩
      have h1 : 1 ≤ z.length := e1.mp (of_decide_eq_true c1)
      refine ite2 (fun c2 => ?_) (fun c2 => ?_)
      · have h2 : ¬ z.length ≤ 8 := fun c => by
          rw [decide_eq_true (e2.mpr c)] at c2
          cases c2
        have hf : isNm z = false := by
          unfold isNm
          rw [decide_eq_false (fun c => h2 c.2)]
          rfl
        rw [hf] at q
        exact q _ (Same.refl _)
      · have h2 : z.length ≤ 8 := by
          by_cases c : z.length ≤ 8
          · exact c
          · exact absurd (by rw [decide_eq_false (fun d => c (e2.mp d))]; rfl) c2
        have hf : isNm z = ((tl z).map (fun c => decide (97 ≤ c ∧ c ≤ 122))).all id := by
          unfold isNm
          rw [decide_eq_true ⟨h1, h2⟩, Bool.true_and, List.all_map]
          rfl
        rw [hf] at q
        refine ⟨_, rfl, z, rfl, fun D nD => ?_⟩
        refine lc_it walk_str (fun i H' => Same H H' ∧ H' D = some (.lst (((tl z).take i).map (fun c => V.bl (decide (97 ≤ c ∧ c ≤ 122)))))) ⟨same_upd nD, upd_same⟩ (fun _ _ _ _ => trivial) ?_ ?_
        · rintro i v H1 H2 hi ⟨sm, hD⟩ ⟨rfl, c, hc, rfl⟩
          have hc' : (tl z)[i]? = some c := by rw [← hc]; exact Array.getElem?_toList
          refine ⟨rfl, yesI ?_⟩
          refine ⟨_, rfl, c, _, rfl, rfl, _, hD, ?_, Same.grow sm nD, ?_⟩
          · rw [List.length_map]
            exact Nat.lt_of_le_of_lt (List.length_take_le _ _) (Nat.lt_of_lt_of_le hi (Nat.le_trans hz hs))
          · rw [upd_same, List.take_add_one, hc', List.map_append, in_letters]
            rfl
        · rintro H1 ⟨sm, hD⟩
          refine ⟨D, (tl z).map (fun c => decide (97 ≤ c ∧ c ≤ 122)), rfl, SqL.of ?_, q _ sm⟩
          rw [hD, List.take_of_length_le (by rw [Array.length_toList]; exact Nat.le_refl _), List.map_map]
          rfl
    · have h1 : ¬ 1 ≤ z.length := fun c => by
        rw [decide_eq_true (e1.mpr c)] at c1
        exact c1 rfl
      have hf : isNm z = false := by
        unfold isNm
        rw [decide_eq_false (fun c => h1 c.1)]
        rfl
      rw [hf] at q
      exact ⟨_, rfl, iteT (q _ (Same.refl _))⟩
abbrev s_is_kind : Stmt := topS 16
abbrev N_is_kind : List Str := ["thing"]
theorem sc_is_kind : FnScope N_is_kind ["thing"] (defScope s_is_kind) := ⟨rfl, rfl, rfl, by decide +kernel, rfl, by decide +kernel, by decide +kernel⟩
def sp_is_kind : Sp := fun vs H Q _ => ∃ z : Str, vs = [.str z] ∧ Q (.bl (decide (z ∈ kinds))) H
theorem ok_is_kind {f : Addr} {fd : FuncData} {k : Nat} (F : Fun K "is_kind" "is_kind" s_is_kind f fd) (T : Txt mg) (TD : Due K w mg) : FnOk P w K mg base CX0 (k + 1) f fd ["thing"] sp_is_kind := by
  refine F.ok sc_is_kind (fun vs H Q E h => ?_) (fun cdv A outer s H vs Q E hr h => ?_)
  · obtain ⟨z, rfl, _⟩ := h
    rfl
  · obtain ⟨z, rfl, q⟩ := h
    obtain ⟨d, es, n, gd, KD, hall⟩ := TD
    refine ⟨_, (pss_one (ps_ret (pe_and (pe_callB call_isi (by rfl) T.z_isinstance (by decide +kernel) (pa_cons (pv 0) (pa_cons (pe_bltn (v := .ty "str") (by rfl) T.z_str (by decide +kernel) rfl) pa_nil))) (pe_one (pe_cmpR (op_in_kd KD) (pv 0) (pe_globR gd (by rfl)) rfl))))), ?_⟩
    obtain ⟨r, hr1, hr2⟩ := hall z
    refine ⟨_, rfl, _, _, _, _, true, rfl, .ty "str", .base (.str z), kit_ty (by decide +kernel), true, rfl, ?_⟩
    refine iteT ?_
    refine ⟨_, rfl, z, r, rfl, rfl, hr1, ?_⟩
    rw [hr2]
    exact q
abbrev s_is_pumps_text : Stmt := topS 19
abbrev N_is_pumps_text : List Str := ["word", "number"]
theorem sc_is_pumps_text : FnScope N_is_pumps_text ["word"] (defScope s_is_pumps_text) := ⟨rfl, rfl, rfl, by decide +kernel, rfl, by decide +kernel, by decide +kernel⟩
def sp_is_pumps_text : Sp := fun vs H Q _ => ∃ z : Str, vs = [.str z] ∧ ∀ H', Same H H' → Q (.bl (decide (z ∈ pumpsL))) H'
theorem inV_str (z : Str) (l : List Str) : inV (.str z) (l.map V.str) = decide (z ∈ l) := by
  unfold inV
  rw [List.any_map]
  by_cases h : z ∈ l
  · rw [decide_eq_true h, List.any_eq_true]
    exact ⟨z, h, beq_self_eq_true z⟩
  · rw [decide_eq_false h, List.any_eq_false]
    intro y hy e
    have e' : (y == z) = true := e
    exact h (eq_of_beq e' ▸ hy)
theorem flat_str (l : List Str) : (l.map V.str).all flatV = true := by
  rw [List.all_eq_true]
  intro x hx
  obtain ⟨i, _, rfl⟩ := List.mem_map.mp hx
  rfl
theorem small_log {n : Nat} (h : n < 100000) : n.log2 < 1920 := by
  by_cases z : n = 0
  · rw [z]; decide
  · exact (Nat.log2_lt z).mpr (Nat.lt_of_lt_of_le h (by decide))
theorem ok_is_pumps_text {f : Addr} {fd : FuncData} {k : Nat} (F : Fun K "is_pumps_text" "is_pumps_text" s_is_pumps_text f fd) (T : Txt mg) : FnOk P w K mg base CX0 (k + 1) f fd ["word"] sp_is_pumps_text := by
  refine F.ok sc_is_pumps_text (fun vs H Q E h => ?_) (fun cdv A outer s H vs Q E hr h => ?_)
  · obtain ⟨z, rfl, _⟩ := h
    rfl
  · obtain ⟨z, rfl, q⟩ := h
    refine ⟨_, (pss_one (ps_ret (pe_cmpR op_in_seq (pv 0) (pe_lc (own := [("number", 1)]) (by rfl) sc_is_pumps_text.nd (pi_range2 (by rfl) T.z_range (pa_cons pe_int (pa_cons (pe_op op_add (pe_glob' T.g_MOST_PUMPS (by rfl)) pe_int) pa_nil))) (blkOk_by (own := [("number", 1)]) (N := N_is_pumps_text) (sc := defScope s_is_pumps_text) (by decide +kernel)) (fun _ _ _ _ _ => (pg_name (i := 1) sc_is_pumps_text.nd rfl (.inl rfl))) (fun _ _ _ _ _ => pts_nil) (fun _ _ _ _ _ => (pe_callTy call_str_int (by rfl) T.z_str (by decide +kernel) (pa_cons (pv 1) pa_nil)))) rfl))), ?_⟩
    refine ⟨_, rfl, _, _, rfl, rfl, 1, 21, rfl, ⟨by decide, by decide, by decide, by decide⟩, fun D nD => ?_⟩
    refine lc_range (lo := 1) (n := 20) (fun i H' => Same H H' ∧ H' D = some (.lst ((pumpsL.take i).map V.str))) ⟨same_upd nD, upd_same⟩ ?_ ?_
    · rintro i H1 hi ⟨sm, hD⟩
      have hi' : i < 20 := hi
      have e : pumpsL[i]? = some (numS (1 + i)) := by
        unfold pumpsL
        rw [List.getElem?_map, List.getElem?_range hi']
        rfl
      refine ⟨rfl, yesI ?_⟩
      refine ⟨_, rfl, _, rfl, small_log (by omega), _, hD, ?_, Same.grow sm nD, ?_⟩
      · rw [List.length_map]
        exact Nat.lt_of_le_of_lt (List.length_take_le _ _) (Nat.lt_of_lt_of_le hi' (by decide))
      · rw [upd_same, List.take_add_one, e, List.map_append]
        show some (HO.lst (_ ++ [V.str (Str.ofString (toString (1 + (i : Int))))])) = some (HO.lst (_ ++ [V.str (numS (1 + i))]))
        unfold numS
        rw [Int.natCast_add]
        rfl
    · rintro H1 ⟨sm, hD⟩
      have hD' : H1 D = some (.lst (pumpsL.map V.str)) := hD
      refine ⟨D, _, rfl, .inl (SqL.of hD'), rfl, flat_str _, ?_⟩
      show Q (.bl (inV (.str z) (pumpsL.map V.str))) H1
      rw [inV_str]
      exact q _ sm
abbrev s_is_word_at : Stmt := topS 18
abbrev N_is_word_at : List Str := ["at", "word"]
theorem sc_is_word_at : FnScope N_is_word_at ["at", "word"] (defScope s_is_word_at) := ⟨rfl, rfl, rfl, by decide +kernel, rfl, by decide +kernel, by decide +kernel⟩
def sp_is_word_at : Sp := fun vs H Q _ => ∃ (i : Nat) (z : Str), vs = [.int (i : Int), .str z] ∧ z.length ≤ 100000 ∧ ∀ H', Same H H' → Q (.bl (okAt i z)) H'
theorem int_ne {i j : Nat} (h : i ≠ j) : decide (V.int (i : Int) = V.int (j : Int)) = false := decide_eq_false fun e => h (by have := V.int.inj e; omega)
theorem ok_is_word_at {f : Addr} {fd : FuncData} (F : Fun K "is_word_at" "is_word_at" s_is_word_at f fd) (T : Txt mg) (C_is_kind : Cal P w K mg base 1 "is_kind" sp_is_kind) (C_is_name : Cal P w K mg base 1 "is_name" sp_is_name) (C_is_pumps_text : Cal P w K mg base 1 "is_pumps_text" sp_is_pumps_text) : FnOk P w K mg base CX0 2 f fd ["at", "word"] sp_is_word_at := by
  refine F.ok sc_is_word_at (fun vs H Q E h => ?_) (fun cdv A outer s H vs Q E hr h => ?_)
  · obtain ⟨i, z, rfl, _⟩ := h
    rfl
  · obtain ⟨i, z, rfl, hz, q⟩ := h
    refine ⟨_, (pss_cons (ps_if (pt_cmpR op_eq (pv 0) pe_int (nomark _)) (pss_one (ps_ret (pe_cal C_is_kind hr (by decide) (by rfl) (pa_cons (pv 1) pa_nil)))) pss_nil)
      (pss_cons (ps_if (pt_cmpR op_eq (pv 0) pe_int (nomark _)) (pss_one (ps_ret (pe_cmpR op_eq (pv 1) pe_str (nomark _)))) pss_nil)
      (pss_cons (ps_if (pt_cmpR op_eq (pv 0) pe_int (nomark _)) (pss_one (ps_ret (pe_cal C_is_name hr (by decide) (by rfl) (pa_cons (pv 1) pa_nil)))) pss_nil)
      (pss_cons (ps_if (pt_cmpR op_eq (pv 0) pe_int (nomark _)) (pss_one (ps_ret (pe_cmpR op_eq (pv 1) pe_str (nomark _)))) pss_nil)
      (pss_one (ps_ret (pe_and (pe_cmpR op_eq (pv 0) pe_int (nomark _)) (pe_one (pe_cal C_is_pumps_text hr (by decide) (by rfl) (pa_cons (pv 1) pa_nil)))))))))), ?_⟩
    refine ⟨_, rfl, rfl, _, rfl, ?_⟩
    by_cases h0 : i = 0
    · subst h0
      refine iteT' (by decide) ?_
      exact ⟨_, rfl, z, rfl, q _ (Same.refl _)⟩
    refine iteF' (int_ne (j := 0) h0) ?_
    refine ⟨_, rfl, rfl, _, rfl, ?_⟩
    by_cases h1 : i = 1
    · subst h1
      refine iteT' (by decide) ?_
      refine ⟨_, rfl, rfl, ?_⟩
      have e : okAt 1 z = decide (V.str z = V.str (Str.ofString "at")) := decide_eq_decide.mpr ⟨fun e => congrArg V.str e, fun e => V.str.inj e⟩
      rw [e] at q
      exact q _ (Same.refl _)
    refine iteF' (int_ne (j := 1) h1) ?_
    refine ⟨_, rfl, rfl, _, rfl, ?_⟩
    by_cases h2 : i = 2
    · subst h2
      refine iteT' (by decide) ?_
      exact ⟨_, rfl, z, rfl, hz, fun H' sm => q _ sm⟩
    refine iteF' (int_ne (j := 2) h2) ?_
    refine ⟨_, rfl, rfl, _, rfl, ?_⟩
    by_cases h3 : i = 3
    · subst h3
      refine iteT' (by decide) ?_
      refine ⟨_, rfl, rfl, ?_⟩
      have e : okAt 3 z = decide (V.str z = V.str (Str.ofString "make")) := decide_eq_decide.mpr ⟨fun e => congrArg V.str e, fun e => V.str.inj e⟩
      rw [e] at q
      exact q _ (Same.refl _)
    refine iteF' (int_ne (j := 3) h3) ?_
    by_cases h4 : i = 4
    · subst h4
      refine ⟨_, rfl, rfl, _, rfl, ?_⟩
      refine iteT' (by decide) ?_
      exact ⟨_, rfl, z, rfl, fun H' sm => q _ sm⟩
    · refine ⟨_, rfl, rfl, _, rfl, ?_⟩
      refine iteF' (int_ne (j := 4) h4) ?_
      have e : okAt i z = false := by
        obtain ⟨m, rfl⟩ : ∃ m, i = m + 5 := ⟨i - 5, by omega⟩
        rfl
      rw [e] at q
      exact q _ (Same.refl _)
end
end My

set_option Elab.async false
set_option linter.all false
set_option maxRecDepth 100000
set_option maxHeartbeats 4000000
namespace My
open PySem PySem.Spec PyProof.Rows L2 TL RZ
/-- a thing's truth as a test -/
def tTru (K : PySem.W.Frag) (ta : TE) : TT := fun σ H Q => ta σ H fun x H' => ∃ k, TruV K x H' k ∧ Q k H'
theorem spl_len : ∀ (l acc : List Nat), (spl [32] 0 acc l).length ≤ l.length + 1
  | [], acc => by rw [spl_nil]; exact Nat.le_refl _
  | c :: r, acc => by
    rw [spl_step]
    by_cases h : c = 32
    · rw [if_pos h, List.length_cons, List.length_cons]
      exact Nat.succ_le_succ (spl_len r [])
    · rw [if_neg h, List.length_cons]
      exact Nat.le_succ_of_le (spl_len r (acc ++ [c]))
theorem spl_part_len : ∀ (l acc p : List Nat), p ∈ spl [32] 0 acc l → p.length ≤ acc.length + l.length
  | [], acc, p, h => by
    rw [spl_nil] at h
    rw [List.mem_singleton.mp h]
    exact Nat.le_refl _
  | c :: r, acc, p, h => by
    rw [spl_step] at h
    by_cases hc : c = 32
    · rw [if_pos hc] at h
      rcases List.mem_cons.mp h with e | e
      · rw [e]; exact Nat.le_add_right _ _
      · have := spl_part_len r [] p e
        simp only [List.length_nil, List.length_cons] at this ⊢
        omega
    · rw [if_neg hc] at h
      have := spl_part_len r (acc ++ [c]) p h
      simp only [List.length_append, List.length_cons, List.length_nil] at this ⊢
      omega
theorem split_len (z : Str) : (Txt.split z bl1).length ≤ z.length + 1 := by
  have := spl_len (tl z) []
  rw [← split_tl, List.length_map, ← len_tl] at this
  exact this
theorem split_part_len {z w : Str} (h : w ∈ Txt.split z bl1) : w.length ≤ z.length := by
  have := spl_part_len (tl z) [] (tl w) (by rw [← split_tl]; exact List.mem_map.mpr ⟨w, h, rfl⟩)
  rw [len_tl, len_tl z]
  simpa using this
def told : List Str → List V
  | [a, _, c] => [.str a, .str c, .int 0]
  | [a, _, c, _, e] => [.str a, .str c, .int ((intText? e).getD 0)]
  | _ => []
theorem lower_len {x : Str} (h : ∀ c ∈ tl x, c < 128) : (Txt.lower x).length = x.length := by
  rw [len_tl, lower_tl h, List.length_map, ← len_tl]
theorem cw_part {z w : Str} {n : Nat} (hz : Asc n z) (h : w ∈ cw z) : w.length ≤ n ∧ ∀ c ∈ tl w, c < 128 := by
  obtain ⟨v, hv, rfl⟩ := List.mem_map.mp h
  have hv' := (List.mem_filter.mp hv).1
  have ha := part_asc hz.2 hv'
  refine ⟨?_, fun c hc => ?_⟩
  · rw [lower_len ha]
    exact Nat.le_trans (split_part_len hv') hz.1
  · rw [lower_tl ha] at hc
    obtain ⟨d, hd, rfl⟩ := List.mem_map.mp hc
    have := ha d hd
    unfold lo1
    split <;> omega
end My

set_option Elab.async false
set_option linter.all false
set_option maxRecDepth 100000
set_option maxHeartbeats 4000000
namespace My
open PySem PySem.Spec PyProof.Rows L2 TL RZ
theorem atI_of' {α : Type} {xs : List α} {z : Int} {v : α} (h0 : 0 ≤ z) (h : xs[z.toNat]? = some v) : atI xs z = some v := by
  have e : z = (z.toNat : Int) := (Int.toNat_of_nonneg h0).symm
  rw [e]
  exact atI_nat h
theorem letters_at {d : Int} (h0 : 0 ≤ d) (h1 : d < 26) : atI (Str.ofString "abcdefghijklmnopqrstuvwxyz").cps.toList d = some (97 + d.toNat) := by
  refine atI_of' h0 ?_
  have e : (Str.ofString "abcdefghijklmnopqrstuvwxyz").cps.toList = (List.range 26).map (97 + ·) := by decide +kernel
  rw [e, List.getElem?_map, List.getElem?_range (by omega)]
  rfl
theorem joinL_one : ∀ l : List Nat, joinL [] (l.map (fun c => [c])) = l
  | [] => rfl
  | [_] => rfl
  | a :: b :: r => by
    show [a] ++ ([] ++ joinL [] ((b :: r).map (fun c => [c]))) = _
    rw [joinL_one (b :: r)]
    rfl
theorem join_signs (l : List Nat) : tl (Txt.join (Str.ofString "") (l.map (fun c => (⟨#[c]⟩ : Str)))) = l := by
  rw [join_eq, tl_join, List.map_map]
  have e : tl (Str.ofString "") = [] := by decide +kernel
  rw [e]
  exact joinL_one l
theorem sum_ones (l : List Nat) : ((l.map (fun c => (⟨#[c]⟩ : Str))).map (·.length)).sum = l.length := by
  induction l with
  | nil => rfl
  | cons a l ih =>
    rw [List.map_cons, List.map_cons, List.sum_cons, ih, List.length_cons, Nat.add_comm]
    rfl
theorem Sx.free {p r : Addr} {H H' : Hp} (h : Sx p H H') (b : Bag H' p) (n : H' r = none) : H r = none := by
  cases e : H r with
  | none => rfl
  | some o =>
    exfalso
    by_cases c : r = p
    · obtain ⟨o2, q⟩ := b.some
      rw [c, q] at n
      cases n
    · rw [h r o c e] at n
      cases n
theorem Sx.refl (p : Addr) (H : Hp) : Sx p H H := fun _ _ _ e => e
def kinds6 : List Str := ["house", "car", "chimney", "grass", "people", "works"]
theorem pick_kind {d : Int} (h0 : 0 ≤ d) (h1 : d < 6) : ∃ k : Str, k ∈ kinds ∧ atI (kinds6.map V.str) d = some (.str k) := by
  have hl : d.toNat < kinds6.length := by show d.toNat < 6; omega
  have ha : ∀ k ∈ kinds6, k ∈ kinds := by decide +kernel
  exact ⟨kinds6[d.toNat], ha _ (List.getElem_mem hl), atI_of h0 (by rw [List.getElem?_map, List.getElem?_eq_getElem hl]; rfl)⟩
theorem pick_nm {l : List Str} (ha : ∀ k ∈ l, isNm k = true) {d : Int} (h0 : 0 ≤ d) (h1 : d.toNat < l.length) : ∃ k : Str, isNm k = true ∧ atI (l.map V.str) d = some (.str k) :=
  ⟨l[d.toNat], ha _ (List.getElem_mem h1), atI_of h0 (by rw [List.getElem?_map, List.getElem?_eq_getElem h1]; rfl)⟩
section
variable {P : Program} {w : World} {K : PySem.W.Frag} {mg : Str → Option Value} {base : Heap}
abbrev s_law_words : Stmt := topS 25
abbrev N_law_words : List Str := ["_law_bag_here", "_law_place", "_law_kind", "_law_found", "_law_turn"]
theorem sc_law_words : FnScope N_law_words ["_law_bag_here"] (defScope s_law_words) := ⟨rfl, rfl, rfl, by decide +kernel, rfl, by decide +kernel, by decide +kernel⟩
def sp_law_words : Sp := fun vs H Q _ => ∃ p : Addr, vs = [.ref p] ∧ Bag H p ∧ ∀ H' r ws, Sx p H H' → Bag H' p → H r = none → H' r = some (.lst (ws.map V.str)) → GoodWs ws → Q (.ref r) H'
theorem ok_law_words {f : Addr} {fd : FuncData} (F : Fun K "_law_words" "_law_words" s_law_words f fd) (T : Txt mg) (C_law_take : Cal P w K mg base 1 "_law_take" sp_law_take) : FnOk P w K mg base CX0 2 f fd ["_law_bag_here"] sp_law_words := by
  refine F.ok sc_law_words (fun vs H Q E h => ?_) (fun cdv A outer s H vs Q E hr h => ?_)
  · obtain ⟨p, rfl, _⟩ := h
    rfl
  · obtain ⟨p, rfl, hB, q⟩ := h
    refine ⟨_, (pss_cons (ps_set (i := 1) sc_law_words.nd rfl (.inl rfl) (pe_join pe_str (pe_lc (own := [("_law_turn", 4)]) (by rfl) sc_law_words.nd (pi_range1 (by rfl) T.z_range (pa_cons (pe_op op_add pe_int (pe_cal C_law_take hr (by decide) (by rfl) (pa_cons (pv 0) (pa_cons pe_int pa_nil)))) pa_nil)) (blkOk_by (own := [("_law_turn", 4)]) (N := N_law_words) (sc := defScope s_law_words) (by decide +kernel)) (fun _ _ _ _ _ => (pg_name (i := 4) sc_law_words.nd rfl (.inl rfl))) (fun _ _ _ _ _ => pts_nil) (fun _ _ _ _ _ => (pe_ix ix_str pe_str (pe_cal C_law_take hr (by decide) (by rfl) (pa_cons (pv 0) (pa_cons pe_int pa_nil))) (fun _ _ => rfl))))))
      (pss_cons (ps_set (i := 2) sc_law_words.nd rfl (.inl rfl) (pe_ix ix_tup (pe_tup (pa_cons pe_str (pa_cons pe_str (pa_cons pe_str (pa_cons pe_str (pa_cons pe_str (pa_cons pe_str pa_nil))))))) (pe_cal C_law_take hr (by decide) (by rfl) (pa_cons (pv 0) (pa_cons pe_int pa_nil))) (fun _ _ => rfl)))
      (pss_cons (ps_set (i := 3) sc_law_words.nd rfl (.inl rfl) (pe_lst (pa_cons (pv 2) (pa_cons pe_str (pa_cons (pe_ix ix_tup (pe_tup (pa_cons (pv 1) (pa_cons pe_str (pa_cons pe_str (pa_cons (pv 2) pa_nil))))) (pe_callB (call_max2 rfl) (by rfl) T.z_max (by decide +kernel) (pa_cons pe_int (pa_cons (pe_op op_sub (pe_cal C_law_take hr (by decide) (by rfl) (pa_cons (pv 0) (pa_cons pe_int pa_nil))) pe_int) pa_nil))) (fun _ _ => rfl)) pa_nil)))))
      (pss_one (ps_ret (pe_op op_cat (pv 3) (pe_op op_rep (pe_lst (pa_cons pe_str (pa_cons (pe_callTy call_str_int (by rfl) T.z_str (by decide +kernel) (pa_cons (pe_op op_add pe_int (pe_cal C_law_take hr (by decide) (by rfl) (pa_cons (pv 0) (pa_cons pe_int pa_nil)))) pa_nil)) pa_nil))) (pe_cal C_law_take hr (by decide) (by rfl) (pa_cons (pv 0) (pa_cons pe_int pa_nil)))))))))), ?_⟩
    refine ⟨⟨_, rfl⟩, _, rfl, p, 8, rfl, hB, by decide, by decide, fun d1 H1 a0 a1 hB1 k1 => ?_⟩
    have x1 : Sx p H H1 := Sx.of k1
    refine ⟨_, _, rfl, rfl, 1 + d1, rfl, by omega, by omega, fun D nD => ?_⟩
    have nDp : D ≠ p := hB1.ne nD
    refine lc_range (lo := 0) (n := (1 + d1).toNat) (fun i H' => Sx p H H' ∧ Bag H' p ∧ ∃ ls : List Nat, ls.length = i ∧ (∀ c ∈ ls, 97 ≤ c ∧ c ≤ 122) ∧ H' D = some (.lst ((ls.map (fun c => (⟨#[c]⟩ : Str))).map V.str))) ⟨x1.trans (Sx.same (same_upd nD)), hB1.same (same_upd nD), [], rfl, (fun _ z => nomatch z), upd_same⟩ ?_ ?_
    · rintro i H2 hi ⟨x2, hB2, ls, hl, hc, hD⟩
      refine ⟨rfl, yesI ?_⟩
      refine ⟨_, rfl, p, 26, rfl, hB2, by decide, by decide, fun d2 H3 b0 b1 hB3 k3 => ?_⟩
      have hD3 : H3 D = some (.lst ((ls.map (fun c => (⟨#[c]⟩ : Str))).map V.str)) := by rw [k3 D nDp]; exact hD
      have hB4 : ∀ o, Bag (upd H3 D o) p := fun o => by
        obtain ⟨g, sd, e, r⟩ := hB3
        exact ⟨g, sd, by rw [upd_ne (fun z => nDp z.symm)]; exact e, r⟩
      refine ⟨_, d2, 97 + d2.toNat, rfl, rfl, (by show 26 ≤ sizeLine; decide), letters_at b0 b1, _, hD3, ?_, ?_, hB4 _, ls ++ [97 + d2.toNat], ?_, ?_, ?_⟩
      · rw [List.length_map, List.length_map, hl]
        exact Nat.lt_of_lt_of_le hi (Nat.le_trans (show (1 + d1).toNat ≤ 100 by omega) (by decide))
      · intro b o hb e
        have nb : b ≠ D := fun z => by
          have : H D = none := x1.free hB1 nD
          rw [z, this] at e
          cases e
        rw [upd_ne nb, k3 b hb]
        exact x2 b o hb e
      · rw [List.length_append, hl]
        rfl
      · intro c hm
        rcases List.mem_append.mp hm with m | m
        · exact hc c m
        · have := List.mem_singleton.mp m
          omega
      · rw [upd_same, List.map_append, List.map_append]
        rfl
    · rintro H2 ⟨x2, hB2, ls, hl, hc, hD⟩
      refine ⟨_, D, ls.map (fun c => (⟨#[c]⟩ : Str)), rfl, rfl, .inl (SqL.of hD), ?_, ?_⟩
      · rw [sum_ones, List.length_map]
        show ls.length + ls.length * 0 ≤ 16777216
        omega
      generalize hpl : Txt.join (Str.ofString "") (ls.map (fun c => (⟨#[c]⟩ : Str))) = place
      have tpl : tl place = ls := by rw [← hpl]; exact join_signs ls
      have npl : isNm place = true := isNm_of (by rw [len_tl, tpl, hl]; omega) (by rw [len_tl, tpl, hl]; omega) (by rw [tpl]; exact hc)
      refine ⟨(by show 6 ≤ sizeLine; decide), fun t nt => ?_⟩
      refine ⟨_, rfl, p, 6, rfl, hB2.same (same_upd nt), by decide, by decide, fun d3 H3 b0 b1 hB3 k3 => ?_⟩
      obtain ⟨kd, hkd, akd⟩ := pick_kind b0 b1
      have x3 : Sx p H2 H3 := (Sx.same (same_upd nt)).trans (Sx.of k3)
      refine ⟨t, _, d3, _, rfl, rfl, SqT.of (xs := kinds6.map V.str) (by rw [k3 t (hB2.ne nt)]; exact upd_same), akd, ?_⟩
      refine ⟨_, rfl, _, rfl, _, rfl, (by show 4 ≤ sizeLine; decide), fun t2 nt2 => ?_⟩
      refine ⟨_, rfl, p, 8, rfl, hB3.same (same_upd nt2), by decide, by decide, fun d4 H4 c0 c1 hB4 k4 => ?_⟩
      have x4 : Sx p H3 H4 := (Sx.same (same_upd nt2)).trans (Sx.of k4)
      have hall4 : ∀ k ∈ [place, Str.ofString "make", Str.ofString "at", kd], isNm k = true := by
        intro k hk
        simp only [List.mem_cons, List.not_mem_nil, or_false] at hk
        rcases hk with rfl | rfl | rfl | rfl
        · exact npl
        · exact isNm_make
        · exact isNm_at
        · exact kinds_facts _ hkd
      obtain ⟨wd, hwd, awd⟩ := pick_nm hall4 (d := if d4 - 4 > 0 then d4 - 4 else 0) (by split <;> omega) (by show _ < 4; split <;> omega)
      refine ⟨_, _, rfl, rfl, _, _, rfl, t2, _, _, _, rfl, rfl, SqT.of (xs := [place, Str.ofString "make", Str.ofString "at", kd].map V.str) (by rw [k4 t2 (hB3.ne nt2)]; exact upd_same), awd, (by show 3 ≤ sizeLine; decide), fun l nl => ?_⟩
      have hB5 := hB4.same (same_upd (o := .lst [.str kd, .str (Str.ofString "at"), .str wd]) nl)
      refine ⟨_, rfl, _, rfl, p, 20, rfl, hB5, by decide, by decide, fun d5 H5 e0 e1 hB6 k5 => ?_⟩
      refine ⟨_, _, rfl, rfl, _, rfl, small_log (by omega), (by show 2 ≤ sizeLine; decide), fun l2 nl2 => ?_⟩
      refine ⟨_, rfl, p, 2, rfl, hB6.same (same_upd nl2), by decide, by decide, fun d6 H6 f0 f1 hB7 k6 => ?_⟩
      have x5 : Sx p H4 H5 := (Sx.same (same_upd nl)).trans (Sx.of k5)
      have x6 : Sx p H5 H6 := (Sx.same (same_upd nl2)).trans (Sx.of k6)
      have hl5 : H5 l = some (.lst [.str kd, .str (Str.ofString "at"), .str wd]) := by rw [k5 l (hB4.ne nl)]; exact upd_same
      have hl6 : H6 l = some (.lst [.str kd, .str (Str.ofString "at"), .str wd]) := x6 l _ (hB4.ne nl) hl5
      have hm6 : H6 l2 = some (.lst [.str (Str.ofString "make"), .str (Str.ofString (toString (1 + d5)))]) := by rw [k6 l2 (hB6.ne nl2)]; exact upd_same
      refine ⟨l2, d6, _, rfl, rfl, hm6, by omega, by omega, ?_, fun l3 nl3 => ?_⟩
      · show 2 * d6.toNat ≤ sizeLine
        exact Nat.le_trans (show 2 * d6.toNat ≤ 100 by omega) (by decide)
      have hl7 : ∀ o, (upd H6 l3 o) l = some (.lst [.str kd, .str (Str.ofString "at"), .str wd]) := fun o => by rw [upd_ne (ne_of_none hl6 nl3)]; exact hl6
      have hcase : d6 = 0 ∨ d6 = 1 := by omega
      have x7 : Sx p H H6 := x2.trans (x3.trans (x4.trans (x5.trans x6)))
      have fin : ∀ r (ws : List Str), GoodWs ws → ∀ o, (upd H6 l3 o) r = none → Q (.ref r) (upd (upd H6 l3 o) r (.lst (ws.map V.str))) := fun r ws g o nr => by
        refine q _ r ws (x7.trans ((Sx.same (same_upd nl3)).trans (Sx.same (same_upd nr)))) ((hB7.same (same_upd nl3)).same (same_upd nr)) (x7.free hB7 ((same_upd nl3).free nr)) upd_same g
      rcases hcase with rfl | rfl
      · refine ⟨l, l3, _, _, rfl, rfl, hl7 _, upd_same, (by show 3 ≤ sizeLine; decide), fun r nr => ?_⟩
        exact fin r [kd, Str.ofString "at", wd] (.three hkd hwd) _ nr
      · refine ⟨l, l3, _, _, rfl, rfl, hl7 _, upd_same, (by show 5 ≤ sizeLine; decide), fun r nr => ?_⟩
        have e5 : Str.ofString (toString (1 + d5)) = numS (1 + d5.toNat) := by
          unfold numS
          rw [Int.natCast_add, Int.toNat_of_nonneg e0]
          rfl
        have g := fin r [kd, Str.ofString "at", wd, Str.ofString "make", numS (1 + d5.toNat)] (.five hkd hwd (by omega)) _ nr
        rw [← e5] at g
        exact g
end
end My

set_option Elab.async false
set_option linter.all false
set_option maxRecDepth 100000
set_option maxHeartbeats 4000000
namespace My
open PySem PySem.Spec PyProof.Rows L2 TL RZ
theorem Asc.app {a b : Nat} {x y : Str} (hx : Asc a x) (hy : Asc b y) : Asc (a + b) (x ++ y) := by
  refine ⟨by rw [str_app]; exact Nat.add_le_add hx.1 hy.1, fun c hc => ?_⟩
  rw [tl_append] at hc
  rcases List.mem_append.mp hc with q | q
  · exact hx.2 c q
  · exact hy.2 c q
theorem Asc.mono {a b : Nat} {x : Str} (h : Asc a x) (hab : a ≤ b) : Asc b x := ⟨Nat.le_trans h.1 hab, h.2⟩
theorem bl1_eq : bl1 = ⟨#[32]⟩ := by decide +kernel
theorem mul_bl {n : Int} (h0 : 0 ≤ n) : tl (Txt.mul bl1 n) = List.replicate n.toNat 32 := by
  unfold Txt.mul
  rw [bl1_eq]
  by_cases c : n < 1
  · have e : n = 0 := by omega
    subst e
    rfl
  · rw [if_neg c]
    by_cases c1 : (n == 1 || (⟨#[32]⟩ : Str).length == 0) = true
    · rw [if_pos c1]
      have e : n = 1 := by
        rcases Bool.or_eq_true_iff.mp c1 with h | h
        · simpa using h
        · cases h
      subst e
      rfl
    · rw [if_neg c1]
      show ((List.replicate n.toNat (#[32] : Array Nat)).foldl (· ++ ·) #[]).toList = _
      rw [reps_tl]
      rfl
theorem mulOk_bl {n : Int} (h0 : 0 ≤ n) (h1 : n ≤ 1000) : MulOk bl1 n := by
  have e : bl1.length = 1 := by decide +kernel
  refine ⟨?_, fun _ _ => ?_, fun _ _ => ?_⟩
  · rw [decide_eq_false (by omega), decide_eq_false (by omega)]
    rfl
  · rw [e]
    intro c
    have h3 : (2 ^ 63 - 1 : Int) / n < 1 := c
    have h2 : 0 < n := by omega
    have h4 := (Int.ediv_lt_iff_lt_mul h2).mp h3
    omega
  · rw [e, Nat.one_mul]
    show decide _ = false
    refine decide_eq_false (Nat.not_lt.mpr (Nat.le_trans (show n.toNat ≤ 1000 by omega) (by decide)))
theorem asc_bl {n : Int} (h0 : 0 ≤ n) {m : Nat} (h1 : n ≤ m) : Asc m (Txt.mul bl1 n) := by
  refine ⟨?_, fun c hc => ?_⟩
  · rw [len_tl, mul_bl h0, List.length_replicate]
    omega
  · rw [mul_bl h0] at hc
    have := (List.mem_replicate.mp hc).2
    omega
def sta (z : Str) : WSt := (tl z).foldl wst ([], [])
theorem sta_app (x y : Str) : sta (x ++ y) = (tl y).foldl wst (sta x) := by
  unfold sta
  rw [tl_append, List.foldl_append]
section
variable {P : Program} {w : World} {K : PySem.W.Frag} {mg : Str → Option Value} {base : Heap}
abbrev s_law_text : Stmt := topS 26
abbrev N_law_text : List Str := ["_law_bag_here", "_law_words_here", "_law_text_here", "_law_at", "_law_word", "_law_way", "_law_sign", "_law_great"]
theorem sc_law_text : FnScope N_law_text ["_law_bag_here", "_law_words_here"] (defScope s_law_text) := ⟨rfl, rfl, rfl, by decide +kernel, rfl, by decide +kernel, by decide +kernel⟩
def sp_law_text : Sp := fun vs H Q _ => ∃ (p a : Addr) (ws : List Str), vs = [.ref p, .ref a] ∧ Bag H p ∧ a ≠ p ∧ H a = some (.lst (ws.map V.str)) ∧ GoodWs ws ∧ ∀ H' z, Sx p H H' → Bag H' p → Asc 200 z → cw z = ws → Q (.str z) H'
theorem ok_law_text {f : Addr} {fd : FuncData} (F : Fun K "_law_text" "_law_text" s_law_text f fd) (T : Txt mg) (C_law_take : Cal P w K mg base 1 "_law_take" sp_law_take) : FnOk P w K mg base CX0 2 f fd ["_law_bag_here", "_law_words_here"] sp_law_text := by
  refine F.ok sc_law_text (fun vs H Q E h => ?_) (fun cdv A outer s H vs Q E hr h => ?_)
  · obtain ⟨p, a, ws, rfl, _⟩ := h
    rfl
  · obtain ⟨p, a, ws, rfl, hB, nap, ha, hg, q⟩ := h
    have sm := hg.sm
    have hlen : ws.length ≤ 5 := by cases hg <;> simp
    have hwne : ws ≠ [] := by cases hg <;> simp
    have hs : 100000 ≤ sizeLine := by decide
    refine ⟨_, (pss_cons (ps_set (i := 2) sc_law_text.nd rfl (.inl rfl) (pe_op op_mulS pe_str (pe_op op_fdiv (pe_cal C_law_take hr (by decide) (by rfl) (pa_cons (pv 0) (pa_cons pe_int pa_nil))) pe_int)))
      (pss_cons (ps_for PassesOwn.never rfl (pi_enum (by rfl) T.z_enumerate (pa_cons (pv 1) pa_nil)) (pg_tup rfl (pgs_cons (pg_name (i := 3) sc_law_text.nd rfl (.inl rfl)) (pgs_cons (pg_name (i := 4) sc_law_text.nd rfl (.inl rfl)) pgs_nil)))
        (pss_cons (ps_set (i := 2) sc_law_text.nd rfl (.inl rfl) (pe_op op_add_str (pv 2) (pe_op op_mulS pe_str (pe_op op_add (pe_callTy call_int1 (by rfl) T.z_int (by decide +kernel) (pa_cons (pe_cmpR op_gt (pv 3) pe_int (nomark _)) pa_nil)) (pe_op op_fdiv (pe_cal C_law_take hr (by decide) (by rfl) (pa_cons (pv 0) (pa_cons pe_int pa_nil))) pe_int)))))
        (pss_cons (ps_set (i := 5) sc_law_text.nd rfl (.inl rfl) (pe_cal C_law_take hr (by decide) (by rfl) (pa_cons (pv 0) (pa_cons pe_int pa_nil))))
        (pss_one (ps_for PassesOwn.never rfl (pi_str (pv 4)) (pg_name (i := 6) sc_law_text.nd rfl (.inl rfl))
          (pss_cons (ps_set (i := 7) sc_law_text.nd rfl (.inl rfl) (pe_or (pe_cmpR op_eq (pv 5) pe_int (nomark _)) (pe_one (pe_and (pe_cmpR op_eq (pv 5) pe_int (nomark _)) (pe_one (pe_cmpR op_eq (pe_cal C_law_take hr (by decide) (by rfl) (pa_cons (pv 0) (pa_cons pe_int pa_nil))) pe_int (nomark _)))))))
          (pss_one (ps_set (i := 2) sc_law_text.nd rfl (.inl rfl) (pe_op op_add_str (pv 2) (pe_ifExp (pt_val (pv 7)) (pe_upper (pv 6)) (pv 6)))))))))))
      (pss_one (ps_ret (pe_op op_add_str (pv 2) (pe_op op_mulS pe_str (pe_op op_fdiv (pe_cal C_law_take hr (by decide) (by rfl) (pa_cons (pv 0) (pa_cons pe_int pa_nil))) pe_int))))))), ?_⟩
    refine ⟨_, rfl, p, 6, rfl, hB, by decide, by decide, fun d1 H1 a0 a1 hB1 k1 => ?_⟩
    have x1 : Sx p H H1 := Sx.of k1
    have ha1 : H1 a = some (.lst (ws.map V.str)) := x1 a _ nap ha
    refine ⟨_, _, rfl, rfl, ⟨by decide, by decide⟩, _, _, rfl, rfl, mulOk_bl (by omega) (by omega), ?_⟩
    have z0 : Asc 10 (Txt.mul bl1 (d1 / 4)) := asc_bl (by omega) (by omega)
    have s0 : At ws 0 (sta (Txt.mul bl1 (d1 / 4))) := by
      refine .inl ⟨rfl, ?_⟩
      unfold sta
      rw [mul_bl (by omega), wst_blank0 rfl]
    refine ⟨_, rfl, a, _, rfl, SqL.of ha1, ?_⟩
    refine for_it walk_enum (fun i σ H' => Sx p H H' ∧ Bag H' p ∧ ∃ z y3 y4 y5 y6 y7, σ = [some (.ref p), some (.ref a), some (.str z), y3, y4, y5, y6, y7] ∧ Asc (10 + 20 * i) z ∧ At ws i (sta z)) ⟨x1, hB1, _, _, _, _, _, _, rfl, z0, s0⟩ (fun i σ H' _ h => SqL.of (h.1 a _ nap ha)) ?_ ?_
    · rintro i x σ H2 H3 hi ⟨x2, hB2, z, y3, y4, y5, y6, y7, rfl, hz, hat⟩ ⟨U, v1, v2, rfl, nU, rfl, e1, e2⟩
      cases e1
      have e2' : (ws.map V.str)[i]? = some v2 := e2
      rw [List.getElem?_map] at e2'
      obtain ⟨wd, hwd, rfl⟩ := Option.map_eq_some_iff.mp e2'
      obtain ⟨wne, wsm, wlen⟩ := sm wd (List.mem_of_getElem? hwd)
      have hi5 : i < 5 := Nat.lt_of_lt_of_le (by rw [List.length_map] at hi; exact hi) hlen
      refine ⟨U, _, rfl, SqT.of upd_same, rfl, _, _, rfl, _, _, rfl, rfl, ?_⟩
      refine ⟨_, rfl, _, rfl, _, _, rfl, rfl, .inr ⟨_, rfl, ?_⟩⟩
      have hB3 := hB2.same (same_upd (o := .tup [.int (i : Int), .str wd]) nU)
      refine ⟨_, rfl, p, 8, rfl, hB3, by decide, by decide, fun d2 H4 b0 b1 hB4 k4 => ?_⟩
      have x4 : Sx p H H4 := x2.trans ((Sx.same (same_upd nU)).trans (Sx.of k4))
      obtain ⟨m, hm, m0, m1⟩ : ∃ m : Int, (if decide ((0 : Int) < (i : Int)) = true then (1 : Int) else 0) + d2 / 6 = m ∧ 0 ≤ m ∧ m ≤ 2 := ⟨_, rfl, by split <;> omega, by split <;> omega⟩
      have mne : i ≠ 0 → m.toNat ≠ 0 := fun h => by
        rw [decide_eq_true (by omega : (0 : Int) < (i : Int)), if_pos rfl] at hm
        omega
      refine ⟨_, _, rfl, rfl, ⟨by decide, by decide⟩, _, _, rfl, rfl, _, _, rfl, rfl, ?_, _, _, rfl, rfl, ?_, ?_⟩
      · rw [hm]
        exact mulOk_bl m0 (by omega)
      · rw [hm]
        have h1 := (asc_bl m0 (m := 2) (by omega)).1
        have h2 := hz.1
        exact Nat.le_trans (show z.length + (Txt.mul bl1 m).length ≤ 1000 by omega) (by decide)
      rw [hm]
      refine ⟨_, rfl, p, 4, rfl, hB4, by decide, by decide, fun d3 H5 c0 c1 hB5 k5 => ?_⟩
      have x5 : Sx p H H5 := x4.trans (Sx.of k5)
      have z5 : Asc (12 + 20 * i) (z ++ Txt.mul bl1 m) := (hz.app (asc_bl m0 (m := 2) (by omega))).mono (by omega)
      have s5 : Amid ws i wd 0 (sta (z ++ Txt.mul bl1 m)) := by
        rw [sta_app, show tl (Txt.mul bl1 m) = _ from mul_bl m0]
        exact hat.blanks wd mne
      refine ⟨_, rfl, wd, rfl, ?_⟩
      refine for_it walk_str (fun j σ H' => Sx p H H' ∧ Bag H' p ∧ ∃ z' y6 y7, σ = [some (.ref p), some (.ref a), some (.str z'), some (.int (i : Int)), some (.str wd), some (.int d3), y6, y7] ∧ Asc (12 + 20 * i + j) z' ∧ Amid ws i wd j (sta z')) ⟨x5, hB5, _, _, _, rfl, z5, s5⟩ (fun _ _ _ _ _ => trivial) ?_ ?_
      · rintro j v σ H6 H7 hj ⟨x6, hB6, z', y6', y7', rfl, hz', hmid⟩ ⟨rfl, c, hc, rfl⟩
        have hc' : (tl wd)[j]? = some c := by rw [← hc]; exact Array.getElem?_toList
        have hsm : Sm c := wsm c (List.mem_of_getElem? hc')
        have hj8 : j < 8 := Nat.lt_of_lt_of_le hj wlen
        have up : ∀ (u : Str) (d : Nat), tl u = [d] → lo1 d = c → d ≠ 32 → d < 128 → Asc (12 + 20 * i + (j + 1)) (z' ++ u) ∧ Amid ws i wd (j + 1) (sta (z' ++ u)) := fun u d hu h1 h2 h3 => by
          refine ⟨(hz'.app (b := 1) ⟨by rw [len_tl, hu]; exact Nat.le_refl _, fun e he => ?_⟩).mono (by omega), ?_⟩
          · rw [hu] at he
            have := List.mem_singleton.mp he
            omega
          · rw [sta_app, hu]
            exact hmid.step hc' h1 h2
        have fit : ∀ u : Str, u.length ≤ 3 → z'.length + u.length ≤ sizeLine := fun u hu => by
          have := hz'.1
          exact Nat.le_trans (show z'.length + u.length ≤ 1000 by omega) (by decide)
        have one : ∀ b ∈ tl (⟨#[c]⟩ : Str), b < 128 := fun b hb => by
          have : b = c := by simpa using hb
          rw [this]
          exact hsm.ne.2
        have uu : tl (Txt.upper ⟨#[c]⟩) = [up1 c] := upper_tl one
        have lu : (Txt.upper ⟨#[c]⟩).length ≤ 3 := by rw [len_tl, uu]; show 1 ≤ 3; decide
        obtain ⟨xx, BB⟩ := And.intro x6 hB6
        refine ⟨_, rfl, rfl, _, rfl, ite2 (fun g1 => ?_) (fun g1 => ?_)⟩
        case' refine_2 =>
          refine ⟨_, rfl, rfl, _, rfl, ite2 (fun g2 => ?_) (fun g2 => ?_)⟩
          case' refine_1 =>
            refine ⟨_, rfl, p, 2, rfl, hB6, by decide, by decide, fun d4 H8 f0 f1 hB8 k8 => ?_⟩
            replace xx : Sx p H H8 := x6.trans (Sx.of k8)
            replace BB := hB8
            refine ⟨rfl, ?_⟩
        all_goals
          refine ⟨_, rfl, _, rfl, _, rfl, ite2 (fun g9 => ?_) (fun g9 => ?_)⟩
          · obtain ⟨w1, w2⟩ := up (Txt.upper ⟨#[c]⟩) (up1 c) uu hsm.up.1 hsm.up.2.1 hsm.up.2.2
            exact ⟨_, rfl, ⟨_, rfl⟩, _, rfl, rfl, (by show 1 ≤ 5592405; decide), _, _, rfl, rfl, fit _ lu, xx, BB, _, _, _, rfl, w1, w2⟩
          · obtain ⟨w1, w2⟩ := up ⟨#[c]⟩ c rfl hsm.lo hsm.ne.1 hsm.ne.2
            exact ⟨_, rfl, _, _, rfl, rfl, fit _ (by show 1 ≤ 3; decide), xx, BB, _, _, _, rfl, w1, w2⟩
      · rintro σ H6 ⟨x6, hB6, z', y6', y7', rfl, hz', hmid⟩
        have el : wd.cps.size = (tl wd).length := Array.length_toList.symm
        have l8 : wd.cps.size ≤ 8 := wlen
        refine ⟨x6, hB6, z', _, _, _, _, _, rfl, hz'.mono (by omega), ?_⟩
        rw [el] at hmid
        exact hmid.done hwd wne
    · rintro σ H2 ⟨x2, hB2, z, y3, y4, y5, y6, y7, rfl, hz, hat⟩
      refine ⟨_, rfl, _, rfl, p, 6, rfl, hB2, by decide, by decide, fun d2 H4 b0 b1 hB4 k4 => ?_⟩
      refine ⟨_, _, rfl, rfl, ⟨by decide, by decide⟩, _, _, rfl, rfl, mulOk_bl (by omega) (by omega), _, _, rfl, rfl, ?_, ?_⟩
      · have h1 := (asc_bl (n := d2 / 4) (by omega) (m := 2) (by omega)).1
        have h2 := hz.1
        have h3 : (ws.map V.str).length ≤ 5 := by rw [List.length_map]; exact hlen
        exact Nat.le_trans (show z.length + (Txt.mul bl1 (d2 / 4)).length ≤ 1000 by omega) (by decide)
      · have h3 : (ws.map V.str).length ≤ 5 := by rw [List.length_map]; exact hlen
        have za : Asc 200 (z ++ Txt.mul bl1 (d2 / 4)) := (hz.app (asc_bl (n := d2 / 4) (by omega) (m := 2) (by omega))).mono (by omega)
        refine q _ _ (x2.trans (Sx.of k4)) hB4 za (cw_eq za.2 ?_)
        rw [List.length_map] at hat
        have e := hat.fin hwne (d2 / 4).toNat
        show (wfn (sta (z ++ Txt.mul bl1 (d2 / 4)))).map (List.map lo1) = _
        rw [sta_app, show tl (Txt.mul bl1 (d2 / 4)) = _ from mul_bl (by omega)]
        exact e
end
end My

set_option Elab.async false
set_option linter.all false
set_option maxRecDepth 100000
set_option maxHeartbeats 4000000
namespace My
open PySem PySem.Spec PyProof.Rows L2 TL RZ
def tdat : List Str → List PyData
  | [a, _, c] => [.str a, .str c, .int 0]
  | [a, _, c, _, e] => [.str a, .str c, .int ((intText? e).getD 0)]
  | _ => []
theorem nm_asc {w : Str} (h : isNm w = true) : ∀ c ∈ tl w, c < 128 := fun c hc => by
  have := (isNm_sm h).2.1 c hc
  omega
theorem told_ok {ws : List Str} (g : GoodWs ws) : Okd 2 (.tuple (tdat ws)) := by
  cases g with
  | three hk hp =>
    refine .tuple (by show 3 ≤ 1000; decide) fun d hd => ?_
    have hd' : d ∈ [PyData.str _, PyData.str _, PyData.int 0] := hd
    simp only [List.mem_cons, List.not_mem_nil, or_false] at hd'
    rcases hd' with rfl | rfl | rfl
    · exact .str (nm_asc (kinds_facts _ hk))
    · exact .str (nm_asc hp)
    · exact .int _
  | five hk hp hn =>
    refine .tuple (by show 3 ≤ 1000; decide) fun d hd => ?_
    have hd' : d ∈ [PyData.str _, PyData.str _, PyData.int _] := hd
    simp only [List.mem_cons, List.not_mem_nil, or_false] at hd'
    rcases hd' with rfl | rfl | rfl
    · exact .str (nm_asc (kinds_facts _ hk))
    · exact .str (nm_asc hp)
    · exact .int _
theorem told_dp {K : PySem.W.Frag} {H : Hp} {t : Addr} {ws : List Str} (g : GoodWs ws) (h : H t = some (.tup (told ws))) : Dp K H (.ref t) (.tuple (tdat ws)) := by
  cases g with
  | three hk hp => exact .tup (SqT.of h) (.cons (.str _) (.cons (.str _) (.cons (.int _) .nil)))
  | five hk hp hn => exact .tup (SqT.of h) (.cons (.str _) (.cons (.str _) (.cons (.int _) .nil)))
theorem low_self {w : Str} (h : ∀ c ∈ tl w, Sm c) : Txt.lower w = w := by
  apply ext_tl
  rw [lower_tl fun c hc => (h c hc).ne.2]
  rw [List.map_congr_left (g := id) fun c hc => (h c hc).lo, List.map_id]
theorem cw_join {ws : List Str} (g : GoodWs ws) : cw (Txt.join bl1 ws) = ws := by
  have sm := g.sm
  have e := split_join (y := bl1) (s := 32) (S := []) tl_bl1 (by decide +kernel) (parts := ws) (by cases g <;> simp) (fun p hp hc => ((sm p hp).2.1 32 hc).ne.1 rfl)
  unfold cw
  rw [e]
  have e2 : ws.filter (fun w => w.length != 0) = ws := List.filter_eq_self.mpr fun w hw => by
    have := (sm w hw).1
    rw [len_tl]
    cases h : tl w with
    | nil => exact absurd h this
    | cons c l => rfl
  rw [e2]
  have e3 : ws.map Txt.lower = ws.map id := List.map_congr_left fun w hw => low_self (sm w hw).2.1
  rw [e3, List.map_id]
theorem joinL_mem {S : List Nat} : ∀ {ps : List (List Nat)} {c : Nat}, c ∈ joinL S ps → c ∈ S ∨ ∃ p ∈ ps, c ∈ p
  | [], c, h => by cases h
  | [p], c, h => .inr ⟨p, List.mem_cons_self .., h⟩
  | p :: q :: r, c, h => by
    have h' : c ∈ p ++ (S ++ joinL S (q :: r)) := h
    rcases List.mem_append.mp h' with m | m
    · exact .inr ⟨p, List.mem_cons_self .., m⟩
    · rcases List.mem_append.mp m with m | m
      · exact .inl m
      · rcases joinL_mem m with k | ⟨x, hx, k⟩
        · exact .inl k
        · exact .inr ⟨x, List.mem_cons_of_mem _ hx, k⟩
theorem joinL_len : ∀ (ps : List (List Nat)), (∀ p ∈ ps, p.length ≤ 8) → (joinL [32] ps).length ≤ 9 * ps.length
  | [], h => Nat.zero_le _
  | [p], h => by
    have := h p (List.mem_cons_self ..)
    show p.length ≤ 9
    omega
  | p :: q :: r, h => by
    have h1 := h p (List.mem_cons_self ..)
    have h2 := joinL_len (q :: r) fun x hx => h x (List.mem_cons_of_mem _ hx)
    show (p ++ ([32] ++ joinL [32] (q :: r))).length ≤ _
    rw [List.length_append, List.length_append]
    simp only [List.length_cons, List.length_nil] at h2 ⊢
    omega
theorem sum_le (ws : List Str) (h : ∀ w ∈ ws, w.length ≤ 8) : (ws.map (·.length)).sum ≤ 8 * ws.length := by
  induction ws with
  | nil => exact Nat.zero_le _
  | cons w ws ih =>
    have h1 := h w (List.mem_cons_self ..)
    have h2 := ih fun x hx => h x (List.mem_cons_of_mem _ hx)
    rw [List.map_cons, List.sum_cons, List.length_cons]
    omega
theorem GoodWs.len {ws : List Str} (g : GoodWs ws) : ws.length ≤ 5 := by cases g <;> simp
theorem asc_join {ws : List Str} (g : GoodWs ws) : Asc 10000 (Txt.join bl1 ws) := by
  have sm := g.sm
  have e : tl (Txt.join bl1 ws) = joinL [32] (ws.map tl) := by rw [join_eq, tl_join, tl_bl1]
  refine ⟨?_, fun c hc => ?_⟩
  · have := joinL_len (ws.map tl) fun p hp => by
      obtain ⟨w, hw, rfl⟩ := List.mem_map.mp hp
      rw [← len_tl]
      exact (sm w hw).2.2
    rw [← e, ← len_tl, List.length_map] at this
    have := g.len
    omega
  · rw [e] at hc
    rcases joinL_mem hc with m | ⟨p, hp, m⟩
    · have := List.mem_singleton.mp m
      omega
    · obtain ⟨w, hw, rfl⟩ := List.mem_map.mp hp
      exact ((sm w hw).2.1 c m).ne.2
end My

set_option Elab.async false
set_option linter.all false
set_option maxRecDepth 100000
set_option maxHeartbeats 4000000
namespace My
open PySem PySem.Spec PyProof.Rows L2 TL RZ
/-! ### the first wrong word -/
def bad : Nat → List Str → Option Nat
  | _, [] => none
  | i, w :: r => if okAt i w = true then bad (i + 1) r else some i
theorem bad_none : ∀ (ws : List Str) (k : Nat), (∀ (i : Nat) (w : Str), ws[i]? = some w → okAt (k + i) w = true) → bad k ws = none
  | [], _, _ => rfl
  | w :: r, k, h => by
    show (if okAt k w = true then bad (k + 1) r else some k) = none
    rw [if_pos (show okAt k w = true from h 0 w rfl)]
    refine bad_none r (k + 1) fun i v hv => ?_
    have := h (i + 1) v hv
    rw [show k + 1 + i = k + (i + 1) by omega]
    exact this
theorem bad_ok : ∀ (ws : List Str) (k : Nat), bad k ws = none → ∀ (i : Nat) (w : Str), ws[i]? = some w → okAt (k + i) w = true
  | [], _, _, i, w, h => by cases h
  | v :: r, k, hb, i, w, h => by
    have hb' : (if okAt k v = true then bad (k + 1) r else some k) = none := hb
    by_cases c : okAt k v = true
    · rw [if_pos c] at hb'
      match i, h with
      | 0, h => cases h; exact c
      | i + 1, h =>
        have := bad_ok r (k + 1) hb' i w h
        rw [show k + (i + 1) = k + 1 + i by omega]
        exact this
    · rw [if_neg c] at hb'
      cases hb'
theorem bad_at : ∀ (ws : List Str) (k i : Nat) (w : Str), (∀ (j : Nat) (v : Str), j < i → ws[j]? = some v → okAt (k + j) v = true) → ws[i]? = some w → okAt (k + i) w = false → bad k ws = some (k + i)
  | [], _, i, w, _, h, _ => by cases h
  | v :: r, k, 0, w, _, h, hf => by
    have e : v = w := Option.some.inj h
    subst e
    show (if okAt k v = true then bad (k + 1) r else some k) = some (k + 0)
    rw [if_neg (by rw [Nat.add_zero] at hf; rw [hf]; decide)]
    rfl
  | v :: r, k, i + 1, w, hj, h, hf => by
    show (if okAt k v = true then bad (k + 1) r else some k) = some (k + (i + 1))
    rw [if_pos (show okAt k v = true from hj 0 v (Nat.succ_pos _) rfl), bad_at r (k + 1) i w (fun j u hlt hu => ?_) h (by rw [show k + 1 + i = k + (i + 1) by omega]; exact hf)]
    · congr 1
      omega
    · have := hj (j + 1) u (Nat.succ_lt_succ hlt) hu
      rw [show k + 1 + j = k + (j + 1) by omega]
      exact this
def fault (ws : List Str) : Option Nat := match bad 0 ws with
  | some i => some i
  | none => if ws.length = 3 ∨ ws.length = 5 then none else some ws.length
def res (ws : List Str) : PyData := match fault ws with
  | some i => .int (i : Int)
  | none => .tuple (tdat ws)
theorem fault_bad {ws : List Str} {i : Nat} (h : bad 0 ws = some i) : fault ws = some i := by
  unfold fault
  rw [h]
theorem fault_len {ws : List Str} (h : bad 0 ws = none) (h3 : ws.length ≠ 3) (h5 : ws.length ≠ 5) : fault ws = some ws.length := by
  unfold fault
  rw [h]
  exact if_neg (by rintro (e | e); exact h3 e; exact h5 e)
theorem fault_none {ws : List Str} (h : bad 0 ws = none) (hl : ws.length = 3 ∨ ws.length = 5) : fault ws = none := by
  unfold fault
  rw [h]
  exact if_pos hl
theorem mem_pumps {w : Str} (h : w ∈ pumpsL) : ∃ n, n < 20 ∧ w = numS (1 + n) := by
  obtain ⟨n, hn, rfl⟩ := List.mem_map.mp h
  exact ⟨n, List.mem_range.mp hn, rfl⟩
theorem good_of {ws : List Str} (h : bad 0 ws = none) (hl : ws.length = 3 ∨ ws.length = 5) : GoodWs ws := by
  have ok := bad_ok ws 0 h
  rcases hl with hl | hl
  · obtain ⟨a, b, c, rfl⟩ : ∃ a b c, ws = [a, b, c] := by
      match ws, hl with
      | [a, b, c], _ => exact ⟨a, b, c, rfl⟩
    have h0 := of_decide_eq_true (ok 0 a rfl)
    have h1 := of_decide_eq_true (ok 1 b rfl)
    have h2 : isNm c = true := ok 2 c rfl
    subst h1
    exact .three h0 h2
  · obtain ⟨a, b, c, d, e, rfl⟩ : ∃ a b c d e, ws = [a, b, c, d, e] := by
      match ws, hl with
      | [a, b, c, d, e], _ => exact ⟨a, b, c, d, e, rfl⟩
    have h0 := of_decide_eq_true (ok 0 a rfl)
    have h1 := of_decide_eq_true (ok 1 b rfl)
    have h2 : isNm c = true := ok 2 c rfl
    have h3 := of_decide_eq_true (ok 3 d rfl)
    obtain ⟨n, hn, rfl⟩ := mem_pumps (of_decide_eq_true (ok 4 e rfl))
    subst h1
    subst h3
    exact .five h0 h2 hn
/-! ### the error with its place -/
/-- what the written part says of BadText, at C, its __init__ at fI -/
structure BX (K : PySem.W.Frag) (mg : Str → Option Value) (C fI : Addr) : Prop where
  g : mg "BadText" = some (.ref C)
  ox : OexC K C
  no : PySem.W.findIn K (.ref C) "at" = some none
  iC : PySem.W.findIn K (.ref C) "__init__" = some (some (.ref fI))
  tI : PySem.W.typeIn K (.ref fI) = some (.type "function")
  vV : PySem.W.findCls K (.type "ValueError") (.type "type") "__init__" = some (.val (.builtin "ValueError.__init__"))
section
variable {P : Program} {w : World} {K : PySem.W.Frag} {mg : Str → Option Value} {base : Heap}
abbrev s_bad_init : Stmt := inClass (topS 3) 0
abbrev N_bad_init : List Str := ["self", "at"]
theorem sc_bad_init : FnScope N_bad_init ["self", "at"] (defScope s_bad_init) := ⟨rfl, rfl, rfl, by decide +kernel, rfl, by decide +kernel, by decide +kernel⟩
def sp_bad_init (C : Addr) : Sp := fun vs H Q _ => ∃ (a : Addr) (i : Int), vs = [.ref a, .int i] ∧ (i = -1 ∨ (0 ≤ i ∧ i < 100000)) ∧ H a = some (exo a C none) ∧ ∀ dx, H dx = none → dx ≠ a → Q .non (upd (upd H dx (exd dx [("at", .int i)])) a (exo a C (some dx)))
theorem int_text_len {i : Int} (h : i = -1 ∨ (0 ≤ i ∧ i < 100000)) : (Str.ofString (toString i)).length ≤ 7 := by
  rcases h with rfl | ⟨h0, h1⟩
  · decide +kernel
  · obtain ⟨n, rfl⟩ : ∃ n : Nat, i = n := ⟨i.toNat, (Int.toNat_of_nonneg h0).symm⟩
    rw [len_tl, tl_num]
    have := numL_len (n := n) (k := 5) (by decide) (by show n < 100000; omega)
    omega
theorem ok_bad_init {f C fI : Addr} {fd : FuncData} {k : Nat} (F : Fun K "__init__" "BadText.__init__" s_bad_init f fd) (T : Txt mg) (B : BX K mg C fI) : FnOk P w K mg base CX0 (k + 1) f fd ["self", "at"] (sp_bad_init C) := by
  refine F.ok sc_bad_init (fun vs H Q E h => ?_) (fun cdv A outer s H vs Q E hr h => ?_)
  · obtain ⟨a, i, rfl, _⟩ := h
    rfl
  · obtain ⟨a, i, rfl, hi, ha, q⟩ := h
    refine ⟨_, (pss_cons (ps_expr (pe_veinit (by rfl) T.z_ValueError B.vV (pa_cons (pv 0) (pa_cons (pe_joined (PJ.cons pe_str (PJ.cons (pe_fmt (pv 1)) PJ.nil))) pa_nil)))) (pss_one (ps_ost (pv 0) (pv 1)))), ?_⟩
    refine ⟨_, rfl, _, rfl, ?_, _, rfl, .inr ⟨i, rfl, small_log (by omega), _, rfl, ?_, ?_⟩⟩
    · decide +kernel
    · rw [str_app, str_app]
      have h1 := int_text_len hi
      have h2 : (Str.ofString "no call's text: ").length = 16 := by decide +kernel
      have h3 : Str.empty.length = 0 := by decide
      rw [h2, h3]
      exact Nat.le_trans (show 0 + 16 + (Str.ofString (toString i)).length ≤ 100 by omega) (by decide)
    refine ⟨a, C, _, rfl, (by show 1 ≤ 1000; decide), B.ox, ha, ?_⟩
    refine ⟨_, rfl, _, rfl, a, C, rfl, B.ox, B.no, .inl ⟨ha, fun dx n1 n2 => ?_⟩⟩
    exact q dx n1 n2
end
end My

set_option Elab.async false
set_option linter.all false
set_option maxRecDepth 100000
set_option maxHeartbeats 4000000
namespace My
open PySem PySem.Spec PyProof.Rows L2 TL RZ
theorem raised {H : Hp} {a dx : Addr} {x y z u : HO} (na : H a = none) (nd : (upd H a x) dx = none) (ne : dx ≠ a) : Same H (upd (del (upd (upd (upd H a x) dx y) a z) a) dx u) := fun b o e => by
  have h1 : b ≠ a := ne_of_none e na
  have h2 : b ≠ dx := fun c => by
    rw [c] at e
    rw [upd_ne ne, e] at nd
    cases nd
  rw [upd_ne h2, del_ne h1, upd_ne h1, upd_ne h2, upd_ne h1]
  exact e
section
variable {P : Program} {w : World} {K : PySem.W.Frag} {mg : Str → Option Value} {base : Heap}
abbrev s_read_call : Stmt := topS 17
abbrev N_read_call : List Str := ["text", "words", "at", "word"]
theorem sc_read_call : FnScope N_read_call ["text"] (defScope s_read_call) := ⟨rfl, rfl, rfl, by decide +kernel, rfl, by decide +kernel, by decide +kernel⟩
def sp_read_call (K : PySem.W.Frag) (C : Addr) : Sp := fun vs H Q E => ∃ x : V, vs = [x] ∧
  ((∃ z : Str, x = .str z ∧ Asc 10000 z ∧ (∀ i : Nat, fault (cw z) = some i → ∀ H' d, Same H H' → H' d = some (.xd [("at", .int (i : Int))]) → E (.ref C) (some d) H') ∧ (fault (cw z) = none → GoodWs (cw z) → ∀ H' p, Same H H' → H' p = some (.tup (told (cw z))) → Q (.ref p) H')) ∨
   (NoStr K H x ∧ ∀ H' d, Same H H' → H' d = some (.xd [("at", .int (-1))]) → E (.ref C) (some d) H'))
theorem ok_read_call {f C fI : Addr} {fd fdI : FuncData} (F : Fun K "read_call" "read_call" s_read_call f fd) (T : Txt mg) (B : BX K mg C fI) (G1 : FnOk P w K mg base CX0 1 fI fdI ["self", "at"] (sp_bad_init C)) (b1 : Binds K fdI ["self", "at"] []) (C_is_word_at : Cal P w K mg base 2 "is_word_at" sp_is_word_at) : FnOk P w K mg base (L2.CX P w) 3 f fd ["text"] (sp_read_call K C) := by
  refine F.okX sc_read_call (fun vs H Q E h => ?_) (fun cdv A outer s H vs Q E hr h => ?_)
  · obtain ⟨x, rfl, _⟩ := h
    rfl
  · obtain ⟨x, rfl, h⟩ := h
    have hs : 100000 ≤ sizeLine := by decide
    refine ⟨_, (pss_cons (ps_if (pt_not (pt_val (pe_callB call_isi (by rfl) T.z_isinstance (by decide +kernel) (pa_cons (pv 0) (pa_cons (pe_bltn (v := .ty "str") (by rfl) T.z_str (by decide +kernel) rfl) pa_nil))))) (pss_one (ps_raise rfl (takes_of rfl rfl rfl rfl) (pmk_oex B.ox B.iC B.tI G1 (hr.mono (by decide)) b1 .nil pass0 (by rfl) B.g (pa_cons (pe_un un_neg pe_int) pa_nil)))) pss_nil)
      (pss_cons (ps_setLc (i := 1) (own := [("word", 3)]) (tt := tTru K (tVar 3)) (by rfl) sc_read_call.nd rfl rfl (sw_true rfl rfl rfl (by decide +kernel)) (pi_list (pe_split (pv 0) pe_str)) (blkOk_by (own := [("word", 3)]) (N := N_read_call) (sc := defScope s_read_call) (by decide +kernel)) (fun _ _ _ _ _ => (pg_name (i := 3) sc_read_call.nd rfl (.inl rfl))) (fun _ _ _ _ _ => (pts_one (pt_truth (pv 3) (by intro _; rfl)))) (fun _ _ _ _ _ => (pe_lower (pv 3))))
      (pss_cons (ps_for (passes_of rfl) rfl (pi_enum (by rfl) T.z_enumerate (pa_cons (pv 1) pa_nil)) (pg_tup rfl (pgs_cons (pg_name (i := 2) sc_read_call.nd rfl (.inl rfl)) (pgs_cons (pg_name (i := 3) sc_read_call.nd rfl (.inl rfl)) pgs_nil)))
        (pss_one (ps_if (pt_not (pt_val (pe_cal C_is_word_at hr (by decide) (by rfl) (pa_cons (pv 2) (pa_cons (pv 3) pa_nil))))) (pss_one (ps_raise rfl (takes_of rfl rfl rfl rfl) (pmk_oex B.ox B.iC B.tI G1 (hr.mono (by decide)) b1 .nil pass0 (by rfl) B.g (pa_cons (pv 2) pa_nil)))) pss_nil)))
      (pss_cons (ps_if (pt_cmpR op_eq (pe_callB call_len_seq (by rfl) T.z_len (by decide +kernel) (pa_cons (pv 1) pa_nil)) (pe_glob' T.g_WORDS_WITHOUT_NUMBER (by rfl)) (nomark _)) (pss_one (ps_ret (pe_tup (pa_cons (pe_ix ix_list (pv 1) pe_int (fun _ _ => rfl)) (pa_cons (pe_ix ix_list (pv 1) pe_int (fun _ _ => rfl)) (pa_cons pe_int pa_nil)))))) pss_nil)
      (pss_cons (ps_if (pt_cmpR op_eq (pe_callB call_len_seq (by rfl) T.z_len (by decide +kernel) (pa_cons (pv 1) pa_nil)) (pe_glob' T.g_WORDS_WITH_NUMBER (by rfl)) (nomark _)) (pss_one (ps_ret (pe_tup (pa_cons (pe_ix ix_list (pv 1) pe_int (fun _ _ => rfl)) (pa_cons (pe_ix ix_list (pv 1) pe_int (fun _ _ => rfl)) (pa_cons (pe_callTy call_int_str (by rfl) T.z_int (by decide +kernel) (pa_cons (pe_ix ix_list (pv 1) pe_int (fun _ _ => rfl)) pa_nil)) pa_nil)))))) pss_nil)
      (pss_one (ps_raise rfl (takes_of rfl rfl rfl rfl) (pmk_oex B.ox B.iC B.tI G1 (hr.mono (by decide)) b1 .nil pass0 (by rfl) B.g (pa_cons (pe_callB call_len_seq (by rfl) T.z_len (by decide +kernel) (pa_cons (pv 1) pa_nil)) pa_nil))))))))), ?_⟩
    rcases h with ⟨z, rfl, hz, qE, q⟩ | ⟨⟨ty, ht, hk⟩, qE⟩
    case inr =>
      refine ⟨_, rfl, _, _, _, _, false, rfl, .ty "str", ht, kit_ty hk, false, rfl, ?_⟩
      refine iteT ?_
      refine ⟨1, rfl, (by show 1 ≤ 1000; decide), fun a na => ?_⟩
      refine ⟨a, -1, rfl, .inl rfl, upd_same, fun dx n1 n2 => ?_⟩
      refine ⟨rfl, dx, _, upd_same, by rw [upd_ne n2, upd_same], (upd_ne n2).symm.trans n1, ?_⟩
      exact qE _ dx (raised na n1 n2) upd_same
    have hz1 := hz.1
    generalize hw : cw z = ws at qE q
    refine ⟨_, rfl, _, _, _, _, true, rfl, .ty "str", .base (.str z), kit_ty (by decide +kernel), true, rfl, ?_⟩
    refine iteF ?_
    refine ⟨_, rfl, ⟨_, rfl⟩, z, bl1, rfl, rfl, rfl, by omega, fun p np => ?_⟩
    refine ⟨p, rfl, ⟨_, SqL.of upd_same⟩, fun D nD => ?_⟩
    have sm1 : Same H (upd H p (.lst ((Txt.split z bl1).map V.str))) := same_upd np
    have nD0 : H D = none := sm1.free nD
    have pD : p ≠ D := fun e => by
      rw [← e, upd_same] at nD
      cases nD
    refine lc_list (K := K) (a := p) (xs := (Txt.split z bl1).map V.str) (fun i H' => Same H H' ∧ H' p = some (.lst ((Txt.split z bl1).map V.str)) ∧ H' D = some (.lst (((((Txt.split z bl1).take i).filter (fun w => w.length != 0)).map Txt.lower).map V.str))) ⟨sm1.trans (same_upd nD), by rw [upd_ne pD, upd_same], upd_same⟩ (fun i H' _ h => SqL.of h.2.1) ?_ ?_
    · rintro i x H1 hx ⟨sm, hp, hD⟩
      rw [List.getElem?_map] at hx
      obtain ⟨v, hv, rfl⟩ := Option.map_eq_some_iff.mp hx
      have hm : v ∈ Txt.split z bl1 := List.mem_of_getElem? hv
      have hvl := split_part_len hm
      have e1 : (Txt.split z bl1).take (i + 1) = (Txt.split z bl1).take i ++ [v] := by rw [List.take_add_one, hv]; rfl
      refine ⟨rfl, ?_⟩
      refine ⟨_, rfl, _, ⟨by omega, rfl⟩, ?_⟩
      have eb : ((v.length : Int) != 0) = (v.length != 0) := by
        cases v.length with
        | zero => rfl
        | succ n => rfl
      rw [eb]
      refine ite2 (fun e => ?_) (fun e => ?_)
      · refine ⟨_, rfl, ⟨_, rfl⟩, v, rfl, rfl, by omega, _, hD, ?_, Same.grow sm nD0, ?_, ?_⟩
        · rw [List.length_map, List.length_map]
          have h1 := List.length_filter_le (fun w : Str => w.length != 0) ((Txt.split z bl1).take i)
          have h2 := List.length_take_le i (Txt.split z bl1)
          have h3 : i < (Txt.split z bl1).length := (List.getElem?_eq_some_iff.mp hv).1
          have h4 := split_len z
          have h5 : ((Txt.split z bl1).take i).length = min i (Txt.split z bl1).length := List.length_take
          omega
        · rw [upd_ne pD]
          exact hp
        · rw [upd_same, e1, List.filter_append, List.map_append, List.map_append, List.filter_cons_of_pos (p := fun w : Str => w.length != 0) e]
          rfl
      · refine ⟨sm, hp, ?_⟩
        rw [hD, e1, List.filter_append, List.filter_cons_of_neg (p := fun w : Str => w.length != 0) e, List.filter_nil, List.append_nil]
    · rintro H1 ⟨sm, hp, hD⟩
      have hD' : H1 D = some (.lst (ws.map V.str)) := by
        rw [hD, List.length_map, List.take_length, ← hw]
        rfl
      clear hD hp
      refine ⟨_, rfl, D, _, rfl, SqL.of hD', ?_⟩
      refine for_it walk_enum (fun i σ H' => (∃ y2 y3, σ = [some (.str z), some (.ref D), y2, y3]) ∧ Same H1 H' ∧ ∀ (j : Nat) (v : Str), j < i → ws[j]? = some v → okAt j v = true) ⟨⟨_, _, rfl⟩, Same.refl _, fun _ _ h => absurd h (Nat.not_lt_zero _)⟩ (fun i σ H' _ h => SqL.of (h.2.1 _ _ hD')) ?_ ?_
      · rintro i x σ H2 H3 hi ⟨⟨y2, y3, rfl⟩, sm2, hj⟩ ⟨U, v1, v2, rfl, nU, rfl, e1, e2⟩
        cases e1
        have e2' : (ws.map V.str)[i]? = some v2 := e2
        rw [List.getElem?_map] at e2'
        obtain ⟨v, hv, rfl⟩ := Option.map_eq_some_iff.mp e2'
        have hvl := (cw_part hz (by rw [hw]; exact List.mem_of_getElem? hv)).1
        have hil : i < 10001 := by
          have h1 : i < ws.length := (List.getElem?_eq_some_iff.mp hv).1
          have h2 := split_len z
          have h3 : ws.length ≤ (Txt.split z bl1).length := by
            rw [← hw]
            unfold cw
            rw [List.length_map]
            exact List.length_filter_le _ _
          omega
        refine ⟨U, _, rfl, SqT.of upd_same, rfl, _, _, rfl, _, _, rfl, rfl, ?_⟩
        refine ⟨_, rfl, _, rfl, i, v, rfl, by omega, fun H4 sm4 => ?_⟩
        refine ⟨_, rfl, ?_⟩
        have sm5 : Same H H4 := sm.trans (sm2.trans ((same_upd nU).trans sm4))
        cases hok : okAt i v with
        | true =>
          refine iteF ?_
          refine ⟨⟨_, _, rfl⟩, sm2.trans ((same_upd nU).trans sm4), fun j u hlt hu => ?_⟩
          by_cases c : j < i
          · exact hj j u c hu
          · have : j = i := by omega
            subst this
            rw [hv] at hu
            cases hu
            exact hok
        | false =>
          refine iteT ?_
          refine ⟨_, rfl, (by show 1 ≤ 1000; decide), fun a na => ?_⟩
          refine ⟨a, _, rfl, .inr ⟨by omega, by omega⟩, upd_same, fun dx n1 n2 => ?_⟩
          refine ⟨rfl, dx, _, upd_same, by rw [upd_ne n2, upd_same], (upd_ne n2).symm.trans n1, ?_⟩
          have hb := bad_at ws 0 i v (fun j u hlt hu => by rw [Nat.zero_add]; exact hj j u hlt hu) hv (by rw [Nat.zero_add]; exact hok)
          rw [Nat.zero_add] at hb
          exact qE i (fault_bad hb) _ dx (sm5.trans (raised na n1 n2)) upd_same
      · rintro σ H2 ⟨⟨y2, y3, rfl⟩, sm2, hj⟩
        have hD2 : H2 D = some (.lst (ws.map V.str)) := sm2 _ _ hD'
        have smH : Same H H2 := sm.trans sm2
        have hb : bad 0 ws = none := bad_none ws 0 fun i v hv => by
          rw [Nat.zero_add]
          exact hj i v (by rw [List.length_map]; exact (List.getElem?_eq_some_iff.mp hv).1) hv
        have hwl : ws.length ≤ 10001 := by
          have h2 := split_len z
          have h3 : ws.length ≤ (Txt.split z bl1).length := by
            rw [← hw]
            unfold cw
            rw [List.length_map]
            exact List.length_filter_le _ _
          omega
        refine ⟨_, rfl, D, _, rfl, .inl (SqL.of hD2), rfl, _, rfl, ?_⟩
        rw [List.length_map]
        by_cases l3 : ws.length = 3
        · have hg := good_of hb (.inl l3)
          have hf := fault_none hb (.inl l3)
          refine iteT' (by rw [l3]; decide) ?_
          cases hg with
          | @three k pl hk hp =>
            refine ⟨_, rfl, D, _, 0, _, rfl, rfl, SqL.of hD2, atI_nat (j := 0) rfl, _, rfl, D, _, 2, _, rfl, rfl, SqL.of hD2, atI_nat (j := 2) rfl, (by show 3 ≤ sizeLine; decide), fun t nt => ?_⟩
            exact q hf (.three hk hp) _ t (smH.trans (same_upd nt)) upd_same
          | five _ _ _ => exact absurd l3 (by simp)
        refine iteF' (decide_eq_false (fun e => l3 (by have := V.int.inj e; omega))) ?_
        refine ⟨_, rfl, D, _, rfl, .inl (SqL.of hD2), rfl, _, rfl, ?_⟩
        rw [List.length_map]
        by_cases l5 : ws.length = 5
        · have hg := good_of hb (.inr l5)
          have hf := fault_none hb (.inr l5)
          refine iteT' (by rw [l5]; decide) ?_
          cases hg with
          | @five k pl n hk hp hn =>
            obtain ⟨f1, f2, f3, f4⟩ := pumps_facts n hn
            refine ⟨_, rfl, D, _, 0, _, rfl, rfl, SqL.of hD2, atI_nat (j := 0) rfl, _, rfl, D, _, 2, _, rfl, rfl, SqL.of hD2, atI_nat (j := 2) rfl, _, rfl, D, _, 4, _, rfl, rfl, SqL.of hD2, atI_nat (j := 4) rfl, _, _, rfl, f1, by omega, (by show 3 ≤ sizeLine; decide), fun t nt => ?_⟩
            refine q hf (.five hk hp hn) _ t (smH.trans (same_upd nt)) ?_
            rw [upd_same]
            show some (HO.tup [.str k, .str pl, .int ((1 + n : Nat) : Int)]) = some (HO.tup [.str k, .str pl, .int ((intText? (numS (1 + n))).getD 0)])
            rw [f1]
            rfl
          | three _ _ => exact absurd l5 (by simp)
        refine iteF' (decide_eq_false (fun e => l5 (by have := V.int.inj e; omega))) ?_
        refine ⟨_, rfl, D, _, rfl, .inl (SqL.of hD2), (by show 1 ≤ 1000; decide), fun a na => ?_⟩
        rw [List.length_map]
        refine ⟨a, _, rfl, .inr ⟨by omega, by omega⟩, upd_same, fun dx n1 n2 => ?_⟩
        refine ⟨rfl, dx, _, upd_same, by rw [upd_ne n2, upd_same], (upd_ne n2).symm.trans n1, ?_⟩
        exact qE _ (fault_len hb l3 l5) _ dx (smH.trans (raised na n1 n2)) upd_same
end
end My

set_option Elab.async false
set_option linter.all false
set_option maxRecDepth 100000
set_option maxHeartbeats 4000000
namespace My
open PySem PySem.Spec PyProof.Rows L2 TL RZ
/-- the caught error, that has its dict, as isinstance looks at it -/
theorem kit_err {X : Cx} {a D dd : Addr} {oe : Obj} {pn pins : List (Addr × Obj)} {σ : L2.St} {H : Hp} {s : Shared} {fs : List (Str × V)} (C : ExcC X.K D) (hz : Zc (.ref D) (some dd) oe) (hf : ∃ vs, oe.data = .fields vs) (I : Inv (X.suite a ((a, oe) :: pn)) pins σ H s) (hd : H dd = some (.xd fs)) :
    ∃ Pr : Heap → Prop, PySem.W.KitX X.K (.ref a) (.ref D) Pr ∧ Pr s.heap := by
  obtain ⟨hget, _⟩ := I.pin (a, oe) (List.mem_append.mpr (.inl List.mem_cons_self))
  obtain ⟨vs, hv⟩ := hf
  have hx : ObjOk X.prog X.w H s.heap dd (.xd fs) := I.hok dd _ hd
  obtain ⟨mA, hns, hr⟩ := hx
  obtain ⟨od, ho, hl⟩ := lookIn_ns hns
  have J : PySem.W.InstAt s.heap a oe D (some od) := ⟨hget, hz.1, by unfold PySem.W.notCls; rw [hv] <;> rfl, by rw [hz.2]; exact ho⟩
  have hcl : (PySem.W.clsIn X.K D).isSome = true := by
    obtain ⟨cd, hc, _⟩ := PySem.W.any_some C.hd
    rw [hc]
    rfl
  exact ⟨_, PySem.W.kitx_exc hcl C.hg C.hk C.hs C.ha C.hn C.ht C.hm, J⟩
/-- isinstance(e, c) of the caught error -/
def rIsX (K : PySem.W.Frag) (D a : Addr) (cls : Value) (d : Option Addr) : List V → Hp → VK → Prop := fun xs H Q => cls = .ref D ∧ ∃ (dd : Addr) (fs : List (Str × V)) (c : V) (cv : Value) (b : Bool), d = some dd ∧ H dd = some (.xd fs) ∧ xs = [.ref a, c] ∧ ClsV c cv ∧ PySem.W.kitOne K (.ref D) cv = some b ∧ Q (.bl b) H
theorem call_isX {X : Cx} {a D : Addr} {oe : Obj} {pn : List (Addr × Obj)} {cls : Value} {d : Option Addr} (C : ExcC X.K D) (hz : Zc cls d oe) (hf : ∃ vs, oe.data = .fields vs) : CallR (X.suite a ((a, oe) :: pn)) (.builtin "isinstance") (rIsX X.K D a cls d) := by
  intro pins s σ H xs us Q I r h
  obtain ⟨rfl, dd, fs, c, cv, b, rfl, hd, rfl, k, e, q⟩ := h
  obtain ⟨u1, u2, rfl, r1, r2⟩ := vals2 r
  cases r1
  have e2 := k.eq r2
  subst e2
  obtain ⟨Pr, Z, p⟩ := kit_err C hz hf I hd
  exact PySem.W.kia_one Z I.kIn p e (fun z => nomatch z) fun tk => ⟨.bl b, H, I.tok tk, rfl, q⟩
/-- isinstance(e, (c, ..)) of the caught error, the tuple just laid -/
def rIsXT (K : PySem.W.Frag) (D a : Addr) (cls : Value) (d : Option Addr) : List V → Hp → VK → Prop := fun xs H Q => cls = .ref D ∧ ∃ (dd : Addr) (fs : List (Str × V)) (tp : Addr) (cs : List V) (us : List Value) (b : Bool), d = some dd ∧ H dd = some (.xd fs) ∧ xs = [.ref a, .ref tp] ∧ H tp = some (.tup cs) ∧ Paired ClsV cs us ∧ PySem.W.kitAny K (.ref D) us = some b ∧ Q (.bl b) H
theorem call_isXT {X : Cx} {a D : Addr} {oe : Obj} {pn : List (Addr × Obj)} {cls : Value} {d : Option Addr} (C : ExcC X.K D) (hz : Zc cls d oe) (hf : ∃ vs, oe.data = .fields vs) : CallR (X.suite a ((a, oe) :: pn)) (.builtin "isinstance") (rIsXT X.K D a cls d) := by
  intro pins s σ H xs us Q I r h
  obtain ⟨rfl, dd, fs, tp, cs, ws, b, rfl, hd, rfl, hT, k, e, q⟩ := h
  obtain ⟨u1, u2, rfl, r1, r2⟩ := vals2 r
  cases r1
  cases (show u2 = Value.ref tp from r2)
  obtain ⟨Pr, Z, p⟩ := kit_err C hz hf I hd
  obtain ⟨_, its, rv, o, h1, h2, n, h3⟩ := (show ObjOk X.prog X.w H s.heap tp (.tup cs) from I.hok tp _ hT)
  have e3 := ClsV.all k rv
  subst e3
  obtain ⟨oc, od, dt, sl⟩ := o
  simp only at h2 h3
  subst h2 h3
  exact PySem.W.kia_tup Z I.kIn p h1 e (fun z => nomatch z) fun tk => ⟨.bl b, H, I.tok tk, rfl, q⟩
structure BY (K : PySem.W.Frag) (mg : Str → Option Value) (C n1 n2 n3 n4 n5 : Addr) : Prop where
  g1 : mg "NoText" = some (.ref n1)
  g2 : mg "NoSaying" = some (.ref n2)
  g3 : mg "BadTime" = some (.ref n3)
  g4 : mg "NoDeed" = some (.ref n4)
  g5 : mg "NoGround" = some (.ref n5)
  x : ExcC K C
  m : PySem.W.exmOne K (.ref C) (.ref C) = some true
  k0 : PySem.W.kitOne K (.ref C) (.type "ValueError") = some true
  k1 : PySem.W.kitOne K (.ref C) (.ref n1) = some false
  k2 : PySem.W.kitOne K (.ref C) (.ref n2) = some false
  k3 : PySem.W.kitOne K (.ref C) (.ref n3) = some false
  k4 : PySem.W.kitOne K (.ref C) (.ref n4) = some false
  k5 : PySem.W.kitOne K (.ref C) (.ref n5) = some false
theorem BY.any {K : PySem.W.Frag} {mg : Str → Option Value} {C n1 n2 n3 n4 n5 : Addr} (B : BY K mg C n1 n2 n3 n4 n5) : PySem.W.kitAny K (.ref C) [.ref n1, .ref n2, .ref n3, .ref n4, .ref n5] = some false :=
  kitAny_cons B.k1 (fun _ => kitAny_cons B.k2 (fun _ => kitAny_cons B.k3 (fun _ => kitAny_cons B.k4 (fun _ => kitAny_cons B.k5 (fun _ => kitAny_nil) (fun z => nomatch z)) (fun z => nomatch z)) (fun z => nomatch z)) (fun z => nomatch z)) (fun z => nomatch z)
section
variable {P : Program} {w : World} {K : PySem.W.Frag} {mg : Str → Option Value} {base : Heap}
abbrev s_law_told : Stmt := topS 27
abbrev N_law_told : List Str := ["_law_thing", "e"]
theorem sc_law_told : FnScope N_law_told ["_law_thing"] (defScope s_law_told) := ⟨rfl, rfl, rfl, by decide +kernel, rfl, by decide +kernel, by decide +kernel⟩
def sp_law_told (K : PySem.W.Frag) : Sp := fun vs H Q _ => ∃ x : V, vs = [x] ∧
  ((∃ z : Str, x = .str z ∧ Asc 10000 z ∧ ∀ H' v, Same H H' → Dp K H' v (res (cw z)) → Okd 2 (res (cw z)) → Q v H') ∨
   (NoStr K H x ∧ ∀ H', Same H H' → Q (.int (-1)) H'))
theorem ok_law_told {f fR C fI n1 n2 n3 n4 n5 : Addr} {fd fdR : FuncData} (F : Fun K "_law_told" "_law_told" s_law_told f fd) (T : Txt mg) (B : BX K mg C fI) (B2 : BY K mg C n1 n2 n3 n4 n5)
    (GR : FnOk P w K mg base (L2.CX P w) 3 fR fdR ["text"] (sp_read_call K C)) (gR : mg "read_call" = some (.ref fR)) (kR : PySem.W.keepIn K (.ref fR) = true) (bR : Binds K fdR ["text"] []) :
    FnOk P w K mg base CX0 4 f fd ["_law_thing"] (sp_law_told K) := by
  refine F.ok sc_law_told (fun vs H Q E h => ?_) (fun cdv A outer s H vs Q E hr h => ?_)
  · obtain ⟨x, rfl, _⟩ := h
    rfl
  · obtain ⟨x, rfl, h⟩ := h
    refine ⟨_, pss_one (ps_try_as (i := 1) (Wout := fun _ _ _ _ => False) rfl rfl sc_law_told.nd rfl rfl ⟨rfl, by decide, Or.inl B.g⟩ takes0
      (fun W pn xe tk _ => pss_one (ps_ret (pe_callS GR hr rfl gR kR bR (fun σ => passAt tk σ) (pa_cons (pv 0) pa_nil))))
      (fun a oe cls d pn hz hf => pss_cons (ps_if (PW.pt (pw_or (pt_not (pt_val (pe_callB (call_isX B2.x hz hf) (by rfl) T.z_isinstance (by decide +kernel) (pa_cons (pv 1) (pa_cons (pe_bltn (v := .ty "ValueError") (by rfl) T.z_ValueError (by decide +kernel) rfl) pa_nil)))))
        (pw_or1 (pt_val (pe_callB (call_isXT B2.x hz hf) (by rfl) T.z_isinstance (by decide +kernel) (pa_cons (pv 1) (pa_cons (pe_tup (pa_cons (pe_globR B2.g1 (by rfl)) (pa_cons (pe_globR B2.g2 (by rfl)) (pa_cons (pe_globR B2.g3 (by rfl)) (pa_cons (pe_globR B2.g4 (by rfl)) (pa_cons (pe_globR B2.g5 (by rfl)) pa_nil)))))) pa_nil))))))) (pss_one (ps_ret pe_str)) pss_nil)
        (pss_one (ps_ret (pe_xf ⟨B2.x.hg, B2.x.hk, B2.x.hs, B2.x.hd⟩ B.no hz hf (pv 1)))))), ?_⟩
    rcases h with ⟨z, rfl, hz, q⟩ | ⟨ns, q⟩
    · refine ⟨_, rfl, _, rfl, .inl ⟨z, rfl, hz, fun i hi H1 d sm hd => ?_, fun hn hg H1 p sm hp => ?_⟩⟩
      · refine ⟨true, B2.m, fun _ a0 ha0 => ?_, fun z => Bool.noConfusion z⟩
        refine ⟨_, rfl, rfl, d, _, _, _, true, rfl, hd, rfl, .ty "ValueError", B2.k0, true, rfl, iteF ?_⟩
        refine ⟨_, rfl, (by show 5 ≤ sizeLine; decide), fun tp ntp => ?_⟩
        have hd2 : (upd H1 tp (.tup [.ref n1, .ref n2, .ref n3, .ref n4, .ref n5])) d = some (.xd [("at", .int (i : Int))]) := same_upd ntp _ _ hd
        refine ⟨rfl, d, _, tp, _, _, false, rfl, hd2, rfl, upd_same, .cons (.own n1) (.cons (.own n2) (.cons (.own n3) (.cons (.own n4) (.cons (.own n5) .nil)))), B2.any, false, rfl, iteF ?_⟩
        refine ⟨_, rfl, rfl, rfl, d, _, _, rfl, hd2, rfl, ?_⟩
        have er : res (cw z) = .int (i : Int) := by
          unfold res
          rw [hi]
        refine q _ _ (sm.trans (same_upd ntp)) ?_ ?_
        · rw [er]; exact .int _
        · rw [er]; exact .int _
      · have er : res (cw z) = .tuple (tdat (cw z)) := by
          unfold res
          rw [hn]
        refine q _ _ sm ?_ ?_
        · rw [er]; exact told_dp hg hp
        · rw [er]; exact told_ok hg
    · refine ⟨_, rfl, _, rfl, .inr ⟨ns, fun H1 d sm hd => ?_⟩⟩
      refine ⟨true, B2.m, fun _ a0 ha0 => ?_, fun z => Bool.noConfusion z⟩
      refine ⟨_, rfl, rfl, d, _, _, _, true, rfl, hd, rfl, .ty "ValueError", B2.k0, true, rfl, iteF ?_⟩
      refine ⟨_, rfl, (by show 5 ≤ sizeLine; decide), fun tp ntp => ?_⟩
      have hd2 : (upd H1 tp (.tup [.ref n1, .ref n2, .ref n3, .ref n4, .ref n5])) d = some (.xd [("at", .int (-1))]) := same_upd ntp _ _ hd
      refine ⟨rfl, d, _, tp, _, _, false, rfl, hd2, rfl, upd_same, .cons (.own n1) (.cons (.own n2) (.cons (.own n3) (.cons (.own n4) (.cons (.own n5) .nil)))), B2.any, false, rfl, iteF ?_⟩
      refine ⟨_, rfl, rfl, rfl, d, _, _, rfl, hd2, rfl, ?_⟩
      exact q _ (sm.trans (same_upd ntp))
end
end My

set_option Elab.async false
set_option linter.all false
set_option maxRecDepth 100000
set_option maxHeartbeats 4000000
namespace My
open PySem PySem.Spec PyProof.Rows L2 TL RZ
/-! ### plain numbers -/
def dig (c : Nat) : Bool := decide (48 ≤ c ∧ c ≤ 57)
def dv (l : List Nat) (a : Nat) : Nat := l.foldl (fun acc c => acc * 10 + (c - 48)) a
theorem dv_ge : ∀ (l : List Nat) (a : Nat), a * 10 ^ l.length ≤ dv l a
  | [], a => by show a * 1 ≤ a; omega
  | c :: r, a => by
    have h := dv_ge r (a * 10 + (c - 48))
    show a * 10 ^ (r.length + 1) ≤ dv r (a * 10 + (c - 48))
    refine Nat.le_trans ?_ h
    rw [Nat.pow_succ, Nat.mul_comm (10 ^ r.length) 10, ← Nat.mul_assoc]
    exact Nat.mul_le_mul_right _ (Nat.le_add_right _ _)
theorem int_dv {z : Str} (h : (tl z).all dig = true) (hne : tl z ≠ []) (hl : z.length ≤ 10) : intText? z = some ((dv (tl z) 0 : Nat) : Int) := by
  rw [PySem.intText_digits (x := z) (fun c hc => of_decide_eq_true (List.all_eq_true.mp h c hc)) (fun e => hne e) (by omega)]
  rfl
def plainOk (z : Str) : Bool := !decide (z.length = 0) && (decide (z.length ≤ 10) && ((tl z).all dig && (!decide ((tl z).head? = some 48) || decide (z = Str.ofString "0"))))
def plainV (z : Str) : V := if plainOk z = true then .int ((dv (tl z) 0 : Nat) : Int) else .non
def pump4 (z : Str) : Bool := plainOk z && decide (1 ≤ dv (tl z) 0 ∧ dv (tl z) 0 ≤ 20)
theorem two_digits : ∀ a, a < 10 → ∀ b, b < 10 → 1 ≤ a → a * 10 + b ≤ 20 → (⟨#[48 + a, 48 + b]⟩ : Str) = numS (1 + (a * 10 + b - 1)) := by decide +kernel
theorem one_digit : ∀ a, a < 10 → 1 ≤ a → (⟨#[48 + a]⟩ : Str) = numS (1 + (a - 1)) := by decide +kernel
theorem pump4_pumps : ∀ k, k < 20 → pump4 (numS (1 + k)) = true := by decide +kernel
theorem pump4_mem (z : Str) : pump4 z = decide (z ∈ pumpsL) := by
  cases h : pump4 z with
  | false =>
    refine (decide_eq_false fun hm => ?_).symm
    obtain ⟨n, hn, rfl⟩ := mem_pumps hm
    rw [pump4_pumps n hn] at h
    cases h
  | true =>
    refine (decide_eq_true ?_).symm
    unfold pump4 plainOk at h
    simp only [Bool.and_eq_true, decide_eq_true_eq, Bool.not_eq_true', decide_eq_false_iff_not, Bool.or_eq_true] at h
    obtain ⟨⟨h0, h1, h2, h3⟩, h4, h5⟩ := h
    have hz : z = ⟨(tl z).toArray⟩ := (mk_tl z).symm
    rw [len_tl] at h0
    have mem : ∀ n, n < 20 → numS (1 + n) ∈ pumpsL := fun n hn => List.mem_map.mpr ⟨n, List.mem_range.mpr hn, rfl⟩
    rcases h3 with h3 | h3
    · match hl : tl z, h0, h2, h3, h4, h5 with
      | [], h0, _, _, _, _ => exact absurd rfl h0
      | [a], _, h2, h3, h4, h5 =>
        have ha : 48 ≤ a ∧ a ≤ 57 := of_decide_eq_true (List.all_eq_true.mp h2 a (List.mem_cons_self ..))
        have h4' : 1 ≤ 0 * 10 + (a - 48) := h4
        have e := one_digit (a - 48) (by omega) (by omega)
        rw [show 48 + (a - 48) = a by omega] at e
        rw [hz, hl]
        show (⟨#[a]⟩ : Str) ∈ pumpsL
        rw [e]
        exact mem _ (by omega)
      | [a, b], _, h2, h3, h4, h5 =>
        have ha : 48 ≤ a ∧ a ≤ 57 := of_decide_eq_true (List.all_eq_true.mp h2 a (List.mem_cons_self ..))
        have hb : 48 ≤ b ∧ b ≤ 57 := of_decide_eq_true (List.all_eq_true.mp h2 b (List.mem_cons_of_mem _ (List.mem_cons_self ..)))
        have h5' : (0 * 10 + (a - 48)) * 10 + (b - 48) ≤ 20 := h5
        have na : a ≠ 48 := fun e => h3 (by rw [e]; rfl)
        have e := two_digits (a - 48) (by omega) (b - 48) (by omega) (by omega) (by omega)
        rw [show 48 + (a - 48) = a by omega, show 48 + (b - 48) = b by omega] at e
        rw [hz, hl]
        show (⟨#[a, b]⟩ : Str) ∈ pumpsL
        rw [e]
        exact mem _ (by omega)
      | a :: b :: c :: r, _, h2, h3, h4, h5 =>
        exfalso
        have ha : 48 ≤ a ∧ a ≤ 57 := of_decide_eq_true (List.all_eq_true.mp h2 a (List.mem_cons_self ..))
        have na : a ≠ 48 := fun e => h3 (by rw [e]; rfl)
        have g : (0 * 10 + (a - 48)) * 10 ^ (b :: c :: r).length ≤ dv (b :: c :: r) (0 * 10 + (a - 48)) := dv_ge _ _
        have g2 : dv (b :: c :: r) (0 * 10 + (a - 48)) ≤ 20 := h5
        have g3 : 10 ^ 2 ≤ 10 ^ (b :: c :: r).length := Nat.pow_le_pow_right (by decide) (by simp)
        have g4 : 1 * 10 ^ 2 ≤ (0 * 10 + (a - 48)) * 10 ^ (b :: c :: r).length := Nat.mul_le_mul (by omega) g3
        omega
    · exfalso
      rw [h3] at h4
      revert h4
      decide +kernel
theorem figs_mem (c : Nat) : decide (c ∈ (Str.ofString "0123456789").cps.toList) = dig c := by
  refine decide_eq_decide.mpr ?_
  have e : (Str.ofString "0123456789").cps.toList = (List.range 10).map (48 + ·) := by decide +kernel
  rw [e, List.mem_map]
  constructor
  · rintro ⟨k, hk, rfl⟩
    have := List.mem_range.mp hk
    omega
  · intro h
    exact ⟨c - 48, List.mem_range.mpr (by omega), by omega⟩
section
variable {P : Program} {w : World} {K : PySem.W.Frag} {mg : Str → Option Value} {base : Heap}
abbrev s_law_plain : Stmt := topS 23
abbrev N_law_plain : List Str := ["_law_word", "_law_sign"]
theorem sc_law_plain : FnScope N_law_plain ["_law_word"] (defScope s_law_plain) := ⟨rfl, rfl, rfl, by decide +kernel, rfl, by decide +kernel, by decide +kernel⟩
def sp_law_plain : Sp := fun vs H Q _ => ∃ z : Str, vs = [.str z] ∧ z.length ≤ 100000 ∧ ∀ H', Same H H' → Q (plainV z) H'
theorem ok_law_plain {f : Addr} {fd : FuncData} {k : Nat} (F : Fun K "_law_plain" "_law_plain" s_law_plain f fd) (T : Txt mg) : FnOk P w K mg base CX0 (k + 1) f fd ["_law_word"] sp_law_plain := by
  refine F.ok sc_law_plain (fun vs H Q E h => ?_) (fun cdv A outer s H vs Q E hr h => ?_)
  · obtain ⟨z, rfl, _⟩ := h
    rfl
  · obtain ⟨z, rfl, hz, q⟩ := h
    have hs : 100000 ≤ sizeLine := by decide
    refine ⟨_, (pss_cons (ps_if (PW.pt (pw_or (pt_cmpR op_eq (pv 0) pe_str (nomark _)) (pw_or (pt_cmpR op_gt (pe_callB call_len_str (by rfl) T.z_len (by decide +kernel) (pa_cons (pv 0) pa_nil)) pe_int (nomark _)) (pw_or1 (pt_not (pt_val (pe_callB (cr_all (by rfl)) (by rfl) T.z_all (by decide +kernel) (pa_cons (pe_lc (own := [("_law_sign", 1)]) (by rfl) sc_law_plain.nd (pi_str (pv 0)) (blkOk_by (own := [("_law_sign", 1)]) (N := N_law_plain) (sc := defScope s_law_plain) (by decide +kernel)) (fun _ _ _ _ _ => (pg_name (i := 1) sc_law_plain.nd rfl (.inl rfl))) (fun _ _ _ _ _ => pts_nil) (fun _ _ _ _ _ => (pe_cmpR op_in_sign (pv 1) pe_str rfl))) pa_nil)))))))) (pss_one (ps_ret pe_non)) pss_nil)
      (pss_one (ps_ret (pe_ifExp (PW.pt (pw_or (pt_cmpR op_ne (pe_ix ix_str (pv 0) pe_int (fun _ _ => rfl)) pe_str (nomark _)) (pw_or1 (pt_cmpR op_eq (pv 0) pe_str (nomark _))))) (pe_callTy call_int_str (by rfl) T.z_int (by decide +kernel) (pa_cons (pv 0) pa_nil)) pe_non)))), ?_⟩
    have e0 : (V.str z = V.str (Str.ofString "")) ↔ z.length = 0 := by
      constructor
      · intro e
        rw [V.str.inj e]
        decide
      · intro e
        congr 1
        apply ext_tl
        rw [len0_tl] at e
        rw [e]
        decide +kernel
    have no : ∀ {b : Prop}, plainOk z = false → ∀ H', Same H H' → Q .non H' := fun h H' sm => by
      have := q H' sm
      unfold plainV at this
      rw [h] at this
      exact this
    refine ⟨_, rfl, rfl, _, rfl, ?_⟩
    by_cases c0 : z.length = 0
    · refine iteT' (decide_eq_true (e0.mpr c0)) ?_
      exact no (b := True) (by unfold plainOk; rw [decide_eq_true c0]; rfl) _ (Same.refl _)
    refine iteF' (decide_eq_false fun e => c0 (e0.mp e)) ?_
    refine ⟨_, rfl, z, rfl, Nat.le_trans hz hs, _, _, rfl, rfl, _, rfl, ?_⟩
    by_cases c1 : z.length ≤ 10
    case neg =>
      refine iteT' (decide_eq_true (by show (10 : Int) < (z.length : Int); omega)) ?_
      exact no (b := True) (by unfold plainOk; rw [decide_eq_false c1, Bool.false_and, Bool.and_false]) _ (Same.refl _)
    refine iteF' (decide_eq_false (by show ¬ (10 : Int) < (z.length : Int); omega)) ?_
    refine ⟨_, rfl, z, rfl, fun D nD => ?_⟩
    refine lc_it walk_str (fun i H' => Same H H' ∧ H' D = some (.lst (((tl z).take i).map (fun c => V.bl (dig c))))) ⟨same_upd nD, upd_same⟩ (fun _ _ _ _ => trivial) ?_ ?_
    · rintro i v H1 H2 hi ⟨sm, hD⟩ ⟨rfl, c, hc, rfl⟩
      have hc' : (tl z)[i]? = some c := by rw [← hc]; exact Array.getElem?_toList
      refine ⟨rfl, yesI ?_⟩
      refine ⟨_, rfl, c, _, rfl, rfl, _, hD, ?_, Same.grow sm nD, ?_⟩
      · rw [List.length_map]
        exact Nat.lt_of_le_of_lt (List.length_take_le _ _) (Nat.lt_of_lt_of_le hi (Nat.le_trans hz hs))
      · rw [upd_same, List.take_add_one, hc', List.map_append, figs_mem]
        rfl
    · rintro H1 ⟨sm, hD⟩
      refine ⟨D, (tl z).map dig, rfl, SqL.of ?_, _, rfl, ?_⟩
      · rw [hD, List.take_of_length_le (by rw [Array.length_toList]; exact Nat.le_refl _), List.map_map]
        rfl
      have ea : ((tl z).map dig).all id = (tl z).all dig := by
        rw [List.all_map]
        rfl
      rw [ea]
      cases c2 : (tl z).all dig with
      | false =>
        refine iteT ?_
        exact no (b := True) (by unfold plainOk; rw [c2, Bool.false_and, Bool.and_false, Bool.and_false]) _ sm
      | true =>
        refine iteF ?_
        obtain ⟨a, r, hl⟩ : ∃ a r, tl z = a :: r := by
          cases h : tl z with
          | nil => exact absurd ((len0_tl z).mpr h) c0
          | cons a r => exact ⟨a, r, rfl⟩
        have hne : tl z ≠ [] := by rw [hl]; intro e; cases e
        have hat : atI z.cps.toList 0 = some a := atI_of' (by decide) (by show (tl z)[0]? = some a; rw [hl]; rfl)
        refine ⟨_, rfl, z, 0, a, rfl, rfl, Nat.le_trans hz hs, hat, rfl, _, rfl, ?_⟩
        have ez : (V.str ⟨#[a]⟩ = V.str (Str.ofString "0")) ↔ a = 48 := by
          constructor
          · intro e
            have e2 : tl (⟨#[a]⟩ : Str) = tl (Str.ofString "0") := congrArg tl (V.str.inj e)
            have e3 : tl (Str.ofString "0") = [48] := by decide +kernel
            rw [e3] at e2
            exact (List.cons.inj e2).1
          · intro e
            subst e
            decide +kernel
        have yes : (¬ a = 48 ∨ z = Str.ofString "0") → Q (.int ((dv (tl z) 0 : Nat) : Int)) H1 := fun h => by
          have hp : plainOk z = true := by
            unfold plainOk
            rw [decide_eq_false c0, decide_eq_true c1, c2, hl]
            show (true && (true && (true && (!decide (some a = some 48) || decide (z = Str.ofString "0"))))) = true
            rcases h with h | h
            · rw [decide_eq_false (fun e => h (Option.some.inj e))]
              rfl
            · rw [decide_eq_true h, Bool.or_true]
              rfl
          have := q H1 sm
          unfold plainV at this
          rw [hp] at this
          exact this
        by_cases c3 : a = 48
        · refine iteF' (by rw [decide_eq_true (ez.mpr c3)]; rfl) ?_
          refine ⟨_, rfl, rfl, _, rfl, ?_⟩
          by_cases c4 : z = Str.ofString "0"
          · refine iteT' (decide_eq_true (congrArg V.str c4)) ?_
            exact ⟨_, rfl, z, _, rfl, int_dv c2 hne c1, by omega, yes (.inr c4)⟩
          · refine iteF' (decide_eq_false fun e => c4 (V.str.inj e)) ?_
            refine no (b := True) ?_ _ sm
            unfold plainOk
            rw [decide_eq_false c0, decide_eq_true c1, c2, hl, decide_eq_false c4, c3]
            rfl
        · refine iteT' (by rw [decide_eq_false fun e => c3 (ez.mp e)]; rfl) ?_
          exact ⟨_, rfl, z, _, rfl, int_dv c2 hne c1, by omega, yes (.inl c3)⟩
end
end My

set_option Elab.async false
set_option linter.all false
set_option maxRecDepth 100000
set_option maxHeartbeats 4000000
namespace My
open PySem PySem.Spec PyProof.Rows L2 TL RZ
/-- the law's words are the program's -/
theorem law_words {z : Str} (hz : ∀ c ∈ tl z, c < 128) : (Txt.split (Txt.lower z) bl1).filter (fun w => !decide (V.str w = V.str (Str.ofString ""))) = cw z := by
  apply map_tl_inj
  have e0 : ∀ w : Str, (!decide (V.str w = V.str (Str.ofString ""))) = (w.length != 0) := fun w => by
    by_cases h : w.length = 0
    · have e : w = Str.ofString "" := by
        apply ext_tl
        rw [(len0_tl w).mp h]
        decide +kernel
      rw [decide_eq_true (congrArg V.str e), h]
      rfl
    · rw [decide_eq_false (fun e => h (by rw [V.str.inj e]; decide))]
      show true = _
      cases hl : w.length with
      | zero => exact absurd hl h
      | succ n => rfl
  have e1 : (fun w : Str => !decide (V.str w = V.str (Str.ofString ""))) = fun w => w.length != 0 := funext e0
  rw [e1, filter_tl, split_tl, lower_tl hz, cw_tl hz]
  have e := spl_low (tl z) []
  rw [List.map_nil] at e
  have e2 := spl_wds (tl z) [] []
  rw [List.nil_append] at e2
  rw [e]
  unfold wds
  rw [← e2, List.filter_map]
  congr 1
  apply List.filter_congr
  intro x _
  cases x <;> rfl
theorem cut5 (xs : List V) : cutV xs none (some 5) = xs.take 5 := by
  unfold cutV
  have e1 : HT.sIx xs.length 0 none = 0 := rfl
  have e2 : HT.sIx xs.length xs.length (some 5) = min 5 xs.length := by
    unfold HT.sIx
    simp
  rw [e1, e2, List.drop_zero, Nat.sub_zero]
  by_cases h : 5 ≤ xs.length
  · rw [Nat.min_eq_left h]
  · rw [Nat.min_eq_right (by omega), List.take_of_length_le (Nat.le_refl _), List.take_of_length_le (by omega)]
def gv (w : Str) : List Bool := [decide (w ∈ kinds), decide (V.str w = V.str (Str.ofString "at")), isNm w, decide (V.str w = V.str (Str.ofString "make")), pump4 w]
theorem gv_at (w : Str) (i : Nat) (h : i < 5) : ((gv w).map V.bl)[i]? = some (.bl (okAt i w)) := by
  have e : ∀ x : Str, decide (V.str w = V.str x) = decide (w = x) := fun x => decide_eq_decide.mpr ⟨fun e => V.str.inj e, fun e => congrArg V.str e⟩
  match i, h with
  | 0, _ => rfl
  | 1, _ => show some (V.bl (decide (V.str w = V.str (Str.ofString "at")))) = _; rw [e]; rfl
  | 2, _ => rfl
  | 3, _ => show some (V.bl (decide (V.str w = V.str (Str.ofString "make")))) = _; rw [e]; rfl
  | 4, _ => show some (V.bl (pump4 w)) = _; rw [pump4_mem]; rfl
theorem good5 {v : Str} {i : Nat} {b0 b2 b4 : Bool} (h0 : b0 = decide (v ∈ kinds)) (h2 : isNm v = b2) (h4 : pump4 v = b4) (hi : i < 5) : [V.bl b0, V.bl (decide (V.str v = V.str (Str.ofString "at"))), V.bl b2, V.bl (decide (V.str v = V.str (Str.ofString "make"))), V.bl b4][i]? = some (.bl (okAt i v)) := by
  subst h0 h2 h4
  exact gv_at v i hi
theorem plain_pump {n : Nat} (h : n < 20) : plainV (numS (1 + n)) = .int ((1 + n : Nat) : Int) := by
  have := pump4_pumps n h
  unfold pump4 at this
  rw [Bool.and_eq_true] at this
  unfold plainV
  rw [if_pos this.1]
  have q : ∀ k, k < 20 → dv (tl (numS (1 + k))) 0 = 1 + k := by decide +kernel
  rw [q n h]
section
variable {P : Program} {w : World} {K : PySem.W.Frag} {mg : Str → Option Value} {base : Heap}
abbrev s_law_read : Stmt := topS 24
abbrev N_law_read : List Str := ["_law_text_here", "_law_words_here", "_law_at", "_law_number", "_law_fits", "_law_good", "_law_word", "_law_sign"]
theorem sc_law_read : FnScope N_law_read ["_law_text_here"] (defScope s_law_read) := ⟨rfl, rfl, rfl, by decide +kernel, rfl, by decide +kernel, by decide +kernel⟩
def sp_law_read (K : PySem.W.Frag) : Sp := fun vs H Q _ => ∃ z : Str, vs = [.str z] ∧ Asc 10000 z ∧ ∀ H' v, Same H H' → Dp K H' v (res (cw z)) → Q v H'
theorem ok_law_read {f : Addr} {fd : FuncData} (F : Fun K "_law_read" "_law_read" s_law_read f fd) (T : Txt mg) (C_law_plain : Cal P w K mg base 1 "_law_plain" sp_law_plain) : FnOk P w K mg base CX0 2 f fd ["_law_text_here"] (sp_law_read K) := by
  refine F.ok sc_law_read (fun vs H Q E h => ?_) (fun cdv A outer s H vs Q E hr h => ?_)
  · obtain ⟨z, rfl, _⟩ := h
    rfl
  · obtain ⟨z, rfl, hz, q⟩ := h
    have hs : 100000 ≤ sizeLine := by decide
    have hz1 := hz.1
    refine ⟨_, (pss_cons (ps_setLc (i := 1) (own := [("_law_word", 6)]) (by rfl) sc_law_read.nd rfl rfl (sw_true rfl rfl rfl (by decide +kernel)) (pi_list (pe_split (pe_lower (pv 0)) pe_str)) (blkOk_by (own := [("_law_word", 6)]) (N := N_law_read) (sc := defScope s_law_read) (by decide +kernel)) (fun _ _ _ _ _ => (pg_name (i := 6) sc_law_read.nd rfl (.inl rfl))) (fun _ _ _ _ _ => (pts_one (pt_cmpR op_ne (pv 6) pe_str (nomark _)))) (fun _ _ _ _ _ => (pv 6)))
      (pss_cons (ps_for PassesOwn.never rfl (pi_enum (by rfl) T.z_enumerate (pa_cons (pe_slice sl_list (pv 1) po_none (po_some pe_int)) pa_nil)) (pg_tup rfl (pgs_cons (pg_name (i := 2) sc_law_read.nd rfl (.inl rfl)) (pgs_cons (pg_name (i := 6) sc_law_read.nd rfl (.inl rfl)) pgs_nil)))
        (pss_cons (ps_set (i := 3) sc_law_read.nd rfl (.inl rfl) (pe_cal C_law_plain hr (by decide) (by rfl) (pa_cons (pv 6) pa_nil)))
        (pss_cons (ps_set (i := 4) sc_law_read.nd rfl (.inl rfl) (pe_and (pe_chain op_le op_le pe_int (pe_callB call_len_str (by rfl) T.z_len (by decide +kernel) (pa_cons (pv 6) pa_nil)) pe_int) (pe_one (pe_callB (cr_all (by rfl)) (by rfl) T.z_all (by decide +kernel) (pa_cons (pe_lc (own := [("_law_sign", 7)]) (by rfl) sc_law_read.nd (pi_str (pv 6)) (blkOk_by (own := [("_law_sign", 7)]) (N := N_law_read) (sc := defScope s_law_read) (by decide +kernel)) (fun _ _ _ _ _ => (pg_name (i := 7) sc_law_read.nd rfl (.inl rfl))) (fun _ _ _ _ _ => pts_nil) (fun _ _ _ _ _ => (pe_cmpR op_in_sign (pv 7) pe_str rfl))) pa_nil)))))
        (pss_cons (ps_set (i := 5) sc_law_read.nd rfl (.inl rfl) (pe_lst (pa_cons (pe_cmpR op_in_seq (pv 6) (pe_tup (pa_cons pe_str (pa_cons pe_str (pa_cons pe_str (pa_cons pe_str (pa_cons pe_str (pa_cons pe_str pa_nil))))))) rfl) (pa_cons (pe_cmpR op_eq (pv 6) pe_str (nomark _)) (pa_cons (pv 4) (pa_cons (pe_cmpR op_eq (pv 6) pe_str (nomark _)) (pa_cons (pe_and (pe_cmpR op_notN (pv 3) pe_non (nomark _)) (pe_one (pe_chain op_le op_le pe_int (pv 3) pe_int))) pa_nil)))))))
        (pss_one (ps_if (pt_not (pt_val (pe_ix ix_list (pv 5) (pv 2) (fun _ _ => rfl)))) (pss_one (ps_ret (pv 2))) pss_nil))))))
      (pss_cons (ps_if (pt_cmpR op_gt (pe_callB call_len_seq (by rfl) T.z_len (by decide +kernel) (pa_cons (pv 1) pa_nil)) pe_int (nomark _)) (pss_one (ps_ret pe_int)) pss_nil)
      (pss_cons (ps_if (pt_cmpR op_in_seq (pe_callB call_len_seq (by rfl) T.z_len (by decide +kernel) (pa_cons (pv 1) pa_nil)) (pe_tup (pa_cons pe_int (pa_cons pe_int pa_nil))) rfl) (pss_one (ps_ret (pe_tup (pa_cons (pe_ix ix_list (pv 1) pe_int (fun _ _ => rfl)) (pa_cons (pe_ix ix_list (pv 1) pe_int (fun _ _ => rfl)) (pa_cons (pe_ifExp (pt_cmpR op_eq (pe_callB call_len_seq (by rfl) T.z_len (by decide +kernel) (pa_cons (pv 1) pa_nil)) pe_int (nomark _)) (pe_cal C_law_plain hr (by decide) (by rfl) (pa_cons (pe_ix ix_list (pv 1) pe_int (fun _ _ => rfl)) pa_nil)) pe_int) pa_nil)))))) pss_nil)
      (pss_one (ps_ret (pe_callB call_len_seq (by rfl) T.z_len (by decide +kernel) (pa_cons (pv 1) pa_nil)))))))), ?_⟩
    have hll := lower_len hz.2
    refine ⟨_, rfl, ⟨_, rfl⟩, z, rfl, rfl, by omega, ⟨_, rfl⟩, _, bl1, rfl, rfl, rfl, by omega, fun p np => ?_⟩
    refine ⟨p, rfl, ⟨_, SqL.of upd_same⟩, fun D nD => ?_⟩
    have sm1 : Same H (upd H p (.lst ((Txt.split (Txt.lower z) bl1).map V.str))) := same_upd np
    have nD0 : H D = none := sm1.free nD
    have pD : p ≠ D := fun e => by
      rw [← e, upd_same] at nD
      cases nD
    have hsl := split_len (Txt.lower z)
    refine lc_list (K := K) (a := p) (xs := (Txt.split (Txt.lower z) bl1).map V.str) (fun i H' => Same H H' ∧ H' p = some (.lst ((Txt.split (Txt.lower z) bl1).map V.str)) ∧ H' D = some (.lst ((((Txt.split (Txt.lower z) bl1).take i).filter (fun w => !decide (V.str w = V.str (Str.ofString "")))).map V.str))) ⟨sm1.trans (same_upd nD), by rw [upd_ne pD, upd_same], upd_same⟩ (fun i H' _ h => SqL.of h.2.1) ?_ ?_
    · rintro i x H1 hx ⟨sm, hp, hD⟩
      rw [List.getElem?_map] at hx
      obtain ⟨v, hv, rfl⟩ := Option.map_eq_some_iff.mp hx
      have e1 : (Txt.split (Txt.lower z) bl1).take (i + 1) = (Txt.split (Txt.lower z) bl1).take i ++ [v] := by rw [List.take_add_one, hv]; rfl
      refine ⟨rfl, ?_⟩
      refine ⟨_, rfl, rfl, _, rfl, ite2 (fun e => ?_) (fun e => ?_)⟩
      · refine ⟨_, rfl, _, hD, ?_, Same.grow sm nD0, ?_, ?_⟩
        · rw [List.length_map]
          have h1 := List.length_filter_le (fun w : Str => !decide (V.str w = V.str (Str.ofString ""))) ((Txt.split (Txt.lower z) bl1).take i)
          have h3 : i < (Txt.split (Txt.lower z) bl1).length := (List.getElem?_eq_some_iff.mp hv).1
          have h5 : ((Txt.split (Txt.lower z) bl1).take i).length = min i (Txt.split (Txt.lower z) bl1).length := List.length_take
          omega
        · rw [upd_ne pD]
          exact hp
        · rw [upd_same, e1, List.filter_append, List.map_append, List.filter_cons_of_pos (p := fun w : Str => !decide (V.str w = V.str (Str.ofString ""))) e]
          rfl
      · refine ⟨sm, hp, ?_⟩
        rw [hD, e1, List.filter_append, List.filter_cons_of_neg (p := fun w : Str => !decide (V.str w = V.str (Str.ofString ""))) e, List.filter_nil, List.append_nil]
    · rintro H1 ⟨sm, hp, hD⟩
      generalize hw : cw z = ws at q
      have hD' : H1 D = some (.lst (ws.map V.str)) := by
        rw [hD, List.length_map, List.take_length, law_words hz.2, hw]
      clear hD hp
      refine ⟨_, rfl, 5, rfl, D, _, rfl, SqL.of hD', fun p2 np2 => ?_⟩
      rw [cut5]
      have smG : Same H1 (upd H1 p2 (.lst ((ws.map V.str).take 5))) := same_upd np2
      have eG : (upd H1 p2 (.lst ((ws.map V.str).take 5))) p2 = some (.lst ((ws.map V.str).take 5)) := upd_same
      refine ⟨p2, _, rfl, SqL.of eG, ?_⟩
      generalize upd H1 p2 (.lst ((ws.map V.str).take 5)) = G at smG eG ⊢
      have hDG := smG _ _ hD'
      have smHG : Same H G := sm.trans smG
      have hwl : ws.length ≤ 10001 := by
        have h2 := split_len z
        have h3 : ws.length ≤ (Txt.split z bl1).length := by
          rw [← hw]
          unfold cw
          rw [List.length_map]
          exact List.length_filter_le _ _
        omega
      have dpi : ∀ (H' : Hp) (i : Nat), fault ws = some i → Same H H' → Q (.int (i : Int)) H' := fun H' i hi sm' => by
        refine q H' _ sm' ?_
        unfold res
        rw [hi]
        exact .int _
      have l5 : ((ws.map V.str).take 5).length = min 5 ws.length := by rw [List.length_take, List.length_map]
      refine for_it walk_enum (fun i σ H' => (∃ y2 y3 y4 y5 y6 y7, σ = [some (.str z), some (.ref D), y2, y3, y4, y5, y6, y7]) ∧ Same G H' ∧ ∀ (j : Nat) (v : Str), j < i → ws[j]? = some v → okAt j v = true) ⟨⟨_, _, _, _, _, _, rfl⟩, Same.refl _, fun _ _ h => absurd h (Nat.not_lt_zero _)⟩ (fun i σ H' _ h => SqL.of (h.2.1 _ _ eG)) ?_ ?_
      · rintro i x σ H2 H3 hi ⟨⟨y2, y3, y4, y5, y6, y7, rfl⟩, sm2, hj⟩ ⟨U, v1, v2, rfl, nU, rfl, e1, e2⟩
        cases e1
        rw [l5] at hi
        have hi5 : i < 5 := by omega
        have e2' : ((ws.map V.str).take 5)[i]? = some v2 := e2
        rw [List.getElem?_take_of_lt hi5, List.getElem?_map] at e2'
        obtain ⟨v, hv, rfl⟩ := Option.map_eq_some_iff.mp e2'
        have hvl := (cw_part hz (by rw [hw]; exact List.mem_of_getElem? hv)).1
        have hvs : v.length ≤ sizeLine := by omega
        refine ⟨U, _, rfl, SqT.of upd_same, rfl, _, _, rfl, _, _, rfl, rfl, ?_⟩
        refine ⟨_, rfl, v, rfl, by omega, fun H4 sm4 => ?_⟩
        have smA : Same G H4 := sm2.trans ((same_upd nU).trans sm4)
        have d1 : (1 : Int) ≤ (v.length : Int) ↔ 1 ≤ v.length := by omega
        have d2 : (v.length : Int) ≤ 8 ↔ v.length ≤ 8 := by omega
        refine ⟨_, rfl, v, rfl, hvs, _, _, rfl, rfl, _, rfl, ite2 (fun c1 => ?g1) (fun c1 => ?g2)⟩
        case' g2 =>
          have b2eq : isNm v = false := by
            unfold isNm
            rw [decide_eq_false (fun c => c1 (decide_eq_true (d1.mpr c.1)))]
            rfl
          refine ⟨_, rfl, iteF ?_⟩
        case' g1 =>
          have h1 : 1 ≤ v.length := d1.mp (of_decide_eq_true c1)
          refine ⟨_, _, rfl, rfl, _, rfl, ite2 (fun c2 => ?g11) (fun c2 => ?g12)⟩
          case' g12 =>
            have b2eq : isNm v = false := by
              unfold isNm
              rw [decide_eq_false (fun c => c2 (decide_eq_true (d2.mpr c.2)))]
              rfl
          case' g11 =>
            have h2 : v.length ≤ 8 := d2.mp (of_decide_eq_true c2)
            have b2eq : isNm v = ((tl v).map (fun c => decide (97 ≤ c ∧ c ≤ 122))).all id := by
              unfold isNm
              rw [decide_eq_true ⟨h1, h2⟩, Bool.true_and, List.all_map]
              rfl
            refine ⟨_, rfl, v, rfl, fun D2 nD2 => ?_⟩
            refine lc_it walk_str (fun i H' => Same H4 H' ∧ H' D2 = some (.lst (((tl v).take i).map (fun c => V.bl (decide (97 ≤ c ∧ c ≤ 122)))))) ⟨same_upd nD2, upd_same⟩ (fun _ _ _ _ => trivial) ?_ ?_
            · rintro i v3 H6 H7 hi3 ⟨sm6, hD6⟩ ⟨rfl, c, hc, rfl⟩
              have hc' : (tl v)[i]? = some c := by rw [← hc]; exact Array.getElem?_toList
              refine ⟨rfl, yesI ?_⟩
              refine ⟨_, rfl, c, _, rfl, rfl, _, hD6, ?_, Same.grow sm6 nD2, ?_⟩
              · rw [List.length_map]
                exact Nat.lt_of_le_of_lt (List.length_take_le _ _) (Nat.lt_of_lt_of_le hi3 hvs)
              · rw [upd_same, List.take_add_one, hc', List.map_append, in_letters]
                rfl
            rintro H6 ⟨sm6, hD6⟩
            replace smA := smA.trans sm6
            refine ⟨D2, (tl v).map (fun c => decide (97 ≤ c ∧ c ≤ 122)), rfl, SqL.of ?_, ?_⟩
            · rw [hD6, List.take_of_length_le (by rw [Array.length_toList]; exact Nat.le_refl _), List.map_map]
              rfl
        all_goals
          refine ⟨_, rfl, (by show 6 ≤ sizeLine; decide), fun t nt => ?_⟩
          replace smA := smA.trans (same_upd (o := .tup (kinds.map V.str)) nt)
          refine ⟨t, _, rfl, .inr (SqT.of (xs := kinds.map V.str) upd_same), rfl, flat_str _, ?_⟩
          refine ⟨_, rfl, rfl, _, rfl, _, rfl, rfl, ?_⟩
          cases hpo : plainOk v with
          | false =>
            have b4eq : pump4 v = false := by unfold pump4; rw [hpo]; rfl
            have epv : plainV v = .non := by unfold plainV; rw [hpo]; rfl
            rw [epv]
            refine ⟨_, rfl, rfl, _, rfl, iteF ?_⟩
            refine ⟨(by show 5 ≤ sizeLine; decide), fun l nl => ?_⟩
            refine ⟨_, rfl, _, rfl, l, _, _, _, rfl, rfl, SqL.of upd_same, atI_of (by omega) (by rw [Int.toNat_natCast]; exact good5 (inV_str v kinds) b2eq b4eq hi5), _, rfl, ?_⟩
            cases hok : okAt i v with
            | true =>
              refine iteF ?_
              refine ⟨⟨_, _, _, _, _, _, rfl⟩, smA.trans (same_upd nl), fun j u hlt hu => ?_⟩
              by_cases c : j < i
              · exact hj j u c hu
              · have : j = i := by omega
                subst this
                rw [hv] at hu
                cases hu
                exact hok
            | false =>
              refine iteT ?_
              have hb := bad_at ws 0 i v (fun j u hlt hu => by rw [Nat.zero_add]; exact hj j u hlt hu) hv (by rw [Nat.zero_add]; exact hok)
              rw [Nat.zero_add] at hb
              exact ⟨_, rfl, dpi _ i (fault_bad hb) (smHG.trans (smA.trans (same_upd nl)))⟩
          | true =>
            have epv : plainV v = .int ((dv (tl v) 0 : Nat) : Int) := by unfold plainV; rw [hpo]; rfl
            rw [epv]
            refine ⟨_, rfl, rfl, _, rfl, iteT ?_⟩
            refine ⟨_, rfl, _, _, rfl, rfl, _, rfl, ite2 (fun f1 => ?_) (fun f1 => ?_)⟩
            case' refine_1 =>
              have b4eq : pump4 v = decide (((dv (tl v) 0 : Nat) : Int) ≤ 20) := by
                unfold pump4
                rw [hpo, Bool.true_and]
                have h1 : (1 : Int) ≤ ((dv (tl v) 0 : Nat) : Int) := of_decide_eq_true f1
                exact decide_eq_decide.mpr ⟨fun h => by omega, fun h => ⟨by omega, by omega⟩⟩
              refine ⟨_, _, rfl, rfl, ?_⟩
            case' refine_2 =>
              have b4eq : pump4 v = false := by
                unfold pump4
                rw [hpo, Bool.true_and]
                exact decide_eq_false fun h => f1 (decide_eq_true (by omega))
            all_goals
            refine ⟨(by show 5 ≤ sizeLine; decide), fun l nl => ?_⟩
            refine ⟨_, rfl, _, rfl, l, _, _, _, rfl, rfl, SqL.of upd_same, atI_of (by omega) (by rw [Int.toNat_natCast]; exact good5 (inV_str v kinds) b2eq b4eq hi5), _, rfl, ?_⟩
            cases hok : okAt i v with
            | true =>
              refine iteF ?_
              refine ⟨⟨_, _, _, _, _, _, rfl⟩, smA.trans (same_upd nl), fun j u hlt hu => ?_⟩
              by_cases c : j < i
              · exact hj j u c hu
              · have : j = i := by omega
                subst this
                rw [hv] at hu
                cases hu
                exact hok
            | false =>
              refine iteT ?_
              have hb := bad_at ws 0 i v (fun j u hlt hu => by rw [Nat.zero_add]; exact hj j u hlt hu) hv (by rw [Nat.zero_add]; exact hok)
              rw [Nat.zero_add] at hb
              exact ⟨_, rfl, dpi _ i (fault_bad hb) (smHG.trans (smA.trans (same_upd nl)))⟩
      · rintro σ H2 ⟨⟨y2, y3, y4, y5, y6, y7, rfl⟩, sm2, hj⟩
        rw [l5] at hj
        have hD2 : H2 D = some (.lst (ws.map V.str)) := sm2 _ _ hDG
        have smH : Same H H2 := smHG.trans sm2
        refine ⟨_, rfl, D, _, rfl, .inl (SqL.of hD2), _, _, rfl, rfl, _, rfl, ?_⟩
        rw [List.length_map]
        by_cases c5 : 5 < ws.length
        · refine iteT' (decide_eq_true (by show (5 : Int) < (ws.length : Int); omega)) ?_
          have hv5 : ws[5]? = some ws[5] := List.getElem?_eq_getElem c5
          have hb := bad_at ws 0 5 ws[5] (fun j u hlt hu => by rw [Nat.zero_add]; exact hj j u (by omega) hu) hv5 rfl
          exact dpi _ 5 (fault_bad hb) smH
        refine iteF' (decide_eq_false (by show ¬ (5 : Int) < (ws.length : Int); omega)) ?_
        have hb : bad 0 ws = none := bad_none ws 0 fun i v hv => by
          rw [Nat.zero_add]
          have := (List.getElem?_eq_some_iff.mp hv).1
          exact hj i v (by omega) hv
        refine ⟨_, rfl, D, _, rfl, .inl (SqL.of hD2), (by show 2 ≤ sizeLine; decide), fun t nt => ?_⟩
        have hD3 : (upd H2 t (.tup [.int 3, .int 5])) D = some (.lst (ws.map V.str)) := same_upd nt _ _ hD2
        have smH3 : Same H (upd H2 t (.tup [.int 3, .int 5])) := smH.trans (same_upd nt)
        have eT : (upd H2 t (.tup [.int 3, .int 5])) t = some (.tup [.int 3, .int 5]) := upd_same
        refine ⟨t, _, rfl, .inr (SqT.of eT), rfl, rfl, _, rfl, ?_⟩
        generalize upd H2 t (.tup [.int 3, .int 5]) = H3 at hD3 smH3 eT ⊢
        by_cases cl : ws.length = 3 ∨ ws.length = 5
        · have hg := good_of hb cl
          have hf := fault_none hb cl
          have er : res ws = .tuple (tdat ws) := by
            unfold res
            rw [hf]
          cases hg with
          | @three k pl hk hp =>
            refine iteT' (by show inV (V.int 3) [.int 3, .int 5] = true; decide +kernel) ?_
            refine ⟨_, rfl, D, _, 0, _, rfl, rfl, SqL.of hD3, atI_nat (j := 0) rfl, _, rfl, D, _, 2, _, rfl, rfl, SqL.of hD3, atI_nat (j := 2) rfl, _, rfl, D, _, rfl, .inl (SqL.of hD3), rfl, _, rfl, iteF' (by show decide (V.int 3 = V.int 5) = false; decide) ?_⟩
            refine ⟨(by show 3 ≤ sizeLine; decide), fun t2 nt2 => ?_⟩
            refine q _ _ (smH3.trans (same_upd nt2)) ?_
            rw [er]
            exact told_dp (.three hk hp) upd_same
          | @five k pl n hk hp hn =>
            obtain ⟨f1, f2, f3, f4⟩ := pumps_facts n hn
            refine iteT' (by show inV (V.int 5) [.int 3, .int 5] = true; decide +kernel) ?_
            refine ⟨_, rfl, D, _, 0, _, rfl, rfl, SqL.of hD3, atI_nat (j := 0) rfl, _, rfl, D, _, 2, _, rfl, rfl, SqL.of hD3, atI_nat (j := 2) rfl, _, rfl, D, _, rfl, .inl (SqL.of hD3), rfl, _, rfl, iteT' (by show decide (V.int 5 = V.int 5) = true; decide) ?_⟩
            refine ⟨_, rfl, D, _, 4, _, rfl, rfl, SqL.of hD3, atI_nat (j := 4) rfl, _, rfl, by omega, fun H4 sm4 => ?_⟩
            rw [plain_pump hn]
            refine ⟨(by show 3 ≤ sizeLine; decide), fun t2 nt2 => ?_⟩
            refine q _ _ (smH3.trans (sm4.trans (same_upd nt2))) ?_
            rw [er]
            refine told_dp (.five hk hp hn) ?_
            rw [upd_same]
            show some (HO.tup [.str k, .str pl, .int ((1 + n : Nat) : Int)]) = some (HO.tup [.str k, .str pl, .int ((intText? (numS (1 + n))).getD 0)])
            rw [f1]
            rfl
        · refine iteF' ?_ ?_
          · rw [List.length_map]
            show (inV (V.int (ws.length : Int)) [.int 3, .int 5]) = false
            show (((3 : Int) == (ws.length : Int)) || (((5 : Int) == (ws.length : Int)) || false)) = false
            rw [beq_eq_false_iff_ne.mpr (by omega), beq_eq_false_iff_ne.mpr (by omega)]
            rfl
          · refine ⟨_, rfl, D, _, rfl, .inl (SqL.of hD3), ?_⟩
            rw [List.length_map]
            exact dpi _ _ (fault_len hb (fun e => cl (.inl e)) (fun e => cl (.inr e))) smH3
end
end My

set_option Elab.async false
set_option linter.all false
set_option maxRecDepth 100000
set_option maxHeartbeats 4000000
namespace My
open PySem PySem.Spec PyProof.Rows L2 TL RZ
/-! ### rows of words by their weight -/
def wt (ys : List Str) : Nat := (ys.map (·.length)).sum + ys.length
theorem wt_nil : wt [] = 0 := rfl
theorem wt_cons (y : Str) (ys : List Str) : wt (y :: ys) = y.length + 1 + wt ys := by
  unfold wt
  rw [List.map_cons, List.sum_cons, List.length_cons]
  omega
theorem wt_app : ∀ (xs ys : List Str), wt (xs ++ ys) = wt xs + wt ys
  | [], ys => by rw [List.nil_append, wt_nil, Nat.zero_add]
  | x :: xs, ys => by rw [List.cons_append, wt_cons, wt_cons, wt_app xs ys]; omega
theorem wt_cut (ys : List Str) (k : Nat) : wt (ys.take k) + wt (ys.drop k) = wt ys := by
  rw [← wt_app, List.take_append_drop]
theorem wt_mem : ∀ {ys : List Str} {y : Str}, y ∈ ys → y.length + 1 ≤ wt ys
  | x :: xs, y, h => by
    rw [wt_cons]
    rcases List.mem_cons.mp h with rfl | h
    · omega
    · have := wt_mem h
      omega
def sumL (l : List (List Nat)) : Nat := (l.map List.length).sum
theorem spl_wt : ∀ (l acc : List Nat), sumL (spl [32] 0 acc l) + (spl [32] 0 acc l).length = acc.length + l.length + 1
  | [], acc => by
    rw [spl_nil]
    unfold sumL
    simp
  | c :: r, acc => by
    rw [spl_step]
    by_cases h : c = 32
    · rw [if_pos h]
      have := spl_wt r []
      unfold sumL at this ⊢
      simp only [List.map_cons, List.sum_cons, List.length_cons, List.length_nil] at this ⊢
      omega
    · rw [if_neg h]
      have := spl_wt r (acc ++ [c])
      simp only [List.length_append, List.length_cons, List.length_nil] at this ⊢
      omega
theorem wt_split (z : Str) : wt (Txt.split z bl1) = z.length + 1 := by
  have h := spl_wt (tl z) []
  rw [← split_tl] at h
  unfold sumL at h
  rw [List.map_map, List.length_map, ← len_tl, List.length_nil] at h
  unfold wt
  have e : (Txt.split z bl1).map (·.length) = (Txt.split z bl1).map (List.length ∘ tl) := List.map_congr_left fun y _ => len_tl y
  rw [e]
  omega
theorem split_ne (z : Str) : 0 < (Txt.split z bl1).length := by
  have h : ∀ (l acc : List Nat), 0 < (spl [32] 0 acc l).length := by
    intro l
    induction l with
    | nil => intro acc; rw [spl_nil]; exact Nat.succ_pos _
    | cons c r ih =>
      intro acc
      rw [spl_step]
      split
      · exact Nat.succ_pos _
      · exact ih _
  have := h (tl z) []
  rw [← split_tl, List.length_map] at this
  exact this
theorem joinL_wt : ∀ (ps : List (List Nat)), (joinL [32] ps).length ≤ sumL ps + ps.length
  | [] => Nat.zero_le _
  | [p] => by
    show p.length ≤ _
    unfold sumL
    simp
  | p :: q :: r => by
    have h2 := joinL_wt (q :: r)
    show (p ++ ([32] ++ joinL [32] (q :: r))).length ≤ _
    unfold sumL at h2 ⊢
    simp only [List.length_append, List.map_cons, List.sum_cons, List.length_cons, List.length_nil] at h2 ⊢
    omega
def AscL (n : Nat) (ys : List Str) : Prop := wt ys ≤ n ∧ ∀ y ∈ ys, ∀ c ∈ tl y, c < 128
theorem asc_joinL {n : Nat} {ys : List Str} (h : AscL n ys) : Asc n (Txt.join bl1 ys) := by
  have e : tl (Txt.join bl1 ys) = joinL [32] (ys.map tl) := by rw [join_eq, tl_join, tl_bl1]
  refine ⟨?_, fun c hc => ?_⟩
  · have h1 := joinL_wt (ys.map tl)
    have h2 : sumL (ys.map tl) = (ys.map (·.length)).sum := by
      unfold sumL
      rw [List.map_map]
      exact congrArg List.sum (List.map_congr_left fun y _ => (len_tl y).symm)
    rw [← e, ← len_tl, List.length_map, h2] at h1
    have h3 := h.1
    unfold wt at h3
    omega
  · rw [e] at hc
    rcases joinL_mem hc with m | ⟨p, hp, m⟩
    · have := List.mem_singleton.mp m
      omega
    · obtain ⟨w, hw, rfl⟩ := List.mem_map.mp hp
      exact h.2 w hw c m
theorem AscL.app {a b : Nat} {xs ys : List Str} (hx : AscL a xs) (hy : AscL b ys) : AscL (a + b) (xs ++ ys) := by
  refine ⟨by rw [wt_app]; exact Nat.add_le_add hx.1 hy.1, fun y h => ?_⟩
  rcases List.mem_append.mp h with h | h
  · exact hx.2 y h
  · exact hy.2 y h
theorem AscL.mono {a b : Nat} {xs : List Str} (h : AscL a xs) (hab : a ≤ b) : AscL b xs := ⟨Nat.le_trans h.1 hab, h.2⟩
theorem cut_take (ys : List Str) {d : Int} (h : 0 ≤ d) : cutV (ys.map V.str) none (some d) = (ys.take d.toNat).map V.str := by
  obtain ⟨k, rfl⟩ : ∃ k : Nat, d = k := ⟨d.toNat, (Int.toNat_of_nonneg h).symm⟩
  unfold cutV
  rw [HT.sIx_none, HT.sIx_nat, List.drop_zero, Nat.sub_zero, Int.toNat_natCast, List.map_take]
  by_cases c : k ≤ (ys.map V.str).length
  · rw [Nat.min_eq_left c]
  · rw [Nat.min_eq_right (by omega), List.take_of_length_le (Nat.le_refl _), List.take_of_length_le (by omega)]
theorem cut_drop (ys : List Str) {d : Int} (h : 0 ≤ d) : cutV (ys.map V.str) (some d) none = (ys.drop d.toNat).map V.str := by
  obtain ⟨k, rfl⟩ : ∃ k : Nat, d = k := ⟨d.toNat, (Int.toNat_of_nonneg h).symm⟩
  unfold cutV
  rw [HT.sIx_none, HT.sIx_nat, Int.toNat_natCast, List.map_drop]
  by_cases c : k ≤ (ys.map V.str).length
  · rw [Nat.min_eq_left c, List.take_of_length_le (by rw [List.length_drop]; exact Nat.le_refl _)]
  · rw [Nat.min_eq_right (by omega), List.drop_of_length_le (Nat.le_refl _), List.drop_of_length_le (by omega), List.take_nil]
theorem Asc.cut {n : Nat} {x : Str} (h : Asc n x) (lo hi : Option Int) : Asc n (cutS x lo hi) :=
  ⟨Nat.le_trans (cutS_length x lo hi) h.1, fun c hc => h.2 c (List.mem_of_mem_drop (List.mem_of_mem_take hc))⟩
theorem mul01 {z : Str} {n : Int} (h : n = 0 ∨ n = 1) {m : Nat} (hz : Asc m z) : MulOk z n ∧ Asc m (Txt.mul z n) := by
  rcases h with rfl | rfl
  · refine ⟨⟨by decide, fun h => absurd (by decide) h, fun h => absurd (by decide) h⟩, ?_⟩
    show Asc m Str.empty
    exact ⟨Nat.zero_le _, fun c hc => nomatch hc⟩
  · refine ⟨⟨by decide, fun _ h => absurd h (by simp), fun _ h => absurd h (by simp)⟩, ?_⟩
    have e : Txt.mul z 1 = z := by
      unfold Txt.mul
      rw [if_neg (by decide), if_pos (by simp)]
    rw [e]
    exact hz
theorem pickAsc {n : Nat} {ys : List Str} (h : ∀ y ∈ ys, Asc n y) {d : Int} (h0 : 0 ≤ d) (h1 : d.toNat < ys.length) : ∃ v : Str, atI (ys.map V.str) d = some (.str v) ∧ Asc n v :=
  ⟨ys[d.toNat], atI_of h0 (by rw [List.getElem?_map, List.getElem?_eq_getElem h1]; rfl), h _ (List.getElem_mem h1)⟩
theorem litAsc {n : Nat} {x : Str} (h : (decide (x.length ≤ n) && (tl x).all fun c => decide (c < 128)) = true) : Asc n x := by
  rw [Bool.and_eq_true, decide_eq_true_eq, List.all_eq_true] at h
  exact ⟨h.1, fun c hc => of_decide_eq_true (h.2 c hc)⟩
abbrev sg1 : Str := " !\"#$&'()*+,-./0123456789:;<=>?@ABCDEFGHIJKLMNOPQRSTUVWXYZ"
abbrev sg2 : Str := "[\\]^_`abcdefghijklmnopqrstuvwxyz{|}~"
theorem sg_facts : Asc 100 (sg1 ++ sg2) ∧ 0 < (sg1 ++ sg2).length := ⟨litAsc (by decide +kernel), by decide +kernel⟩
def odd13 : List Str := ["make", "at", "0", "20", "21", "05", "6", "car", "", "abcdefghi", "1_0", "x", "100000000000"]
theorem odd_asc : ∀ y ∈ odd13, Asc 12 y := fun y hy => litAsc ((by decide +kernel : ∀ y ∈ odd13, (decide (y.length ≤ 12) && (tl y).all fun c => decide (c < 128)) = true) y hy)
section
variable {P : Program} {w : World} {K : PySem.W.Frag} {mg : Str → Option Value} {base : Heap}
abbrev s_law_spoilt : Stmt := topS 29
abbrev N_law_spoilt : List Str := ["_law_bag_here", "_law_text_here", "_law_signs", "_law_way", "_law_at", "_law_sign", "_law_words_here", "_law_place", "_law_odd", "_law_word", "_law_middle"]
theorem sc_law_spoilt : FnScope N_law_spoilt ["_law_bag_here", "_law_text_here"] (defScope s_law_spoilt) := ⟨rfl, rfl, rfl, by decide +kernel, rfl, by decide +kernel, by decide +kernel⟩
def sp_law_spoilt : Sp := fun vs H Q _ => ∃ (p : Addr) (z : Str) (n : Nat), vs = [.ref p, .str z] ∧ Bag H p ∧ Asc n z ∧ n ≤ 4000 ∧ ∀ H' z', Sx p H H' → Bag H' p → Asc (2 * n + 30) z' → Q (.str z') H'
theorem ok_law_spoilt {f : Addr} {fd : FuncData} (F : Fun K "_law_spoilt" "_law_spoilt" s_law_spoilt f fd) (T : Txt mg) (C_law_take : Cal P w K mg base 1 "_law_take" sp_law_take) : FnOk P w K mg base CX0 2 f fd ["_law_bag_here", "_law_text_here"] sp_law_spoilt := by
  refine F.ok sc_law_spoilt (fun vs H Q E h => ?_) (fun cdv A outer s H vs Q E hr h => ?_)
  · obtain ⟨p, z, n, rfl, _⟩ := h
    rfl
  · obtain ⟨p, z, n, rfl, hB, hz, hn, q⟩ := h
    have hs : 100000 ≤ sizeLine := by decide
    have hz1 := hz.1
    refine ⟨_, (pss_cons (ps_set (i := 2) sc_law_spoilt.nd rfl (.inl rfl) pe_str)
      (pss_cons (ps_set (i := 2) sc_law_spoilt.nd rfl (.inl rfl) (pe_op op_add_str (pv 2) pe_str))
      (pss_cons (ps_par (i := 3) (j := 4) (by rfl) sc_law_spoilt.nd rfl rfl (by decide) rfl rfl (pa_cons (pe_cal C_law_take hr (by decide) (by rfl) (pa_cons (pv 0) (pa_cons pe_int pa_nil))) (pa_cons (pe_cal C_law_take hr (by decide) (by rfl) (pa_cons (pv 0) (pa_cons (pe_op op_add (pe_callB call_len_str (by rfl) T.z_len (by decide +kernel) (pa_cons (pv 1) pa_nil)) pe_int) pa_nil))) pa_nil)) (by rfl))
      (pss_cons (ps_set (i := 5) sc_law_spoilt.nd rfl (.inl rfl) (pe_ix ix_str (pv 2) (pe_cal C_law_take hr (by decide) (by rfl) (pa_cons (pv 0) (pa_cons (pe_callB call_len_str (by rfl) T.z_len (by decide +kernel) (pa_cons (pv 2) pa_nil)) pa_nil))) (fun _ _ => rfl)))
      (pss_cons (ps_set (i := 6) sc_law_spoilt.nd rfl (.inl rfl) (pe_split (pv 1) pe_str))
      (pss_cons (ps_set (i := 7) sc_law_spoilt.nd rfl (.inl rfl) (pe_cal C_law_take hr (by decide) (by rfl) (pa_cons (pv 0) (pa_cons (pe_callB call_len_seq (by rfl) T.z_len (by decide +kernel) (pa_cons (pv 6) pa_nil)) pa_nil))))
      (pss_cons (ps_set (i := 8) sc_law_spoilt.nd rfl (.inl rfl) (pe_lst (pa_cons pe_str (pa_cons pe_str (pa_cons pe_str (pa_cons pe_str (pa_cons pe_str (pa_cons pe_str (pa_cons pe_str (pa_cons pe_str (pa_cons pe_str (pa_cons pe_str (pa_cons pe_str (pa_cons pe_str (pa_cons pe_str pa_nil)))))))))))))))
      (pss_cons (ps_set (i := 9) sc_law_spoilt.nd rfl (.inl rfl) (pe_ix ix_list (pv 8) (pe_cal C_law_take hr (by decide) (by rfl) (pa_cons (pv 0) (pa_cons pe_int pa_nil))) (fun _ _ => rfl)))
      (pss_cons (ps_if (pt_cmpR op_lt (pv 3) pe_int (nomark _)) (pss_cons (ps_set (i := 10) sc_law_spoilt.nd rfl (.inl rfl) (pe_op op_mulS (pv 5) (pe_callTy call_int1 (by rfl) T.z_int (by decide +kernel) (pa_cons (pe_cmpR op_lt (pv 3) pe_int (nomark _)) pa_nil))))
        (pss_one (ps_ret (pe_op op_add_str (pe_op op_add_str (pe_slice sl_str (pv 1) po_none (po_some (pv 4))) (pv 10)) (pe_slice sl_str (pv 1) (po_some (pe_op op_add (pv 4) (pe_callTy call_int1 (by rfl) T.z_int (by decide +kernel) (pa_cons (pe_cmpR op_gt (pv 3) pe_int (nomark _)) pa_nil)))) po_none))))) pss_nil)
      (pss_cons (ps_if (pt_cmpR op_eq (pv 3) pe_int (nomark _)) (pss_one (ps_ret (pe_join pe_str (pe_op op_cat (pe_slice sl_list (pv 6) po_none (po_some (pv 7))) (pe_slice sl_list (pv 6) (po_some (pe_op op_add (pv 7) pe_int)) po_none))))) pss_nil)
      (pss_cons (ps_if (pt_cmpR op_eq (pv 3) pe_int (nomark _)) (pss_one (ps_ret (pe_join pe_str (pe_op op_cat (pe_op op_cat (pe_slice sl_list (pv 6) po_none (po_some (pv 7))) (pe_lst (pa_cons (pv 9) pa_nil))) (pe_slice sl_list (pv 6) (po_some (pv 7)) po_none))))) pss_nil)
      (pss_cons (ps_if (pt_cmpR op_eq (pv 3) pe_int (nomark _)) (pss_cons (ps_expr (pe_bm PySem.F.plainAttrs_list PySem.F.slot_list_insert PySem.F.type_list_insert mt_insert (pv 6) (pa_cons (pv 7) (pa_cons (pe_ix ix_list (pv 6) (pv 7) (fun _ _ => rfl)) pa_nil))))
        (pss_one (ps_ret (pe_join pe_str (pv 6))))) pss_nil)
      (pss_one (ps_ret (pe_join pe_str (pe_op op_cat (pe_op op_cat (pe_slice sl_list (pv 6) po_none (po_some (pv 7))) (pe_lst (pa_cons (pv 9) pa_nil))) (pe_slice sl_list (pv 6) (po_some (pe_op op_add (pv 7) pe_int)) po_none))))))))))))))))), ?_⟩
    obtain ⟨sg, esg, sga, sgl⟩ : ∃ sg : Str, (Str.ofString " !\"#$&'()*+,-./0123456789:;<=>?@ABCDEFGHIJKLMNOPQRSTUVWXYZ" ++ Str.ofString "[\\]^_`abcdefghijklmnopqrstuvwxyz{|}~") = sg ∧ Asc 100 sg ∧ 0 < sg.length := ⟨_, rfl, sg_facts.1, sg_facts.2⟩
    have sga1 := sga.1
    refine ⟨_, rfl, _, _, rfl, rfl, ?_, ?_⟩
    · rw [← str_app, esg]
      omega
    rw [esg]
    refine ⟨_, rfl, p, 7, rfl, hB, by decide, by decide, fun way H1 a0 a1 hB1 k1 => ?_⟩
    refine ⟨_, rfl, _, rfl, z, rfl, by omega, _, _, rfl, rfl, p, _, rfl, hB1, by omega, by omega, fun at_ H2 b0 b1 hB2 k2 => ?_⟩
    refine ⟨_, _, rfl, ?_⟩
    refine ⟨_, rfl, _, rfl, _, rfl, sg, rfl, by omega, p, _, rfl, hB2, by omega, by omega, fun ds H3 c0 c1 hB3 k3 => ?_⟩
    obtain ⟨c, hc, hc8⟩ : ∃ c, atI sg.cps.toList ds = some c ∧ c < 128 := by
      have hl : ds.toNat < (tl sg).length := by rw [← len_tl]; omega
      exact ⟨(tl sg)[ds.toNat], atI_of' c0 (List.getElem?_eq_getElem hl), sga.2 _ (List.getElem_mem hl)⟩
    refine ⟨_, ds, c, rfl, rfl, by omega, hc, ?_⟩
    have one : Asc 1 (⟨#[c]⟩ : Str) := ⟨Nat.le_refl 1, fun d hd => by
      have : d = c := by simpa using hd
      omega⟩
    refine ⟨_, rfl, ⟨_, rfl⟩, z, bl1, rfl, rfl, rfl, by omega, fun l nl => ?_⟩
    have hwt := wt_split z
    have hne := split_ne z
    have hsl := split_len z
    generalize hys : Txt.split z bl1 = ys at hwt hne hsl ⊢
    have hasc : ∀ y ∈ ys, ∀ c ∈ tl y, c < 128 := fun y hy => part_asc hz.2 (by rw [hys]; exact hy)
    have hB4 := hB3.same (same_upd (o := .lst (ys.map V.str)) nl)
    have nlp : l ≠ p := hB3.ne nl
    have hlm : (ys.map V.str).length = ys.length := List.length_map ..
    refine ⟨_, rfl, _, rfl, l, _, rfl, .inl (SqL.of upd_same), p, _, rfl, hB4, by omega, by omega, fun pl H4 d0 d1 hB5 k4 => ?_⟩
    rw [hlm] at d1
    refine ⟨(by show 13 ≤ sizeLine; decide), fun lo nlo => ?_⟩
    refine ⟨_, rfl, _, rfl, p, 13, rfl, hB5.same (same_upd nlo), by decide, by decide, fun dw H5 e0 e1 hB6 k5 => ?_⟩
    obtain ⟨wd, awd, hwd⟩ := pickAsc odd_asc e0 (show dw.toNat < 13 by omega)
    refine ⟨lo, _, dw, _, rfl, rfl, SqL.of (xs := odd13.map V.str) (by rw [k5 lo (hB5.ne nlo)]; exact upd_same), awd, ?_⟩
    have x5 : Sx p H H5 := (Sx.of k1).trans ((Sx.of k2).trans ((Sx.of k3).trans ((Sx.same (same_upd nl)).trans ((Sx.of k4).trans ((Sx.same (same_upd nlo)).trans (Sx.of k5))))))
    have hl5 : H5 l = some (.lst (ys.map V.str)) := by
      have h4 : H4 l = some (.lst (ys.map V.str)) := by rw [k4 l nlp]; exact upd_same
      rw [k5 l nlp, upd_ne (ne_of_none h4 nlo)]
      exact h4
    have wd1 := hwd.1
    have fin : ∀ (H' : Hp) (zs : List Str), Same H5 H' → AscL (2 * n + 30) zs → Q (.str (Txt.join bl1 zs)) H' := fun H' zs sm h => q H' _ (x5.trans (Sx.same sm)) (hB6.same sm) (asc_joinL h)
    have ay : AscL (n + 1) ys := ⟨by omega, hasc⟩
    have at1 : ∀ k, AscL (wt (ys.take k)) (ys.take k) := fun k => ⟨Nat.le_refl _, fun y hy => hasc y (List.mem_of_mem_take hy)⟩
    have ad1 : ∀ k, AscL (wt (ys.drop k)) (ys.drop k) := fun k => ⟨Nat.le_refl _, fun y hy => hasc y (List.mem_of_mem_drop hy)⟩
    have aw : AscL 13 [wd] := ⟨by rw [wt_cons, wt_nil]; omega, fun y hy => by rw [List.mem_singleton.mp hy]; exact hwd.2⟩
    have cut1 : ∀ k, wt (ys.take k) + wt (ys.drop (k + 1)) ≤ n + 1 := fun k => by
      have h1 := wt_cut ys k
      have h2 := wt_cut (ys.drop k) 1
      rw [List.drop_drop] at h2
      omega
    have tl1 : ∀ k, (ys.take k).length ≤ ys.length := fun k => List.length_take_le' ..
    have dl1 : ∀ k, (ys.drop k).length ≤ ys.length := fun k => by rw [List.length_drop]; omega
    have bound : ∀ {m : Nat} {zs : List Str}, AscL m zs → m ≤ 100000 → (zs.map (·.length)).sum + zs.length * bl1.length ≤ 16777216 := fun {m zs} h hm => by
      have h1 := h.1
      unfold wt at h1
      have h2 : bl1.length = 1 := by decide +kernel
      rw [h2]
      omega
    have e1 : (pl + 1).toNat = pl.toNat + 1 := by omega
    refine ⟨_, rfl, _, _, rfl, rfl, _, rfl, ite2 (fun g1 => ?_) (fun g1 => ?_)⟩
    · obtain ⟨m1, hm1, hm2⟩ : ∃ m : Int, (if decide (way < 2) = true then (1 : Int) else 0) = m ∧ (m = 0 ∨ m = 1) := ⟨_, rfl, by split <;> simp⟩
      obtain ⟨ok1, am⟩ := mul01 hm2 one
      have am1 := am.1
      refine ⟨_, rfl, _, rfl, _, _, rfl, rfl, .inr ⟨_, rfl, _, _, rfl, rfl, ?_, ?_⟩⟩
      · rw [hm1]; exact ok1
      rw [hm1]
      have a2 := hz.cut none (some at_)
      have a21 := a2.1
      refine ⟨_, rfl, _, rfl, at_, rfl, z, rfl, by omega, _, rfl, _, _, rfl, rfl, by omega, ?_⟩
      refine ⟨_, rfl, _, rfl, _, rfl, _, _, rfl, rfl, .inr ⟨_, rfl, _, _, rfl, rfl, _, rfl, z, rfl, by omega, _, _, rfl, rfl, ?_, ?_⟩⟩
      · rw [str_app]
        have a3 := (hz.cut (some (at_ + if decide (0 < way) = true then 1 else 0)) none).1
        omega
      · exact q _ _ x5 hB6 (((a2.app am).app (hz.cut _ none)).mono (by omega))
    refine ⟨_, rfl, rfl, _, rfl, ite2 (fun g2 => ?_) (fun g2 => ?_)⟩
    · refine ⟨⟨_, rfl⟩, _, rfl, _, rfl, pl, rfl, l, _, rfl, SqL.of hl5, fun s1 ns1 => ?_⟩
      rw [cut_take ys d0]
      have hl6 := same_upd (o := .lst ((ys.take pl.toNat).map V.str)) ns1 _ _ hl5
      refine ⟨_, rfl, _, rfl, _, _, rfl, rfl, pl + 1, rfl, l, _, rfl, SqL.of hl6, fun s2 ns2 => ?_⟩
      rw [cut_drop ys (by omega), e1]
      refine ⟨s1, s2, _, _, rfl, rfl, same_upd ns2 _ _ upd_same, upd_same, ?_, fun r nr => ?_⟩
      · rw [List.length_map, List.length_map]
        have h1 := tl1 pl.toNat
        have h2 := dl1 (pl.toNat + 1)
        omega
      have az := (at1 pl.toNat).app (ad1 (pl.toNat + 1))
      refine ⟨_, r, ys.take pl.toNat ++ ys.drop (pl.toNat + 1), rfl, rfl, .inl (SqL.of (by rw [upd_same, List.map_append])), bound (az.mono (cut1 _)) (by omega), ?_⟩
      exact fin _ _ ((same_upd ns1).trans ((same_upd ns2).trans (same_upd nr))) (az.mono (by have := cut1 pl.toNat; omega))
    refine ⟨_, rfl, rfl, _, rfl, ite2 (fun g3 => ?_) (fun g3 => ?_)⟩
    · refine ⟨⟨_, rfl⟩, _, rfl, _, rfl, pl, rfl, l, _, rfl, SqL.of hl5, fun s1 ns1 => ?_⟩
      rw [cut_take ys d0]
      have hl6 := same_upd (o := .lst ((ys.take pl.toNat).map V.str)) ns1 _ _ hl5
      refine ⟨_, rfl, (by show 1 ≤ sizeLine; decide), fun s3 ns3 => ?_⟩
      have hl7 := same_upd (o := .lst [.str wd]) ns3 _ _ hl6
      refine ⟨s1, s3, _, _, rfl, rfl, same_upd ns3 _ _ upd_same, upd_same, ?_, fun s4 ns4 => ?_⟩
      · rw [List.length_map]
        have h1 := tl1 pl.toNat
        show (ys.take pl.toNat).length + 1 ≤ sizeLine
        omega
      have hl8 := same_upd (o := .lst ((ys.take pl.toNat).map V.str ++ [.str wd])) ns4 _ _ hl7
      refine ⟨_, rfl, _, rfl, pl, rfl, l, _, rfl, SqL.of hl8, fun s2 ns2 => ?_⟩
      rw [cut_drop ys d0]
      refine ⟨s4, s2, _, _, rfl, rfl, same_upd ns2 _ _ upd_same, upd_same, ?_, fun r nr => ?_⟩
      · rw [List.length_append, List.length_map, List.length_map]
        have h1 := tl1 pl.toNat
        have h2 := dl1 pl.toNat
        show (ys.take pl.toNat).length + 1 + _ ≤ sizeLine
        omega
      have az := ((at1 pl.toNat).app aw).app (ad1 pl.toNat)
      have hc2 := wt_cut ys pl.toNat
      refine ⟨_, r, ys.take pl.toNat ++ [wd] ++ ys.drop pl.toNat, rfl, rfl, .inl (SqL.of (by rw [upd_same, List.map_append, List.map_append]; rfl)), bound az (by omega), ?_⟩
      exact fin _ _ ((same_upd ns1).trans ((same_upd ns3).trans ((same_upd ns4).trans ((same_upd ns2).trans (same_upd nr))))) (az.mono (by omega))
    refine ⟨_, rfl, rfl, _, rfl, ite2 (fun g4 => ?_) (fun g4 => ?_)⟩
    · have hpl : pl.toNat < ys.length := by omega
      have hat : atI (ys.map V.str) pl = some (.str ys[pl.toNat]) := atI_of d0 (by rw [List.getElem?_map, List.getElem?_eq_getElem hpl]; rfl)
      have hm : ys[pl.toNat] ∈ ys := List.getElem_mem hpl
      refine ⟨_, rfl, .inl ⟨rfl, _, SqL.of hl5⟩, _, rfl, _, rfl, _, rfl, l, _, pl, _, rfl, rfl, SqL.of hl5, hat, l, _, pl, _, rfl, rfl, hl5, by omega, d0, by omega, ?_⟩
      have az := ((at1 pl.toNat).app (b := wt [ys[pl.toNat]]) (ys := [ys[pl.toNat]]) ⟨Nat.le_refl _, fun y hy => by rw [List.mem_singleton.mp hy]; exact hasc _ hm⟩).app (ad1 pl.toNat)
      have hc2 := wt_cut ys pl.toNat
      have hc3 := wt_mem hm
      have hc4 : wt [ys[pl.toNat]] = ys[pl.toNat].length + 1 := by rw [wt_cons, wt_nil]
      refine ⟨⟨_, rfl⟩, _, rfl, _, l, ys.take pl.toNat ++ [ys[pl.toNat]] ++ ys.drop pl.toNat, rfl, rfl, .inl (SqL.of (by rw [upd_same, List.map_append, List.map_append, List.map_take, List.map_drop]; rfl)), bound az (by omega), ?_⟩
      have hB7 : Bag (upd H5 l (.lst ((ys.map V.str).take pl.toNat ++ [.str ys[pl.toNat]] ++ (ys.map V.str).drop pl.toNat))) p := by
        obtain ⟨g, sd, e, r⟩ := hB6
        exact ⟨g, sd, by rw [upd_ne (fun z => nlp z.symm)]; exact e, r⟩
      refine q _ _ ?_ hB7 (asc_joinL (az.mono (by omega)))
      intro b o hb e
      have nb : b ≠ l := fun z => by
        have : H l = none := ((Sx.of k1).trans ((Sx.of k2).trans (Sx.of k3))).free hB3 nl
        rw [z, this] at e
        cases e
      rw [upd_ne nb]
      exact x5 b o hb e
    · refine ⟨⟨_, rfl⟩, _, rfl, _, rfl, pl, rfl, l, _, rfl, SqL.of hl5, fun s1 ns1 => ?_⟩
      rw [cut_take ys d0]
      have hl6 := same_upd (o := .lst ((ys.take pl.toNat).map V.str)) ns1 _ _ hl5
      refine ⟨_, rfl, (by show 1 ≤ sizeLine; decide), fun s3 ns3 => ?_⟩
      have hl7 := same_upd (o := .lst [.str wd]) ns3 _ _ hl6
      refine ⟨s1, s3, _, _, rfl, rfl, same_upd ns3 _ _ upd_same, upd_same, ?_, fun s4 ns4 => ?_⟩
      · rw [List.length_map]
        have h1 := tl1 pl.toNat
        show (ys.take pl.toNat).length + 1 ≤ sizeLine
        omega
      have hl8 := same_upd (o := .lst ((ys.take pl.toNat).map V.str ++ [.str wd])) ns4 _ _ hl7
      refine ⟨_, rfl, _, rfl, _, _, rfl, rfl, pl + 1, rfl, l, _, rfl, SqL.of hl8, fun s2 ns2 => ?_⟩
      rw [cut_drop ys (by omega), e1]
      refine ⟨s4, s2, _, _, rfl, rfl, same_upd ns2 _ _ upd_same, upd_same, ?_, fun r nr => ?_⟩
      · rw [List.length_append, List.length_map, List.length_map]
        have h1 := tl1 pl.toNat
        have h2 := dl1 (pl.toNat + 1)
        show (ys.take pl.toNat).length + 1 + _ ≤ sizeLine
        omega
      have az := ((at1 pl.toNat).app aw).app (ad1 (pl.toNat + 1))
      have hc2 := cut1 pl.toNat
      refine ⟨_, r, ys.take pl.toNat ++ [wd] ++ ys.drop (pl.toNat + 1), rfl, rfl, .inl (SqL.of (by rw [upd_same, List.map_append, List.map_append]; rfl)), bound az (by omega), ?_⟩
      exact fin _ _ ((same_upd ns1).trans ((same_upd ns3).trans ((same_upd ns4).trans ((same_upd ns2).trans (same_upd nr))))) (az.mono (by omega))
end
end My

set_option Elab.async false
set_option linter.all false
set_option maxRecDepth 100000
set_option maxHeartbeats 4000000
namespace My
open PySem PySem.Spec PyProof.Rows L2 TL RZ
def texts8 : List Str := ["", "   ", "car", "car at", "car at x make", "car at x make 3 now", "car at x 3", "x at car"]
theorem texts_asc : ∀ y ∈ texts8, Asc 10000 y := fun y hy => litAsc ((by decide +kernel : ∀ y ∈ texts8, (decide (y.length ≤ 10000) && (tl y).all fun c => decide (c < 128)) = true) y hy)
theorem pick_no {K : PySem.W.Frag} {H : Hp} {xs : List V} (h : ∀ x ∈ xs, NoStr K H x) {d : Int} (h0 : 0 ≤ d) (h1 : d.toNat < xs.length) : ∃ v, atI xs d = some v ∧ NoStr K H v :=
  ⟨xs[d.toNat], atI_of h0 (List.getElem?_eq_getElem h1), h _ (List.getElem_mem h1)⟩
section
variable {P : Program} {w : World} {K : PySem.W.Frag} {mg : Str → Option Value} {base : Heap}
abbrev s_law : Stmt := topS 30
abbrev N_law : List Str := ["_law_script", "_law_k", "_law_bag_here", "_law_text_here", "_law_turn", "_law_again", "_law_thing", "_law_texts"]
theorem sc_law : FnScope N_law ["_law_script"] (defScope s_law) := ⟨rfl, rfl, rfl, by decide +kernel, rfl, by decide +kernel, by decide +kernel⟩
def sp_law (K : PySem.W.Frag) : Sp := fun vs H Q _ => ∃ (a : Addr) (ns : List Int), vs = [.ref a] ∧ SqL K H a (ns.map V.int) ∧ ns.length ≤ 63 ∧ ∀ H', Q (.bl true) H'
theorem ok_law {f : Addr} {fd : FuncData} (F : Fun K "law" "law" s_law f fd) (T : Txt mg) (C_law_bag : Cal P w K mg base 1 "_law_bag" (sp_law_bag K)) (C_law_take : Cal P w K mg base 1 "_law_take" sp_law_take) (C_law_words : Cal P w K mg base 2 "_law_words" sp_law_words) (C_law_text : Cal P w K mg base 2 "_law_text" sp_law_text) (C_law_spoilt : Cal P w K mg base 2 "_law_spoilt" sp_law_spoilt)
    (C_law_told : Cal P w K mg base 4 "_law_told" (sp_law_told K)) (C_law_read : Cal P w K mg base 2 "_law_read" (sp_law_read K)) (C_law_like : Cal P w K mg base 3 "_law_like" (sp_law_like K 2)) : FnOk P w K mg base CX0 5 f fd ["_law_script"] (sp_law K) := by
  refine F.ok sc_law (fun vs H Q E h => ?_) (fun cdv A outer s H vs Q E hr h => ?_)
  · obtain ⟨a, ns, rfl, _⟩ := h
    rfl
  · obtain ⟨a, ns, rfl, hS, hns, q⟩ := h
    refine ⟨_, (pss_cons (ps_for PassesOwn.never rfl (pi_range1 (by rfl) T.z_range (pa_cons (pe_callB (call_max2 rfl) (by rfl) T.z_max (by decide +kernel) (pa_cons pe_int (pa_cons (pe_callB (call_min2 rfl) (by rfl) T.z_min (by decide +kernel) (pa_cons pe_int (pa_cons (pe_callB call_len_seq (by rfl) T.z_len (by decide +kernel) (pa_cons (pv 0) pa_nil)) pa_nil))) pa_nil))) pa_nil)) (pg_name (i := 1) sc_law.nd rfl (.inl rfl))
        (pss_cons (ps_set (i := 2) sc_law.nd rfl (.inl rfl) (pe_cal C_law_bag hr (by decide) (by rfl) (pa_cons (pv 0) (pa_cons (pv 1) pa_nil))))
        (pss_cons (ps_set (i := 3) sc_law.nd rfl (.inl rfl) (pe_cal C_law_text hr (by decide) (by rfl) (pa_cons (pv 2) (pa_cons (pe_cal C_law_words hr (by decide) (by rfl) (pa_cons (pv 2) pa_nil)) pa_nil))))
        (pss_cons (ps_for PassesOwn.never rfl (pi_range1 (by rfl) T.z_range (pa_cons pe_int pa_nil)) (pg_name (i := 4) sc_law.nd rfl (.inl rfl))
          (pss_cons (ps_set (i := 3) sc_law.nd rfl (.inl rfl) (pe_cal C_law_spoilt hr (by decide) (by rfl) (pa_cons (pv 2) (pa_cons (pv 3) pa_nil))))
          (pss_one (ps_for PassesOwn.never rfl (pi_range1 (by rfl) T.z_range (pa_cons pe_int pa_nil)) (pg_name (i := 5) sc_law.nd rfl (.inl rfl))
            (pss_one (ps_if (pt_not (pt_val (pe_cal C_law_like hr (by decide) (by rfl) (pa_cons (pe_cal C_law_told hr (by decide) (by rfl) (pa_cons (pv 3) pa_nil)) (pa_cons (pe_cal C_law_read hr (by decide) (by rfl) (pa_cons (pv 3) pa_nil)) pa_nil))))) (pss_one (ps_ret pe_bl)) pss_nil))))))
        (pss_cons (ps_set (i := 6) sc_law.nd rfl (.inl rfl) (pe_ix ix_list (pe_lst (pa_cons pe_non (pa_cons pe_int (pa_cons pe_bl (pa_cons (pe_lst pa_nil) (pa_cons (pe_lst (pa_cons pe_str (pa_cons pe_str (pa_cons pe_str pa_nil)))) (pa_cons (pe_tup (pa_cons pe_str pa_nil)) (pa_cons (pe_op op_pow pe_int pe_int) pa_nil)))))))) (pe_cal C_law_take hr (by decide) (by rfl) (pa_cons (pv 2) (pa_cons pe_int pa_nil))) (fun _ _ => rfl)))
        (pss_one (ps_if (pt_not (pt_val (pe_cal C_law_like hr (by decide) (by rfl) (pa_cons (pe_cal C_law_told hr (by decide) (by rfl) (pa_cons (pv 6) pa_nil)) (pa_cons (pe_un un_neg pe_int) pa_nil))))) (pss_one (ps_ret pe_bl)) pss_nil)))))))
      (pss_cons (ps_set (i := 7) sc_law.nd rfl (.inl rfl) (pe_lst (pa_cons pe_str (pa_cons pe_str (pa_cons pe_str (pa_cons pe_str (pa_cons pe_str (pa_cons pe_str (pa_cons pe_str (pa_cons pe_str pa_nil))))))))))
      (pss_one (ps_ret (pe_callB (cr_all (by rfl)) (by rfl) T.z_all (by decide +kernel) (pa_cons (pe_lc (own := [("_law_text_here", 3)]) (by rfl) sc_law.nd (pi_list (pv 7)) (blkOk_by (own := [("_law_text_here", 3)]) (N := N_law) (sc := defScope s_law) (by decide +kernel)) (fun _ _ _ _ _ => (pg_name (i := 3) sc_law.nd rfl (.inl rfl))) (fun _ _ _ _ _ => pts_nil) (fun _ _ _ _ _ => (pe_cal C_law_like hr (by decide) (by rfl) (pa_cons (pe_cal C_law_told hr (by decide) (by rfl) (pa_cons (pv 3) pa_nil)) (pa_cons (pe_cal C_law_read hr (by decide) (by rfl) (pa_cons (pv 3) pa_nil)) pa_nil))))) pa_nil)))))), ?_⟩
    have nN : ∃ N : Int, (if (if ((ns.map V.int).length : Int) < 16 then ((ns.map V.int).length : Int) else 16) > 6 then (if ((ns.map V.int).length : Int) < 16 then ((ns.map V.int).length : Int) else 16) else 6) = N ∧ 0 ≤ N ∧ N ≤ 60 := ⟨_, rfl, by split <;> (try split) <;> omega, by split <;> (try split) <;> omega⟩
    obtain ⟨N, eN, hN0, hN1⟩ := nN
    refine ⟨_, rfl, a, _, rfl, .inl hS, _, _, rfl, _, _, rfl, N, ?_, by omega, by omega, ?_⟩
    · rw [← eN]
    refine for_range (lo := 0) (n := N.toNat) (fun i σ H' => (∃ x1 x2 x3 x4 x5 x6 x7, σ = [some (.ref a), x1, x2, x3, x4, x5, x6, x7]) ∧ Same H H') ⟨⟨_, _, _, _, _, _, _, rfl⟩, Same.refl _⟩ ?_ ?_
    · rintro i σ H1 hi ⟨⟨x1, x2, x3, x4, x5, x6, x7, rfl⟩, sm1⟩
      refine ⟨_, rfl, _, rfl, a, ns, _, rfl, sm1.seq hS, by omega, by omega, fun H2 p sm2 np B2 => ?_⟩
      refine ⟨_, rfl, _, rfl, p, rfl, B2, fun H3 r ws sx3 B3 nr hr3 hg => ?_⟩
      refine ⟨p, r, ws, rfl, B3, B2.ne nr, hr3, hg, fun H4 z sx4 B4 hz cz => ?_⟩
      have x4 : Sx p H2 H4 := sx3.trans sx4
      refine ⟨3, rfl, by decide, by decide, ?_⟩
      refine for_range (lo := 0) (n := 3) (fun j σ H' => Sx p H2 H' ∧ Bag H' p ∧ ∃ z' n y4 y5 y6 y7, σ = [some (.ref a), some (.int (0 + i)), some (.ref p), some (.str z'), y4, y5, y6, y7] ∧ Asc n z' ∧ n + 30 ≤ 230 * 2 ^ j) ⟨x4, B4, z, 200, _, _, _, _, rfl, hz, by decide⟩ ?_ ?_
      · rintro j σ H5 hj ⟨x5, B5, z', n, y4, y5, y6, y7, rfl, hz', hn⟩
        have h8 : 2 ^ j ≤ 2 ^ 2 := Nat.pow_le_pow_right (by decide) (by omega)
        have h8' : 2 ^ 2 = 4 := by decide
        have hn2 : n ≤ 1000 := by omega
        refine ⟨_, rfl, _, rfl, p, z', n, rfl, B5, hz', by omega, fun H6 z2 sx6 B6 hz2 => ?_⟩
        refine ⟨2, rfl, by decide, by decide, ?_⟩
        have hz3 : Asc 10000 z2 := hz2.mono (by omega)
        refine for_range (lo := 0) (n := 2) (fun j2 σ H' => Same H6 H' ∧ ∃ y5 y6 y7, σ = [some (.ref a), some (.int (0 + i)), some (.ref p), some (.str z2), some (.int (0 + j)), y5, y6, y7]) ⟨Same.refl _, _, _, _, rfl⟩ ?_ ?_
        · rintro j2 σ H7 hj2 ⟨sm7, y5', y6', y7', rfl⟩
          refine ⟨_, rfl, _, rfl, .inl ⟨z2, rfl, hz3, fun H8 v sm8 dv ok => ?_⟩⟩
          refine ⟨_, rfl, z2, rfl, hz3, fun H9 v2 sm9 dv2 => ?_⟩
          refine ⟨v, v2, _, rfl, Dp.same sm9 dv, dv2, ok, fun H10 sm10 => ?_⟩
          refine ⟨_, rfl, iteF ?_⟩
          exact ⟨sm7.trans (sm8.trans (sm9.trans sm10)), _, _, _, rfl⟩
        · rintro σ H7 ⟨sm7, y5', y6', y7', rfl⟩
          refine ⟨x5.trans (sx6.trans (Sx.same sm7)), B6.same sm7, z2, _, _, _, _, _, rfl, hz2, ?_⟩
          rw [Nat.pow_succ]
          omega
      · rintro σ H5 ⟨x5, B5, z', n, y4, y5, y6, y7, rfl, hz', hn⟩
        refine ⟨(by show 0 ≤ sizeLine; decide), fun l1 n1 => ?_⟩
        refine ⟨(by show 3 ≤ sizeLine; decide), fun l2 n2 => ?_⟩
        refine ⟨(by show 1 ≤ sizeLine; decide), fun t1 n3 => ?_⟩
        refine ⟨_, _, rfl, rfl, ⟨by decide, by decide, by decide⟩, (by show 7 ≤ sizeLine; decide), fun l4 n4 => ?_⟩
        have sA := same_upd (o := .lst []) n1
        have sB := same_upd (o := .lst [.str (Str.ofString "car"), .str (Str.ofString "at"), .str (Str.ofString "x")]) n2
        have sC := same_upd (o := .tup [.str (Str.ofString "car at x")]) n3
        have sD := same_upd (o := .lst [.non, .int 0, .bl true, .ref l1, .ref l2, .ref t1, .int (10 ^ 40)]) n4
        have sAD := sA.trans (sB.trans (sC.trans sD))
        refine ⟨_, rfl, p, 7, rfl, B5.same sAD, by decide, by decide, fun d H6 d0 d1 B6 k6 => ?_⟩
        have e1 : H6 l1 = some (.lst []) := by rw [k6 l1 (B5.ne n1)]; exact sD _ _ (sC _ _ (sB _ _ upd_same))
        have e2 : H6 l2 = some (.lst [.str (Str.ofString "car"), .str (Str.ofString "at"), .str (Str.ofString "x")]) := by rw [k6 l2 ((B5.same sA).ne n2)]; exact sD _ _ (sC _ _ upd_same)
        have e3 : H6 t1 = some (.tup [.str (Str.ofString "car at x")]) := by rw [k6 t1 ((B5.same (sA.trans sB)).ne n3)]; exact sD _ _ upd_same
        have e4 : H6 l4 = some (.lst [.non, .int 0, .bl true, .ref l1, .ref l2, .ref t1, .int (10 ^ 40)]) := by rw [k6 l4 ((B5.same (sA.trans (sB.trans sC))).ne n4)]; exact upd_same
        have x6 : Sx p H2 H6 := x5.trans ((Sx.same sAD).trans (Sx.of k6))
        obtain ⟨v, av, hv⟩ := pick_no (K := K) (H := H6) (xs := [.non, .int 0, .bl true, .ref l1, .ref l2, .ref t1, .int (10 ^ 40)]) (fun x hx => by
          simp only [List.mem_cons, List.not_mem_nil, or_false] at hx
          rcases hx with rfl | rfl | rfl | rfl | rfl | rfl | rfl
          · exact ⟨"NoneType", .base .non, by decide +kernel⟩
          · exact ⟨"int", .base (.int _), by decide +kernel⟩
          · exact ⟨"bool", .base (.bl _), by decide +kernel⟩
          · exact ⟨"list", .base (.lst e1), by decide +kernel⟩
          · exact ⟨"list", .base (.lst e2), by decide +kernel⟩
          · exact ⟨"tuple", .base (.tup e3), by decide +kernel⟩
          · exact ⟨"int", .base (.int _), by decide +kernel⟩) d0 (show d.toNat < 7 by omega)
        refine ⟨l4, _, d, v, rfl, rfl, SqL.of e4, av, ?_⟩
        refine ⟨_, rfl, v, rfl, .inr ⟨hv, fun H7 sm7 => ?_⟩⟩
        refine ⟨1, rfl, .int (-1), .int (-1), .int (-1), rfl, .int _, .int _, .int _, fun H8 sm8 => ?_⟩
        refine ⟨_, rfl, iteF ?_⟩
        exact ⟨⟨_, _, _, _, _, _, _, rfl⟩, Sx.toSame (sm1.trans sm2) (x6.trans ((Sx.same sm7).trans (Sx.same sm8))) (sm1.free np)⟩
    · rintro σ H1 ⟨⟨x1, x2, x3, x4, x5, x6, x7, rfl⟩, sm1⟩
      refine ⟨(by show 8 ≤ sizeLine; decide), fun l nl => ?_⟩
      have el : (upd H1 l (.lst (texts8.map V.str))) l = some (.lst (texts8.map V.str)) := upd_same
      refine ⟨_, rfl, l, rfl, ⟨_, SqL.of el⟩, fun D nD => ?_⟩
      have ne : l ≠ D := fun e => by
        rw [← e, upd_same] at nD
        cases nD
      refine lc_list (K := K) (a := l) (xs := texts8.map V.str) (fun i H' => H' l = some (.lst (texts8.map V.str)) ∧ H' D = some (.lst (List.replicate i (V.bl true)))) ⟨by rw [upd_ne ne]; exact el, upd_same⟩ (fun i H' _ h => SqL.of h.1) ?_ ?_
      · rintro i x H2 hx ⟨hl, hD⟩
        rw [List.getElem?_map] at hx
        obtain ⟨z, hz, rfl⟩ := Option.map_eq_some_iff.mp hx
        have az := texts_asc z (List.mem_of_getElem? hz)
        have hi : i < 8 := (List.getElem?_eq_some_iff.mp hz).1
        refine ⟨rfl, yesI ?_⟩
        refine ⟨_, rfl, _, rfl, .inl ⟨z, rfl, az, fun H3 v sm3 dv ok => ?_⟩⟩
        refine ⟨_, rfl, z, rfl, az, fun H4 v2 sm4 dv2 => ?_⟩
        refine ⟨v, v2, _, rfl, Dp.same sm4 dv, dv2, ok, fun H5 sm5 => ?_⟩
        have sm6 := sm3.trans (sm4.trans sm5)
        refine ⟨_, sm6 _ _ hD, ?_, ?_, ?_⟩
        · rw [List.length_replicate]
          exact Nat.lt_of_lt_of_le hi (by decide)
        · rw [upd_ne ne]
          exact sm6 _ _ hl
        · rw [upd_same, ← List.replicate_succ']
      · rintro H2 ⟨hl, hD⟩
        refine ⟨D, List.replicate 8 true, rfl, SqL.of hD, ?_⟩
        exact q _
end
end My

set_option Elab.async false
set_option linter.all false
set_option maxRecDepth 100000
set_option maxHeartbeats 4000000
namespace My
open PySem PySem.Spec PyProof.Rows L2 TL RZ
theorem isStr_key (z x : Str) (t : Tok) : Value.isStr (.str x t) z = decide (z = x) := by
  rw [PySem.W.isStr_of]
  show (x == z) = decide (z = x)
  by_cases h : x = z
  · subst h
    rw [decide_eq_true rfl]
    exact beq_self_eq_true x
  · rw [decide_eq_false (fun e => h e.symm)]
    exact beq_eq_false_iff_ne.mpr h
theorem due_all {K : PySem.W.Frag} {dd : Addr} {es : Array DictEntry} {nD : Nat} {q0 q1 q2 q3 q4 q5 : Tok} (l : K.lookup dd = some ⟨.type "dict", none, .dict es nD, #[]⟩) (hk : es.toList.map (·.key) = [.str "car" q0, .str "chimney" q1, .str "grass" q2, .str "house" q3, .str "people" q4, .str "works" q5]) (z : Str) : ∃ r, PySem.W.nsIn K dd z = some r ∧ r.isSome = decide (z ∈ kinds) := by
  unfold PySem.W.nsIn
  rw [l]
  have hall : ∀ e ∈ es.toList, ∃ x t, e.key = .str x t ∧ x ∈ kinds := fun e he => by
    have m : e.key ∈ es.toList.map (·.key) := List.mem_map.mpr ⟨e, he, rfl⟩
    rw [hk] at m
    simp only [List.mem_cons, List.not_mem_nil, or_false] at m
    rcases m with m | m | m | m | m | m <;> exact ⟨_, _, m, by decide +kernel⟩
  have hex : ∀ x ∈ kinds, ∃ e ∈ es.toList, ∃ t, e.key = .str x t := fun x hx => by
    have m : ∃ t, Value.str x t ∈ es.toList.map (·.key) := by
      rw [hk]
      have hx' : x ∈ (["car", "chimney", "grass", "house", "people", "works"] : List Str) := hx
      simp only [List.mem_cons, List.not_mem_nil, or_false] at hx' ⊢
      rcases hx' with rfl | rfl | rfl | rfl | rfl | rfl
      · exact ⟨q0, .inl rfl⟩
      · exact ⟨q1, .inr (.inl rfl)⟩
      · exact ⟨q2, .inr (.inr (.inl rfl))⟩
      · exact ⟨q3, .inr (.inr (.inr (.inl rfl)))⟩
      · exact ⟨q4, .inr (.inr (.inr (.inr (.inl rfl))))⟩
      · exact ⟨q5, .inr (.inr (.inr (.inr (.inr rfl))))⟩
    obtain ⟨t, m⟩ := m
    obtain ⟨e, he, h⟩ := List.mem_map.mp m
    exact ⟨e, he, t, h⟩
  cases hf : es.toList.find? (·.key.isStr z) with
  | some e =>
    refine ⟨some e.val, by show (match es.toList.find? (·.key.isStr z) with | some e => some (some e.val) | none => if es.toList.any (·.refKey) = true then none else some none) = _; rw [hf], ?_⟩
    have he := List.mem_of_find?_eq_some hf
    have hs := List.find?_some hf
    obtain ⟨x, t, hk2, hx⟩ := hall e he
    have hs' : e.key.isStr z = true := hs
    rw [hk2, isStr_key] at hs'
    rw [decide_eq_true (of_decide_eq_true hs' ▸ hx)]
    rfl
  | none =>
    have hnone : ¬ z ∈ kinds := fun h => by
      obtain ⟨e, he, t, hk2⟩ := hex z h
      have := List.find?_eq_none.mp hf e he
      apply this
      show e.key.isStr z = true
      rw [hk2, isStr_key, decide_eq_true rfl]
    have href : es.toList.any (·.refKey) = false := by
      rw [List.any_eq_false]
      intro e he
      obtain ⟨x, t, hk2, _⟩ := hall e he
      unfold DictEntry.refKey
      rw [hk2]
      exact Bool.false_ne_true
    refine ⟨none, ?_, ?_⟩
    · show (match es.toList.find? (·.key.isStr z) with | some e => some (some e.val) | none => if es.toList.any (·.refKey) = true then none else some none) = _
      rw [hf, href]
      rfl
    · rw [decide_eq_false hnone]
      rfl
theorem all_mk {l : PySem.W.OpenLaw} {w : World} {K : PySem.W.Frag} {h : Heap} {mg : Str → Option Value} {fa f0 f1 f2 f3 f4 f5 f6 f7 f8 f9 f10 f11 f12 f13 f14 dd C fI n1 n2 n3 n4 n5 : Addr} (X : K.In h) (G : h.Ns mainGlobals mg) (hfa : mg "law" = some (.ref fa))
    {od0 an0 od1 an1 od2 an2 od3 an3 od4 an4 od5 an5 od6 an6 od7 an7 od8 an8 od9 an9 od10 an10 od11 an11 od12 an12 od13 an13 od14 an14 : Option Addr} {sl0 sl1 sl2 sl3 sl4 sl5 sl6 sl7 sl8 sl9 sl10 sl11 sl12 sl13 sl14 : Array (Option Value)} {oc0 kV0 dc0 pm0 cd0 ct0 oc1 kV1 dc1 pm1 cd1 ct1 oc2 kV2 dc2 pm2 cd2 ct2 oc3 kV3 dc3 pm3 cd3 ct3 oc4 kV4 dc4 pm4 cd4 ct4 oc5 kV5 dc5 pm5 cd5 ct5 oc6 kV6 dc6 pm6 cd6 ct6 oc7 kV7 dc7 pm7 cd7 ct7 oc8 kV8 dc8 pm8 cd8 ct8 oc9 kV9 dc9 pm9 cd9 ct9 oc10 kV10 dc10 pm10 cd10 ct10 oc11 kV11 dc11 pm11 cd11 ct11 oc12 kV12 dc12 pm12 cd12 ct12 oc13 kV13 dc13 pm13 cd13 ct13 oc14 kV14 dc14 pm14 cd14 ct14 : Value} {t_LONGEST_NAME t_MOST_PUMPS t_WORDS_WITHOUT_NUMBER t_WORDS_WITH_NUMBER t_LETTERS q0 q1 q2 q3 q4 q5 : Tok} {es : Array DictEntry} {nD : Nat} {ocI kVI dcI pmI cdI ctI : Value} {odI anI : Option Addr} {slI : Array (Option Value)}
    (a0 : PySem.W.nsIn K mainGlobals "is_name" = some (some (.ref f0))) (l0 : K.lookup f0 = some ⟨oc0, od0, .func (PySem.W.fnOf "is_name" "is_name" (defArgs s_is_name) (defBody s_is_name) (defScope s_is_name) .none kV0 dc0 pm0 an0 cd0 ct0), sl0⟩) (c0 : PySem.W.codeIn K cd0 "is_name" = true) (k0 : PySem.W.keepIn K (.ref f0) = true)
    (a1 : PySem.W.nsIn K mainGlobals "is_kind" = some (some (.ref f1))) (l1 : K.lookup f1 = some ⟨oc1, od1, .func (PySem.W.fnOf "is_kind" "is_kind" (defArgs s_is_kind) (defBody s_is_kind) (defScope s_is_kind) .none kV1 dc1 pm1 an1 cd1 ct1), sl1⟩) (c1 : PySem.W.codeIn K cd1 "is_kind" = true) (k1 : PySem.W.keepIn K (.ref f1) = true)
    (a2 : PySem.W.nsIn K mainGlobals "read_call" = some (some (.ref f2))) (l2 : K.lookup f2 = some ⟨oc2, od2, .func (PySem.W.fnOf "read_call" "read_call" (defArgs s_read_call) (defBody s_read_call) (defScope s_read_call) .none kV2 dc2 pm2 an2 cd2 ct2), sl2⟩) (c2 : PySem.W.codeIn K cd2 "read_call" = true) (k2 : PySem.W.keepIn K (.ref f2) = true)
    (a3 : PySem.W.nsIn K mainGlobals "is_word_at" = some (some (.ref f3))) (l3 : K.lookup f3 = some ⟨oc3, od3, .func (PySem.W.fnOf "is_word_at" "is_word_at" (defArgs s_is_word_at) (defBody s_is_word_at) (defScope s_is_word_at) .none kV3 dc3 pm3 an3 cd3 ct3), sl3⟩) (c3 : PySem.W.codeIn K cd3 "is_word_at" = true) (k3 : PySem.W.keepIn K (.ref f3) = true)
    (a4 : PySem.W.nsIn K mainGlobals "is_pumps_text" = some (some (.ref f4))) (l4 : K.lookup f4 = some ⟨oc4, od4, .func (PySem.W.fnOf "is_pumps_text" "is_pumps_text" (defArgs s_is_pumps_text) (defBody s_is_pumps_text) (defScope s_is_pumps_text) .none kV4 dc4 pm4 an4 cd4 ct4), sl4⟩) (c4 : PySem.W.codeIn K cd4 "is_pumps_text" = true) (k4 : PySem.W.keepIn K (.ref f4) = true)
    (a5 : PySem.W.nsIn K mainGlobals "_law_bag" = some (some (.ref f5))) (l5 : K.lookup f5 = some ⟨oc5, od5, .func (PySem.W.fnOf "_law_bag" "_law_bag" (defArgs s_law_bag) (defBody s_law_bag) (defScope s_law_bag) .none kV5 dc5 pm5 an5 cd5 ct5), sl5⟩) (c5 : PySem.W.codeIn K cd5 "_law_bag" = true) (k5 : PySem.W.keepIn K (.ref f5) = true)
    (a6 : PySem.W.nsIn K mainGlobals "_law_take" = some (some (.ref f6))) (l6 : K.lookup f6 = some ⟨oc6, od6, .func (PySem.W.fnOf "_law_take" "_law_take" (defArgs s_law_take) (defBody s_law_take) (defScope s_law_take) .none kV6 dc6 pm6 an6 cd6 ct6), sl6⟩) (c6 : PySem.W.codeIn K cd6 "_law_take" = true) (k6 : PySem.W.keepIn K (.ref f6) = true)
    (a7 : PySem.W.nsIn K mainGlobals "_law_words" = some (some (.ref f7))) (l7 : K.lookup f7 = some ⟨oc7, od7, .func (PySem.W.fnOf "_law_words" "_law_words" (defArgs s_law_words) (defBody s_law_words) (defScope s_law_words) .none kV7 dc7 pm7 an7 cd7 ct7), sl7⟩) (c7 : PySem.W.codeIn K cd7 "_law_words" = true) (k7 : PySem.W.keepIn K (.ref f7) = true)
    (a8 : PySem.W.nsIn K mainGlobals "_law_text" = some (some (.ref f8))) (l8 : K.lookup f8 = some ⟨oc8, od8, .func (PySem.W.fnOf "_law_text" "_law_text" (defArgs s_law_text) (defBody s_law_text) (defScope s_law_text) .none kV8 dc8 pm8 an8 cd8 ct8), sl8⟩) (c8 : PySem.W.codeIn K cd8 "_law_text" = true) (k8 : PySem.W.keepIn K (.ref f8) = true)
    (a9 : PySem.W.nsIn K mainGlobals "_law_like" = some (some (.ref f9))) (l9 : K.lookup f9 = some ⟨oc9, od9, .func (PySem.W.fnOf "_law_like" "_law_like" (defArgs s_law_like) (defBody s_law_like) (defScope s_law_like) .none kV9 dc9 pm9 an9 cd9 ct9), sl9⟩) (c9 : PySem.W.codeIn K cd9 "_law_like" = true) (k9 : PySem.W.keepIn K (.ref f9) = true)
    (a10 : PySem.W.nsIn K mainGlobals "_law_plain" = some (some (.ref f10))) (l10 : K.lookup f10 = some ⟨oc10, od10, .func (PySem.W.fnOf "_law_plain" "_law_plain" (defArgs s_law_plain) (defBody s_law_plain) (defScope s_law_plain) .none kV10 dc10 pm10 an10 cd10 ct10), sl10⟩) (c10 : PySem.W.codeIn K cd10 "_law_plain" = true) (k10 : PySem.W.keepIn K (.ref f10) = true)
    (a11 : PySem.W.nsIn K mainGlobals "_law_read" = some (some (.ref f11))) (l11 : K.lookup f11 = some ⟨oc11, od11, .func (PySem.W.fnOf "_law_read" "_law_read" (defArgs s_law_read) (defBody s_law_read) (defScope s_law_read) .none kV11 dc11 pm11 an11 cd11 ct11), sl11⟩) (c11 : PySem.W.codeIn K cd11 "_law_read" = true) (k11 : PySem.W.keepIn K (.ref f11) = true)
    (a12 : PySem.W.nsIn K mainGlobals "_law_told" = some (some (.ref f12))) (l12 : K.lookup f12 = some ⟨oc12, od12, .func (PySem.W.fnOf "_law_told" "_law_told" (defArgs s_law_told) (defBody s_law_told) (defScope s_law_told) .none kV12 dc12 pm12 an12 cd12 ct12), sl12⟩) (c12 : PySem.W.codeIn K cd12 "_law_told" = true) (k12 : PySem.W.keepIn K (.ref f12) = true)
    (a13 : PySem.W.nsIn K mainGlobals "_law_spoilt" = some (some (.ref f13))) (l13 : K.lookup f13 = some ⟨oc13, od13, .func (PySem.W.fnOf "_law_spoilt" "_law_spoilt" (defArgs s_law_spoilt) (defBody s_law_spoilt) (defScope s_law_spoilt) .none kV13 dc13 pm13 an13 cd13 ct13), sl13⟩) (c13 : PySem.W.codeIn K cd13 "_law_spoilt" = true) (k13 : PySem.W.keepIn K (.ref f13) = true)
    (a14 : PySem.W.nsIn K mainGlobals "law" = some (some (.ref f14))) (l14 : K.lookup f14 = some ⟨oc14, od14, .func (PySem.W.fnOf "law" "law" (defArgs s_law) (defBody s_law) (defScope s_law) .none kV14 dc14 pm14 an14 cd14 ct14), sl14⟩) (c14 : PySem.W.codeIn K cd14 "law" = true) (k14 : PySem.W.keepIn K (.ref f14) = true)
    (z_len : PySem.W.nsIn K mainGlobals "len" = some none)
    (z_abs : PySem.W.nsIn K mainGlobals "abs" = some none)
    (z_all : PySem.W.nsIn K mainGlobals "all" = some none)
    (z_str : PySem.W.nsIn K mainGlobals "str" = some none)
    (z_int : PySem.W.nsIn K mainGlobals "int" = some none)
    (z_isinstance : PySem.W.nsIn K mainGlobals "isinstance" = some none)
    (z_range : PySem.W.nsIn K mainGlobals "range" = some none)
    (z_max : PySem.W.nsIn K mainGlobals "max" = some none)
    (z_min : PySem.W.nsIn K mainGlobals "min" = some none)
    (z_bool : PySem.W.nsIn K mainGlobals "bool" = some none)
    (z_list : PySem.W.nsIn K mainGlobals "list" = some none)
    (z_tuple : PySem.W.nsIn K mainGlobals "tuple" = some none)
    (z_enumerate : PySem.W.nsIn K mainGlobals "enumerate" = some none)
    (z_zip : PySem.W.nsIn K mainGlobals "zip" = some none)
    (z_ValueError : PySem.W.nsIn K mainGlobals "ValueError" = some none)
    (g_LONGEST_NAME : PySem.W.nsIn K mainGlobals "LONGEST_NAME" = some (some (.int 8 t_LONGEST_NAME)))
    (g_MOST_PUMPS : PySem.W.nsIn K mainGlobals "MOST_PUMPS" = some (some (.int 20 t_MOST_PUMPS)))
    (g_WORDS_WITHOUT_NUMBER : PySem.W.nsIn K mainGlobals "WORDS_WITHOUT_NUMBER" = some (some (.int 3 t_WORDS_WITHOUT_NUMBER)))
    (g_WORDS_WITH_NUMBER : PySem.W.nsIn K mainGlobals "WORDS_WITH_NUMBER" = some (some (.int 5 t_WORDS_WITH_NUMBER)))
    (g_LETTERS : PySem.W.nsIn K mainGlobals "LETTERS" = some (some (.str "abcdefghijklmnopqrstuvwxyz" t_LETTERS)))
    (gDUE : PySem.W.nsIn K mainGlobals "DUE" = some (some (.ref dd)))
    (lDUE : K.lookup dd = some ⟨.type "dict", none, .dict es nD, #[]⟩)
    (sDUE : (dd == sysModules) = false)
    (hDUE : PySem.W.KeysLit w.params es.toList ∧ es.toList.map (·.key) = [.str "car" q0, .str "chimney" q1, .str "grass" q2, .str "house" q3, .str "people" q4, .str "works" q5])
    (gB : PySem.W.nsIn K mainGlobals "BadText" = some (some (.ref C)))
    (gN1 : PySem.W.nsIn K mainGlobals "NoText" = some (some (.ref n1)))
    (gN2 : PySem.W.nsIn K mainGlobals "NoSaying" = some (some (.ref n2)))
    (gN3 : PySem.W.nsIn K mainGlobals "BadTime" = some (some (.ref n3)))
    (gN4 : PySem.W.nsIn K mainGlobals "NoDeed" = some (some (.ref n4)))
    (gN5 : PySem.W.nsIn K mainGlobals "NoGround" = some (some (.ref n5)))
    (clB : K.lookup C = some (excClassObj xb1 xb2 C xb3 xb4 xb5 true xb6 xb7 xb8 xb9 xb10 xb11 xb12 xb13 xb14 xb15 "ValueError.__new__"))
    (veB : PySem.HandSPX.refsVE xb5 = true)
    (saB : PySem.W.findIn K (.ref C) "__setattr__" = some (some (.builtin "object.__setattr__")))
    (kB : PySem.W.keepIn K (.ref C) = true)
    (bB : PySem.W.subIn K (.ref C) (.type "BaseException") = some true)
    (tB : PySem.W.typeIn K (.ref C) = some (.type "type"))
    (noB : PySem.W.findIn K (.ref C) "at" = some none)
    (iB : PySem.W.findIn K (.ref C) "__init__" = some (some (.ref fI)))
    (tIB : PySem.W.typeIn K (.ref fI) = some (.type "function"))
    (vVB : PySem.W.findCls K (.type "ValueError") (.type "type") "__init__" = some (.val (.builtin "ValueError.__init__")))
    (lI : K.lookup fI = some ⟨ocI, odI, .func (PySem.W.fnOf "__init__" "BadText.__init__" (defArgs s_bad_init) (defBody s_bad_init) (defScope s_bad_init) .none kVI dcI pmI anI cdI ctI), slI⟩)
    (cI : PySem.W.codeIn K cdI "BadText.__init__" = true)
    (kI : PySem.W.keepIn K (.ref fI) = true)
    (e1 : PySem.W.findIn K (.ref C) "__getattribute__" = some (some (.builtin "BaseException.__getattribute__")))
    (e2 : PySem.W.findIn K (.ref C) "__getattr__" = some none)
    (e4 : PySem.W.hasDictIn K C = true)
    (e5 : PySem.W.findIn K (.ref C) "__class__" = some (some (.builtin "object.__class__")))
    (e6 : PySem.W.specialIn K (.builtin "object.__class__") "__get__" = some (some (.builtin "getset_descriptor.__get__")))
    (e7 : PySem.W.takesIn K (.builtin "object.__class__") = some true)
    (e8 : PySem.W.mroIn K C (.type "object") = some true)
    (sB : PySem.W.subIn K (.ref C) (.ref C) = some true)
    (kt0 : PySem.W.kitOne K (.ref C) (.type "ValueError") = some true)
    (kt1 : PySem.W.kitOne K (.ref C) (.ref n1) = some false)
    (kt2 : PySem.W.kitOne K (.ref C) (.ref n2) = some false)
    (kt3 : PySem.W.kitOne K (.ref C) (.ref n3) = some false)
    (kt4 : PySem.W.kitOne K (.ref C) (.ref n4) = some false)
    (kt5 : PySem.W.kitOne K (.ref C) (.ref n5) = some false) :
    ∃ fd : FuncData, (∀ (s : Shared) (v : Value), BindsTo s fd ⟨[v], []⟩ [("_law_script", v)]) ∧ ∀ base : Heap, K.In base → base.Ns mainGlobals mg → FnOk l.prog w K mg base CX0 5 fa fd ["_law_script"] (sp_law K) := by
  have e := hfa.symm.trans (PySem.W.mg_of X G a14)
  cases e
  have F0 := fun_mk (st := s_is_name) l0 c0 k0
  have b0 := F0.binds (ps := ["thing"]) fun _ _ _ _ _ _ us hl => match us, hl with | [_], _ => rfl
  have g0 := PySem.W.mg_of X G a0
  have F1 := fun_mk (st := s_is_kind) l1 c1 k1
  have b1 := F1.binds (ps := ["thing"]) fun _ _ _ _ _ _ us hl => match us, hl with | [_], _ => rfl
  have g1 := PySem.W.mg_of X G a1
  have F2 := fun_mk (st := s_read_call) l2 c2 k2
  have b2 := F2.binds (ps := ["text"]) fun _ _ _ _ _ _ us hl => match us, hl with | [_], _ => rfl
  have g2 := PySem.W.mg_of X G a2
  have F3 := fun_mk (st := s_is_word_at) l3 c3 k3
  have b3 := F3.binds (ps := ["at", "word"]) fun _ _ _ _ _ _ us hl => match us, hl with | [_, _], _ => rfl
  have g3 := PySem.W.mg_of X G a3
  have F4 := fun_mk (st := s_is_pumps_text) l4 c4 k4
  have b4 := F4.binds (ps := ["word"]) fun _ _ _ _ _ _ us hl => match us, hl with | [_], _ => rfl
  have g4 := PySem.W.mg_of X G a4
  have F5 := fun_mk (st := s_law_bag) l5 c5 k5
  have b5 := F5.binds (ps := ["_law_script", "_law_at"]) fun _ _ _ _ _ _ us hl => match us, hl with | [_, _], _ => rfl
  have g5 := PySem.W.mg_of X G a5
  have F6 := fun_mk (st := s_law_take) l6 c6 k6
  have b6 := F6.binds (ps := ["_law_bag_here", "_law_many"]) fun _ _ _ _ _ _ us hl => match us, hl with | [_, _], _ => rfl
  have g6 := PySem.W.mg_of X G a6
  have F7 := fun_mk (st := s_law_words) l7 c7 k7
  have b7 := F7.binds (ps := ["_law_bag_here"]) fun _ _ _ _ _ _ us hl => match us, hl with | [_], _ => rfl
  have g7 := PySem.W.mg_of X G a7
  have F8 := fun_mk (st := s_law_text) l8 c8 k8
  have b8 := F8.binds (ps := ["_law_bag_here", "_law_words_here"]) fun _ _ _ _ _ _ us hl => match us, hl with | [_, _], _ => rfl
  have g8 := PySem.W.mg_of X G a8
  have F9 := fun_mk (st := s_law_like) l9 c9 k9
  have b9 := F9.binds (ps := ["_law_told_here", "_law_due"]) fun _ _ _ _ _ _ us hl => match us, hl with | [_, _], _ => rfl
  have g9 := PySem.W.mg_of X G a9
  have F10 := fun_mk (st := s_law_plain) l10 c10 k10
  have b10 := F10.binds (ps := ["_law_word"]) fun _ _ _ _ _ _ us hl => match us, hl with | [_], _ => rfl
  have g10 := PySem.W.mg_of X G a10
  have F11 := fun_mk (st := s_law_read) l11 c11 k11
  have b11 := F11.binds (ps := ["_law_text_here"]) fun _ _ _ _ _ _ us hl => match us, hl with | [_], _ => rfl
  have g11 := PySem.W.mg_of X G a11
  have F12 := fun_mk (st := s_law_told) l12 c12 k12
  have b12 := F12.binds (ps := ["_law_thing"]) fun _ _ _ _ _ _ us hl => match us, hl with | [_], _ => rfl
  have g12 := PySem.W.mg_of X G a12
  have F13 := fun_mk (st := s_law_spoilt) l13 c13 k13
  have b13 := F13.binds (ps := ["_law_bag_here", "_law_text_here"]) fun _ _ _ _ _ _ us hl => match us, hl with | [_, _], _ => rfl
  have g13 := PySem.W.mg_of X G a13
  have F14 := fun_mk (st := s_law) l14 c14 k14
  have b14 := F14.binds (ps := ["_law_script"]) fun _ _ _ _ _ _ us hl => match us, hl with | [_], _ => rfl
  have g14 := PySem.W.mg_of X G a14
  have T : Txt mg := { z_len := PySem.W.mg_none_of X G z_len, z_abs := PySem.W.mg_none_of X G z_abs, z_all := PySem.W.mg_none_of X G z_all, z_str := PySem.W.mg_none_of X G z_str, z_int := PySem.W.mg_none_of X G z_int, z_isinstance := PySem.W.mg_none_of X G z_isinstance, z_range := PySem.W.mg_none_of X G z_range, z_max := PySem.W.mg_none_of X G z_max, z_min := PySem.W.mg_none_of X G z_min, z_bool := PySem.W.mg_none_of X G z_bool, z_list := PySem.W.mg_none_of X G z_list, z_tuple := PySem.W.mg_none_of X G z_tuple, z_enumerate := PySem.W.mg_none_of X G z_enumerate, z_zip := PySem.W.mg_none_of X G z_zip, z_ValueError := PySem.W.mg_none_of X G z_ValueError, g_LONGEST_NAME := ⟨_, PySem.W.mg_of X G g_LONGEST_NAME⟩, g_MOST_PUMPS := ⟨_, PySem.W.mg_of X G g_MOST_PUMPS⟩, g_WORDS_WITHOUT_NUMBER := ⟨_, PySem.W.mg_of X G g_WORDS_WITHOUT_NUMBER⟩, g_WORDS_WITH_NUMBER := ⟨_, PySem.W.mg_of X G g_WORDS_WITH_NUMBER⟩, g_LETTERS := ⟨_, PySem.W.mg_of X G g_LETTERS⟩ }
  have TD : Due K w mg := ⟨dd, es, nD, PySem.W.mg_of X G gDUE, ⟨lDUE, hDUE.1, sDUE⟩, fun z => due_all lDUE hDUE.2 z⟩
  have BXX : BX K mg C fI := ⟨PySem.W.mg_of X G gB, ⟨⟨_, _, _, _, _, _, _, _, _, _, _, _, _, _, _, clB, veB⟩, saB, bB, tB, kB⟩, noB, iB, tIB, vVB⟩
  have BYY : BY K mg C n1 n2 n3 n4 n5 := ⟨PySem.W.mg_of X G gN1, PySem.W.mg_of X G gN2, PySem.W.mg_of X G gN3, PySem.W.mg_of X G gN4, PySem.W.mg_of X G gN5, ⟨e1, e2, bB, e4, e5, e6, e7, e8⟩, PySem.W.exm_ref bB e4 tB sB, kt0, kt1, kt2, kt3, kt4, kt5⟩
  have FI := fun_mk (st := s_bad_init) lI cI kI
  have bI := FI.binds (ps := ["self", "at"]) fun _ _ _ _ _ _ us hl => match us, hl with | [_, _], _ => rfl
  refine ⟨PySem.W.fnOf "law" "law" (defArgs s_law) (defBody s_law) (defScope s_law) .none kV14 dc14 pm14 an14 cd14 ct14, fun s v => .of_eq rfl, fun base _ _ => ?_⟩
  have C0 : Cal l.prog w K mg base 1 "is_name" sp_is_name := cal_mk (ok_is_name F0 T) g0 k0 b0
  have C1 : Cal l.prog w K mg base 1 "is_kind" sp_is_kind := cal_mk (ok_is_kind F1 T TD) g1 k1 b1
  have C4 : Cal l.prog w K mg base 1 "is_pumps_text" sp_is_pumps_text := cal_mk (ok_is_pumps_text F4 T) g4 k4 b4
  have C3 : Cal l.prog w K mg base 2 "is_word_at" sp_is_word_at := cal_mk (ok_is_word_at F3 T C1 C0 C4) g3 k3 b3
  have C5 : Cal l.prog w K mg base 1 "_law_bag" (sp_law_bag K) := cal_mk (ok_law_bag F5 T) g5 k5 b5
  have C6 : Cal l.prog w K mg base 1 "_law_take" sp_law_take := cal_mk (ok_law_take F6) g6 k6 b6
  have C7 : Cal l.prog w K mg base 2 "_law_words" sp_law_words := cal_mk (ok_law_words F7 T C6) g7 k7 b7
  have C8 : Cal l.prog w K mg base 2 "_law_text" sp_law_text := cal_mk (ok_law_text F8 T C6) g8 k8 b8
  have C9 : Cal l.prog w K mg base 3 "_law_like" (sp_law_like K 2) := cal_mk (ok_law_like F9 T g9 k9 b9 2 (by decide)) g9 k9 b9
  have C10 : Cal l.prog w K mg base 1 "_law_plain" sp_law_plain := cal_mk (ok_law_plain F10 T) g10 k10 b10
  have C11 : Cal l.prog w K mg base 2 "_law_read" (sp_law_read K) := cal_mk (ok_law_read F11 T C10) g11 k11 b11
  have C12 : Cal l.prog w K mg base 4 "_law_told" (sp_law_told K) := cal_mk (ok_law_told F12 T BXX BYY (ok_read_call F2 T BXX (ok_bad_init FI T BXX) bI C3) g2 k2 b2) g12 k12 b12
  have C13 : Cal l.prog w K mg base 2 "_law_spoilt" sp_law_spoilt := cal_mk (ok_law_spoilt F13 T C6) g13 k13 b13
  exact ok_law F14 T C5 C6 C7 C8 C13 C12 C11 C9
end My

set_option Elab.async false
set_option linter.all false
open PySem PySem.W PyProof.Rows
set_option maxRecDepth 100000 in
set_option maxHeartbeats 0 in
theorem PySem.Challenge.cw_whistleboard_k21_calls_nearly_read_holds : PySem.Challenge.rw_whistleboard_k21_calls_nearly_read.Holds := by
  w_on; o_law; k_head; (case hw => w_witness2)
  k_fill
  refine L2.walk_ofK (l := PySem.Challenge.rw_whistleboard_k21_calls_nearly_read) (n := 63) (k := 5) (x := "_law_script") (CX := L2.CX0) (sp := My.sp_law) rfl (by decide) rfl ⟨rfl, by decide, by decide⟩ (fun w h Y => PySem.W.kIn_of Y) ?F (fun _ _ a ns hl _ hS => ⟨a, ns, rfl, hS, hl, fun _ => rfl⟩) (fun _ _ _ _ h => h)
  case F =>
    intro w mg fa h KX G hmg
    refine' My.all_mk KX G hmg ?a0 ?l0 ?c0 ?k0 ?a1 ?l1 ?c1 ?k1 ?a2 ?l2 ?c2 ?k2 ?a3 ?l3 ?c3 ?k3 ?a4 ?l4 ?c4 ?k4 ?a5 ?l5 ?c5 ?k5 ?a6 ?l6 ?c6 ?k6 ?a7 ?l7 ?c7 ?k7 ?a8 ?l8 ?c8 ?k8 ?a9 ?l9 ?c9 ?k9 ?a10 ?l10 ?c10 ?k10 ?a11 ?l11 ?c11 ?k11 ?a12 ?l12 ?c12 ?k12 ?a13 ?l13 ?c13 ?k13 ?a14 ?l14 ?c14 ?k14 ?z_len ?z_abs ?z_all ?z_str ?z_int ?z_isinstance ?z_range ?z_max ?z_min ?z_bool ?z_list ?z_tuple ?z_enumerate ?z_zip ?z_ValueError ?g_LONGEST_NAME ?g_MOST_PUMPS ?g_WORDS_WITHOUT_NUMBER ?g_WORDS_WITH_NUMBER ?g_LETTERS ?gDUE ?lDUE ?sDUE ?hDUE ?gB ?gN1 ?gN2 ?gN3 ?gN4 ?gN5 ?clB ?veB ?saB ?kB ?bB ?tB ?noB ?iB ?tIB ?vVB ?lI ?cI ?kI ?e1 ?e2 ?e4 ?e5 ?e6 ?e7 ?e8 ?sB ?kt0 ?kt1 ?kt2 ?kt3 ?kt4 ?kt5
    (case a0 => k_is)
    (case l0 => k_is)
    (case c0 => k_is)
    (case k0 => k_is)
    (case a1 => k_is)
    (case l1 => k_is)
    (case c1 => k_is)
    (case k1 => k_is)
    (case a2 => k_is)
    (case l2 => k_is)
    (case c2 => k_is)
    (case k2 => k_is)
    (case a3 => k_is)
    (case l3 => k_is)
    (case c3 => k_is)
    (case k3 => k_is)
    (case a4 => k_is)
    (case l4 => k_is)
    (case c4 => k_is)
    (case k4 => k_is)
    (case a5 => k_is)
    (case l5 => k_is)
    (case c5 => k_is)
    (case k5 => k_is)
    (case a6 => k_is)
    (case l6 => k_is)
    (case c6 => k_is)
    (case k6 => k_is)
    (case a7 => k_is)
    (case l7 => k_is)
    (case c7 => k_is)
    (case k7 => k_is)
    (case a8 => k_is)
    (case l8 => k_is)
    (case c8 => k_is)
    (case k8 => k_is)
    (case a9 => k_is)
    (case l9 => k_is)
    (case c9 => k_is)
    (case k9 => k_is)
    (case a10 => k_is)
    (case l10 => k_is)
    (case c10 => k_is)
    (case k10 => k_is)
    (case a11 => k_is)
    (case l11 => k_is)
    (case c11 => k_is)
    (case k11 => k_is)
    (case a12 => k_is)
    (case l12 => k_is)
    (case c12 => k_is)
    (case k12 => k_is)
    (case a13 => k_is)
    (case l13 => k_is)
    (case c13 => k_is)
    (case k13 => k_is)
    (case a14 => k_is)
    (case l14 => k_is)
    (case c14 => k_is)
    (case k14 => k_is)
    (case z_len => k_is)
    (case z_abs => k_is)
    (case z_all => k_is)
    (case z_str => k_is)
    (case z_int => k_is)
    (case z_isinstance => k_is)
    (case z_range => k_is)
    (case z_max => k_is)
    (case z_min => k_is)
    (case z_bool => k_is)
    (case z_list => k_is)
    (case z_tuple => k_is)
    (case z_enumerate => k_is)
    (case z_zip => k_is)
    (case z_ValueError => k_is)
    (case g_LONGEST_NAME => k_is)
    (case g_MOST_PUMPS => k_is)
    (case g_WORDS_WITHOUT_NUMBER => k_is)
    (case g_WORDS_WITH_NUMBER => k_is)
    (case g_LETTERS => k_is)
    (case gDUE => k_is)
    (case lDUE => k_is)
    (case sDUE => first | rfl | decide +kernel)
    (case hDUE => exact ⟨⟨⟨_, _, rfl, rfl⟩, ⟨_, _, rfl, rfl⟩, ⟨_, _, rfl, rfl⟩, ⟨_, _, rfl, rfl⟩, ⟨_, _, rfl, rfl⟩, ⟨_, _, rfl, rfl⟩, trivial⟩, rfl⟩)
    (case gB => k_is)
    (case gN1 => k_is)
    (case gN2 => k_is)
    (case gN3 => k_is)
    (case gN4 => k_is)
    (case gN5 => k_is)
    (case clB => first | k_is | rfl)
    (case veB => first | rfl | decide +kernel)
    (case saB => k_is)
    (case kB => k_is)
    (case bB => k_is)
    (case tB => k_is)
    (case noB => k_is)
    (case iB => k_is)
    (case tIB => k_is)
    (case vVB => first | k_is | rfl)
    (case lI => k_is)
    (case cI => k_is)
    (case kI => k_is)
    (case e1 => k_is)
    (case e2 => k_is)
    (case e4 => k_is)
    (case e5 => k_is)
    (case e6 => k_is)
    (case e7 => k_is)
    (case e8 => k_is)
    (case sB => first | k_is | rfl | decide +kernel)
    (case kt0 => first | k_is | rfl | decide +kernel)
    (case kt1 => first | k_is | rfl | decide +kernel)
    (case kt2 => first | k_is | rfl | decide +kernel)
    (case kt3 => first | k_is | rfl | decide +kernel)
    (case kt4 => first | k_is | rfl | decide +kernel)
    (case kt5 => first | k_is | rfl | decide +kernel)
