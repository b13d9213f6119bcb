import PyProof.Rows.All
import Wide.All
import OpenK.AllK
import Wide.FinOn
import PySem.Challenge.RW_whistleboard_k19_attendance
import HandS.Text
import PyProof.Rows.StrCase
import HandS.ForMost
import HandS.ForExc
import HandS.ExcInit
import KE.KExcInit
import HandS.Flow
import HandS.IsInst
import HandS.More
import HandS.Walk
import HandS.Zip
import HandS.ExcField
import HandS.ExcIs
import HandS.Defaults
import HandS.CallSlots
import KE.KExcIs
set_option Elab.async false
set_option linter.all false
set_option maxRecDepth 100000
set_option maxHeartbeats 4000000
namespace My
open PySem PySem.Spec PyProof.Rows TL
/-! ### words between blanks -/
abbrev WSt := List (List Nat) × List Nat
def wst (st : WSt) (c : Nat) : WSt := if c = 32 then (if st.2 = [] then st else (st.1 ++ [st.2], [])) else (st.1, st.2 ++ [c])
def wfn (st : WSt) : List (List Nat) := if st.2 = [] then st.1 else st.1 ++ [st.2]
def wds (l : List Nat) : List (List Nat) := wfn (l.foldl wst ([], []))
theorem pre32 (c : Nat) (r : List Nat) : pre [32] (c :: r) = decide (c = 32) := by
  unfold pre
  show ([c] == [32]) = decide (c = 32)
  by_cases h : c = 32
  · rw [h]; rfl
  · rw [decide_eq_false h]
    exact beq_eq_false_iff_ne.mpr fun z => h (List.cons.inj z).1
theorem spl_step (acc : List Nat) (c : Nat) (r : List Nat) : spl [32] 0 acc (c :: r) = if c = 32 then acc :: spl [32] 0 [] r else spl [32] 0 (acc ++ [c]) r := by
  by_cases h : c = 32
  · rw [if_pos h, spl_hit (by rw [pre32, decide_eq_true h])]
    rfl
  · rw [if_neg h, spl_miss (by rw [pre32, decide_eq_false h])]
def ne0 (x : List Nat) : Bool := !x.isEmpty
theorem ne0_nil : ne0 [] = false := rfl
theorem ne0_iff {x : List Nat} : ne0 x = true ↔ x ≠ [] := by
  cases x <;> simp [ne0]
theorem spl_wds : ∀ (l acc : List Nat) (D : List (List Nat)), D ++ (spl [32] 0 acc l).filter ne0 = wfn (l.foldl wst (D, acc))
  | [], acc, D => by
    rw [spl_nil]
    show D ++ [acc].filter ne0 = wfn (D, acc)
    unfold wfn
    by_cases h : acc = []
    · rw [if_pos h, h]
      show D ++ [] = D
      rw [List.append_nil]
    · rw [if_neg h, List.filter_cons_of_pos (ne0_iff.mpr h)]
      rfl
  | c :: r, acc, D => by
    rw [spl_step, List.foldl_cons]
    by_cases h : c = 32
    · rw [if_pos h]
      unfold wst
      rw [if_pos h]
      by_cases e : acc = []
      · show D ++ (acc :: spl [32] 0 [] r).filter ne0 = wfn (r.foldl wst (if acc = [] then (D, acc) else (D ++ [acc], [])))
        rw [if_pos e, List.filter_cons_of_neg (by rw [e]; decide), ← spl_wds r acc D, e]
      · show D ++ (acc :: spl [32] 0 [] r).filter ne0 = wfn (r.foldl wst (if acc = [] then (D, acc) else (D ++ [acc], [])))
        rw [if_neg e, List.filter_cons_of_pos (ne0_iff.mpr e), ← spl_wds r [] (D ++ [acc]), List.append_assoc]
        rfl
    · rw [if_neg h]
      have e : wst (D, acc) c = (D, acc ++ [c]) := by
        unfold wst
        rw [if_neg h]
      rw [e, ← spl_wds r (acc ++ [c]) D]
theorem spl_mem : ∀ (l acc : List Nat) (p : List Nat), p ∈ spl [32] 0 acc l → ∀ c ∈ p, c ∈ acc ∨ c ∈ l
  | [], acc, p, hp, c, hc => by
    rw [spl_nil] at hp
    have := List.mem_singleton.mp hp
    subst this
    exact .inl hc
  | a :: r, acc, p, hp, c, hc => by
    rw [spl_step] at hp
    by_cases h : a = 32
    · rw [if_pos h] at hp
      rcases List.mem_cons.mp hp with e | e
      · subst e
        exact .inl hc
      · rcases spl_mem r [] p e c hc with q | q
        · cases q
        · exact .inr (List.mem_cons_of_mem _ q)
    · rw [if_neg h] at hp
      rcases spl_mem r (acc ++ [a]) p hp c hc with q | q
      · rcases List.mem_append.mp q with q | q
        · exact .inl q
        · exact .inr (List.mem_cons.mpr (.inl (List.mem_singleton.mp q)))
      · exact .inr (List.mem_cons_of_mem _ q)
theorem spl_free : ∀ (l acc : List Nat) (p : List Nat), 32 ∉ acc → p ∈ spl [32] 0 acc l → 32 ∉ p
  | [], acc, p, ha, hp => by
    rw [spl_nil] at hp
    have := List.mem_singleton.mp hp
    subst this
    exact ha
  | a :: r, acc, p, ha, hp => by
    rw [spl_step] at hp
    by_cases h : a = 32
    · rw [if_pos h] at hp
      rcases List.mem_cons.mp hp with e | e
      · subst e
        exact ha
      · exact spl_free r [] p (fun z => by cases z) e
    · rw [if_neg h] at hp
      refine spl_free r (acc ++ [a]) p (fun z => ?_) hp
      rcases List.mem_append.mp z with q | q
      · exact ha q
      · exact h (List.mem_singleton.mp q).symm
theorem lo1_blank (c : Nat) : lo1 c = 32 ↔ c = 32 := by
  unfold lo1
  split <;> omega
theorem spl_low : ∀ (l acc : List Nat), spl [32] 0 (acc.map lo1) (l.map lo1) = (spl [32] 0 acc l).map (List.map lo1)
  | [], acc => by rw [List.map_nil, spl_nil, spl_nil]; rfl
  | c :: r, acc => by
    rw [List.map_cons, spl_step, spl_step]
    by_cases h : c = 32
    · rw [if_pos h, if_pos ((lo1_blank c).mpr h), List.map_cons, ← spl_low r []]
      rfl
    · rw [if_neg h, if_neg (fun z => h ((lo1_blank c).mp z)), ← spl_low r (acc ++ [c]), List.map_append]
      rfl
/-! ### the words of a call's text -/
def Asc (n : Nat) (z : Str) : Prop := z.length ≤ n ∧ ∀ c ∈ tl z, c < 128
abbrev bl1 : Str := Str.ofString " "
theorem tl_bl1 : tl bl1 = [32] := by decide +kernel
def cw (z : Str) : List Str := ((Txt.split z bl1).filter (fun w => w.length != 0)).map Txt.lower
theorem split_tl (z : Str) : (Txt.split z bl1).map tl = spl [32] 0 [] (tl z) := by
  have q := split_spl z bl1 (by rw [tl_bl1]; intro h; cases h) (kind_ok (by decide +kernel))
  rw [tl_bl1] at q
  exact q
theorem lower_tl {x : Str} (h : ∀ c ∈ tl x, c < 128) : tl (Txt.lower x) = (tl x).map lo1 := by
  rw [lower_ascii h]
  exact Array.toList_map
theorem upper_tl {x : Str} (h : ∀ c ∈ tl x, c < 128) : tl (Txt.upper x) = (tl x).map up1 := by
  rw [upper_ascii h]
  exact Array.toList_map
theorem filter_tl (l : List Str) : (l.filter (fun w => w.length != 0)).map tl = (l.map tl).filter ne0 := by
  induction l with
  | nil => rfl
  | cons w l ih =>
    have e : (w.length != 0) = ne0 (tl w) := by
      rw [len_tl]
      cases tl w <;> rfl
    rw [List.map_cons]
    cases h : ne0 (tl w) with
    | true =>
      rw [List.filter_cons_of_pos (by rw [e, h]), List.filter_cons_of_pos h, List.map_cons, ih]
    | false =>
      rw [List.filter_cons_of_neg (by rw [e, h]; decide), List.filter_cons_of_neg (by rw [h]; decide), ih]
theorem part_asc {z w : Str} (hz : ∀ c ∈ tl z, c < 128) (hw : w ∈ Txt.split z bl1) : ∀ c ∈ tl w, c < 128 := fun c hc => by
  have m : tl w ∈ spl [32] 0 [] (tl z) := by
    rw [← split_tl]
    exact List.mem_map.mpr ⟨w, hw, rfl⟩
  rcases spl_mem _ _ _ m c hc with q | q
  · cases q
  · exact hz c q
theorem cw_tl {z : Str} (hz : ∀ c ∈ tl z, c < 128) : (cw z).map tl = (wds (tl z)).map (List.map lo1) := by
  have e := spl_wds (tl z) [] []
  rw [List.nil_append] at e
  unfold wds
  rw [← e, ← split_tl, ← filter_tl]
  unfold cw
  rw [List.map_map, List.map_map]
  refine List.map_congr_left fun w hw => ?_
  exact lower_tl (part_asc hz ((List.mem_filter.mp hw).1))
theorem cw_eq {z : Str} {ws : List Str} (hz : ∀ c ∈ tl z, c < 128) (h : (wds (tl z)).map (List.map lo1) = ws.map tl) : cw z = ws := map_tl_inj ((cw_tl hz).trans h)
/-! ### the machine at blanks and signs -/
theorem wst_blanks (st : WSt) : ∀ k : Nat, (List.replicate (k + 1) 32).foldl wst st = (wfn st, [])
  | 0 => by
    show wst st 32 = _
    unfold wst wfn
    rw [if_pos rfl]
    split
    · rename_i h
      rw [← h]
    · rfl
  | k + 1 => by
    rw [List.replicate_succ', List.foldl_append, wst_blanks st k]
    rfl
theorem wst_blank0 {st : WSt} (h : st.2 = []) : ∀ k : Nat, (List.replicate k 32).foldl wst st = st
  | 0 => rfl
  | k + 1 => by
    rw [wst_blanks]
    unfold wfn
    rw [if_pos h, ← h]
theorem wst_sign (st : WSt) {c : Nat} (h : c ≠ 32) : wst st c = (st.1, st.2 ++ [c]) := by
  unfold wst
  rw [if_neg h]
theorem wfn_blanks (st : WSt) : ∀ k : Nat, wfn ((List.replicate k 32).foldl wst st) = wfn st
  | 0 => rfl
  | k + 1 => by
    rw [wst_blanks]
    unfold wfn
    rw [if_pos rfl]
/-! ### what is due at each place -/
def kinds : List Str := ["car", "chimney", "grass", "house", "people", "works"]
def isNm (w : Str) : Bool := decide (1 ≤ w.length ∧ w.length ≤ 8) && (tl w).all (fun c => decide (97 ≤ c ∧ c ≤ 122))
def numS (k : Nat) : Str := Str.ofString (toString ((k : Nat) : Int))
def pumpsL : List Str := (List.range 20).map (fun k => numS (1 + k))
def okAt : Nat → Str → Bool
  | 0, w => decide (w ∈ kinds)
  | 1, w => decide (w = Str.ofString "at")
  | 2, w => isNm w
  | 3, w => decide (w = Str.ofString "make")
  | 4, w => decide (w ∈ pumpsL)
  | _ + 5, _ => false
theorem letters_mem (c : Nat) : c ∈ tl (Str.ofString "abcdefghijklmnopqrstuvwxyz") ↔ 97 ≤ c ∧ c ≤ 122 := by
  have e : tl (Str.ofString "abcdefghijklmnopqrstuvwxyz") = (List.range 26).map (97 + ·) := by decide +kernel
  rw [e, List.mem_map]
  constructor
  · rintro ⟨k, hk, rfl⟩
    have := List.mem_range.mp hk
    omega
  · intro h
    exact ⟨c - 97, List.mem_range.mpr (by omega), by omega⟩
/-- small letters and figures: what the law's words have -/
def Sm (c : Nat) : Prop := (97 ≤ c ∧ c ≤ 122) ∨ (48 ≤ c ∧ c ≤ 57)
theorem Sm.lo {c : Nat} (h : Sm c) : lo1 c = c := by
  unfold lo1
  rcases h with h | h
  · rw [if_neg (by omega)]
  · rw [if_neg (by omega)]
theorem Sm.up {c : Nat} (h : Sm c) : lo1 (up1 c) = c ∧ up1 c ≠ 32 ∧ up1 c < 128 := by
  rcases h with h | h
  · have e : up1 c = c - 32 := if_pos h
    rw [e]
    unfold lo1
    rw [if_pos (by omega)]
    omega
  · have e : up1 c = c := if_neg (by omega)
    rw [e]
    unfold lo1
    rw [if_neg (by omega)]
    omega
theorem Sm.ne {c : Nat} (h : Sm c) : c ≠ 32 ∧ c < 128 := by
  unfold Sm at h
  omega
theorem pumps_facts : ∀ k, k < 20 → intText? (numS (1 + k)) = some ((1 + k : Nat) : Int) ∧ (numS (1 + k)).length ≤ 2 ∧ tl (numS (1 + k)) ≠ [] ∧ (∀ c ∈ tl (numS (1 + k)), 48 ≤ c ∧ c ≤ 57) := by decide +kernel
theorem kinds_facts : ∀ w ∈ kinds, isNm w = true := by decide +kernel
theorem isNm_at : isNm (Str.ofString "at") = true := by decide +kernel
theorem isNm_make : isNm (Str.ofString "make") = true := by decide +kernel
theorem isNm_sm {w : Str} (h : isNm w = true) : tl w ≠ [] ∧ (∀ c ∈ tl w, 97 ≤ c ∧ c ≤ 122) ∧ w.length ≤ 8 := by
  unfold isNm at h
  rw [Bool.and_eq_true, decide_eq_true_eq, List.all_eq_true] at h
  refine ⟨fun z => ?_, fun c hc => of_decide_eq_true (h.2 c hc), h.1.2⟩
  have := h.1.1
  rw [len_tl, z] at this
  exact absurd this (by decide)
theorem isNm_of {w : Str} (h0 : 1 ≤ w.length) (h1 : w.length ≤ 8) (h2 : ∀ c ∈ tl w, 97 ≤ c ∧ c ≤ 122) : isNm w = true := by
  unfold isNm
  rw [Bool.and_eq_true, decide_eq_true_eq, List.all_eq_true]
  exact ⟨⟨h0, h1⟩, fun c hc => decide_eq_true (h2 c hc)⟩
/-- the words of a right call -/
inductive GoodWs : List Str → Prop where
  | three {k p : Str} (hk : k ∈ kinds) (hp : isNm p = true) : GoodWs [k, Str.ofString "at", p]
  | five {k p : Str} {n : Nat} (hk : k ∈ kinds) (hp : isNm p = true) (hn : n < 20) : GoodWs [k, Str.ofString "at", p, Str.ofString "make", numS (1 + n)]
theorem nm_sm {w : Str} (h : isNm w = true) : tl w ≠ [] ∧ (∀ c ∈ tl w, Sm c) ∧ w.length ≤ 8 :=
  ⟨(isNm_sm h).1, fun c hc => .inl ((isNm_sm h).2.1 c hc), (isNm_sm h).2.2⟩
theorem num_sm {n : Nat} (h : n < 20) : tl (numS (1 + n)) ≠ [] ∧ (∀ c ∈ tl (numS (1 + n)), Sm c) ∧ (numS (1 + n)).length ≤ 8 := by
  obtain ⟨_, h1, h2, h3⟩ := pumps_facts n h
  exact ⟨h2, fun c hc => .inr (h3 c hc), by omega⟩
theorem GoodWs.sm {ws : List Str} (g : GoodWs ws) : ∀ w ∈ ws, tl w ≠ [] ∧ (∀ c ∈ tl w, Sm c) ∧ w.length ≤ 8 := by
  cases g with
  | three hk hp =>
    intro w hw
    simp only [List.mem_cons, List.not_mem_nil, or_false] at hw
    rcases hw with rfl | rfl | rfl
    · exact nm_sm (kinds_facts _ hk)
    · exact nm_sm isNm_at
    · exact nm_sm hp
  | five hk hp hn =>
    intro w hw
    simp only [List.mem_cons, List.not_mem_nil, or_false] at hw
    rcases hw with rfl | rfl | rfl | rfl | rfl
    · exact nm_sm (kinds_facts _ hk)
    · exact nm_sm isNm_at
    · exact nm_sm hp
    · exact nm_sm isNm_make
    · exact num_sm hn
theorem GoodWs.ok {ws : List Str} (g : GoodWs ws) : ∀ (i : Nat) (w : Str), ws[i]? = some w → okAt i w = true := by
  cases g with
  | three hk hp =>
    intro i w hw
    match i, hw with
    | 0, hw => cases hw; exact decide_eq_true hk
    | 1, hw => cases hw; decide +kernel
    | 2, hw => cases hw; exact hp
  | five hk hp hn =>
    intro i w hw
    match i, hw with
    | 0, hw => cases hw; exact decide_eq_true hk
    | 1, hw => cases hw; decide +kernel
    | 2, hw => cases hw; exact hp
    | 3, hw => cases hw; decide +kernel
    | 4, hw => cases hw; exact decide_eq_true (List.mem_map.mpr ⟨_, List.mem_range.mpr hn, rfl⟩)
/-! ### the text that the law writes -/
/-- behind i whole words -/
def At (ws : List Str) (i : Nat) (st : WSt) : Prop := (i = 0 ∧ st = ([], [])) ∨ (0 < i ∧ st.2 ≠ [] ∧ (st.1 ++ [st.2]).map (List.map lo1) = (ws.take i).map tl)
/-- at the j-th sign of the word w, behind i whole ones -/
def Amid (ws : List Str) (i : Nat) (w : Str) (j : Nat) (st : WSt) : Prop := st.1.map (List.map lo1) = (ws.take i).map tl ∧ st.2.map lo1 = (tl w).take j
theorem At.blanks {ws : List Str} {i : Nat} {st : WSt} (h : At ws i st) (w : Str) {k : Nat} (hk : i ≠ 0 → k ≠ 0) : Amid ws i w 0 ((List.replicate k 32).foldl wst st) := by
  rcases h with ⟨rfl, rfl⟩ | ⟨hi, h1, h2⟩
  · rw [wst_blank0 rfl]
    exact ⟨rfl, rfl⟩
  · obtain ⟨m, rfl⟩ : ∃ m, k = m + 1 := ⟨k - 1, by have := hk (by omega); omega⟩
    rw [wst_blanks]
    refine ⟨?_, rfl⟩
    show (wfn st).map (List.map lo1) = _
    unfold wfn
    rw [if_neg h1]
    exact h2
theorem Amid.step {ws : List Str} {i j : Nat} {w : Str} {st : WSt} {c d : Nat} (h : Amid ws i w j st) (hc : (tl w)[j]? = some c) (hd : lo1 d = c) (hn : d ≠ 32) : Amid ws i w (j + 1) (wst st d) := by
  rw [wst_sign st hn]
  refine ⟨h.1, ?_⟩
  show (st.2 ++ [d]).map lo1 = _
  rw [List.map_append, h.2, List.take_add_one, hc, List.map_cons, hd]
  rfl
theorem Amid.done {ws : List Str} {i : Nat} {w : Str} {st : WSt} (h : Amid ws i w (tl w).length st) (hw : ws[i]? = some w) (hne : tl w ≠ []) : At ws (i + 1) st := by
  have h2 := h.2
  rw [List.take_length] at h2
  refine .inr ⟨Nat.succ_pos _, fun z => ?_, ?_⟩
  · rw [z] at h2
    exact hne h2.symm
  · rw [List.map_append, h.1, List.take_add_one, hw, List.map_cons, List.map_nil, h2, List.map_append]
    rfl
theorem At.fin {ws : List Str} {st : WSt} (h : At ws ws.length st) (hne : ws ≠ []) (k : Nat) : (wfn ((List.replicate k 32).foldl wst st)).map (List.map lo1) = ws.map tl := by
  rw [wfn_blanks]
  rcases h with ⟨h0, _⟩ | ⟨_, h1, h2⟩
  · exact absurd (List.length_eq_zero_iff.mp h0) hne
  · unfold wfn
    rw [if_neg h1, h2, List.take_length]
end My

set_option Elab.async false
set_option linter.all false
set_option maxRecDepth 100000
set_option maxHeartbeats 4000000
namespace My
open PySem PySem.Spec PyProof.Rows L2
abbrev bt_le : List Value := [.type "LookupError", .type "Exception", .type "BaseException", .type "object"]
/-- what the written part says of an own class over LookupError, at C -/
structure Gx_le (K : PySem.W.Frag) (C : Addr) : Prop where
  cls : ∃ nm q N bs bm sn sub ab col dd k0 k1 k2 k3 k5, K.lookup C = some (excClassObj nm q C N bs bm true sn sub ab col dd k0 k1 k2 k3 k5 "LookupError.__new__") ∧ PySem.W.excTail bt_le bm = true
  ov : PySem.W.excOver K C bt_le = true
  st : PySem.W.findIn K (.ref C) "__setattr__" = some (some (.builtin "object.__setattr__"))
  hb : PySem.W.subIn K (.ref C) (.type "BaseException") = some true
  ht : PySem.W.typeIn K (.ref C) = some (.type "type")
  hk : PySem.W.keepIn K (.ref C) = true
section
variable {X : Cx} {pins : List (Addr × Obj)} {σ : L2.St} {H : Hp} {s : Shared} {a C : Addr} {f : Str} {y : V} {u : Value} {Q : Unit → Shared → Prop} {E : Value → Shared → Prop} {A : Around}
theorem gfirst_le (T : Gx_le X.K C) (I : Inv X pins σ H s) (ea : H a = some (exo a C none)) (hno : PySem.W.findIn X.K (.ref C) f = some none) (ry : RelV y u)
    (done : ∀ dx s', H dx = none → dx ≠ a → Inv X pins σ (upd (upd H dx (exd dx [(f, y)])) a (exo a C (some dx))) s' → Q () s') : wpAny (model X.prog X.w) A (setAttr (.ref a) f u) Q E s := by
  obtain ⟨nm, q, N, bs, bm, sn, sub, ab, col, dd, k0, k1, k2, k3, k5, hC, hbm⟩ := T.cls
  have hcl : PySem.W.clsIn X.K C = some { name := nm, bases := bs, mro := .ref C :: bm, ns := N, qualname := q, hasDict := true, slotNames := sn, subclasses := sub, abstract := ab, collection := col, hasDel := false } := by
    unfold PySem.W.clsIn
    rw [hC] <;> rfl
  obtain ⟨t1, here⟩ := exo_at I.hok ea
  have inst : PySem.W.InstAt s.heap a { cls := .ref C, dict := none, data := .fields #[.ref t1, .none, .none, .none, .bool false, .none] } C none := ⟨here, rfl, rfl, trivial⟩
  refine PySem.W.set_plain I.kIn inst T.st ?_
  have tk0 : PySem.W.takerIn X.K C f = some none := by
    unfold PySem.W.takerIn
    rw [hno]
    rfl
  refine PySem.W.osa_openX (od := none) PySem.F.store_LookupError I.kIn inst T.ov tk0 fun b => ?_
  obtain ⟨hp, gs, dr, tk, os⟩ := s
  refine wpAny_bind (wpAny_pure (wpAny_bind (PySem.W.instanceDict_exc here (PySem.W.looks_clsIn I.kIn hcl) rfl ?_)))
  have old : ∀ {b : Addr} {o : Obj}, hp.get? b = some o → b ≠ hp.objs.size := fun {b o} w => Nat.ne_of_lt (Heap.lt_size w)
  have aold : a ≠ hp.objs.size := old here
  have fresh : H hp.objs.size = none := I.hok.fresh (Nat.le_refl _)
  refine PySem.HandSPX.store_in_new ⟨_, #[], _, (Heap.get?_update_ne _ _ _ _ (Ne.symm aold)).trans (Heap.get?_push_at rfl rfl), rfl, fun w hw => absurd hw (by simp), fun _ => rfl⟩ fun h1 tk1 hns hsame => ?_
  have pushed : (hp.push { cls := .type "dict", data := .dict #[] }).get? a = some { cls := .ref C, dict := none, data := .fields #[.ref t1, .none, .none, .none, .bool false, .none] } := Heap.get?_push_of_some _ here
  have rest : ∀ (b : Addr) (o : Obj), b ≠ a → hp.get? b = some o → h1.get? b = some o := fun b o nb w => by
    rw [hsame.2 b (old w)]
    exact (Heap.get?_update_ne _ _ _ _ nb).trans (Heap.get?_push_of_some _ w)
  have self1 : h1.get? a = some { cls := .ref C, dict := some hp.objs.size, data := .fields #[.ref t1, .none, .none, .none, .bool false, .none] } := by
    rw [hsame.2 a aold]
    exact Heap.get?_update_self _ pushed rfl
  have nota : ∀ {b : Addr}, H b = none → b ≠ a := fun {b} w e => by
    rw [e, ea] at w
    cases w
  have keptT : ∀ {b : Addr} {o : HO}, H b = some o → b ≠ a → (upd (upd H hp.objs.size (exd hp.objs.size [(f, y)])) a (exo a C (some hp.objs.size))) b = some o := fun {b o} w nb => by
    rw [upd_ne nb, upd_ne (ne_of_none w fresh)]
    exact w
  have unh : Un X.fs [] H (upd (upd H hp.objs.size (exd hp.objs.size [(f, y)])) a (exo a C (some hp.objs.size))) hp h1 := by
    constructor
    · exact fun b o w n _ _ => rest b o (nota n) w
    · exact fun b o w n _ _ => ⟨o.slots, rest b o (nota n) w⟩
    · intro b o w n _
      rw [upd_ne (nota n), upd_ne (old w)]
      exact n
    · intro b o w _
      by_cases e : b = a
      · subst e
        exact ⟨_, self1⟩
      · exact ⟨o, rest b o e w⟩
    · exact fun b xs w => keptT w (at_ne ea w exo_tup)
    · exact fun b o v w => keptT w (at_ne ea w exo_frz)
    · exact fun b ps w => ⟨#[], by rw [keptT w (at_ne ea w exo_tbl)]; simp⟩
  refine done hp.objs.size _ fresh (Ne.symm aold) (I.un (t' := tk1) unh fun b o w => ?_)
  by_cases e : b = a
  · subst e
    rw [upd_same] at w
    cases w
    exact exo_ok self1
  rw [upd_ne e] at w
  by_cases e2 : b = hp.objs.size
  · subst e2
    rw [upd_same] at w
    cases w
    exact exd_ok hns (relO_put (fs := []) ry fun g => True.intro)
  rw [upd_ne e2] at w
  refine (I.hok b o w).stay (fun c v hc z => rest c v ?_ z) (fun c hc => keptT hc (at_ne ea hc exo_own)) (fun c xs hc => keptT hc (at_ne ea hc exo_tup))
  rcases hc with hc | hc
  · rw [hc]
    exact e
  · exact at_ne ea hc exo_own
theorem gbase_le {us : List Value} {Qv : Value → Shared → Prop} (T : Gx_le X.K C) (I : Inv X pins σ H s) (ea : H a = some (exo a C none)) (hl : us.length ≤ sizeLine) (done : ∀ s', Inv X pins σ H s' → Qv .none s') :
    wpAny (model X.prog X.w) A (call (.builtin "LookupError.__init__") (.ref a :: us)) Qv E s := by
  obtain ⟨nm, q, N, bs, bm, sn, sub, ab, col, dd, k0, k1, k2, k3, k5, hC, hbm⟩ := T.cls
  obtain ⟨t1, here⟩ := exo_at I.hok ea
  obtain ⟨hp, gs, dr, tk, os⟩ := s
  refine wpAny_call (PySem.HandSPX.init_base PySem.F.excBase_LookupError (fun Y => PySem.W.excTail_contains Y bm hbm) (I.kIn _ _ hC) here hl fun h1 t2 kept self1 => ?_)
  have back : upd H a (exo a C none) = H := funext fun b => by
    by_cases e : b = a
    · subst e
      rw [upd_same]
      exact ea.symm
    · exact upd_ne e
  have J := I.write (t' := tk) (x := a) (e := a) (o := exo a C none) (by rw [ea]; trivial) (.inl rfl) kept ⟨_, self1⟩ (exo_ok self1)
  rw [back] at J
  exact done _ J
end
/-- LookupError.__init__(self, ..) -/
def tBi_le (K : PySem.W.Frag) (ta : TA) : TE := fun σ H Q => ta σ H fun vs H1 => ∃ (a C : Addr) (ws : List V), vs = .ref a :: ws ∧ ws.length ≤ 1000 ∧ Gx_le K C ∧ H1 a = some (exo a C none) ∧ Q .non H1
/-- self.f = e, the first field -/
def tSt_le (K : PySem.W.Frag) (f : Str) (to te : TE) : TS := fun D σ H => te σ H fun y H1 => to σ H1 fun x H2 => ∃ a C : Addr, x = .ref a ∧ Gx_le K C ∧ PySem.W.findIn K (.ref C) f = some none ∧ H2 a = some (exo a C none) ∧ ∀ dx, H2 dx = none → dx ≠ a → D.nx σ (upd (upd H2 dx (exd dx [(f, y)])) a (exo a C (some dx)))
theorem typ_le : typeOf (.type "LookupError") = pure (.type "type") := by kernel_rfl
section
variable {X : Cx} {o e : Expr} {es : List Expr} {to te : TE} {ta : TA} {f : Str} {p p' p1 p2 pos : Pos}
theorem pe_bi_le {pl : Sem Bool} (hg : Gl X "LookupError") (hm : X.mg "LookupError" = none) (vV : PySem.W.findCls X.K (.type "LookupError") (.type "type") "__init__" = some (.val (.builtin "LookupError.__init__"))) (ha : PA X (e :: es) ta)
    (shape : eval (.Call (.Attribute (.Name "LookupError" p1) "__init__" p2) (e :: es) [] pos) X.env = (do
      let base ← eval (.Name "LookupError" p1) X.env
      standAt p2.atName
      let (fn, ahead) ← holding [base] (getMethod base "__init__" pl)
      callWith pos fn ahead (backTo pos (starEach (e :: es) X.env)) (backToKw pos (keywordEach [] X.env))) := by rfl)
    (he : starEach (e :: es) X.env = (false, eval e X.env) :: starEach es X.env := by rfl) (hpl : (backTo pos (starEach es X.env)).any (·.1) = false := by rfl) :
    PE X (.Call (.Attribute (.Name "LookupError" p1) "__init__" p2) (e :: es) [] pos) (tBi_le X.K ta) := by
  constructor
  intro pins s σ H Q I h
  refine PySem.W.methodCall_KW (ld_blt I hg hm PyProof.Rows.Boot.«LookupError» ?_ (by decide) (by decide)) shape
  obtain ⟨m, fr⟩ := I.fr
  refine PySem.W.method_type fr I.ok.mod.kin typ_le (by decide +kernel) vV (by decide +kernel) ?_
  show wpAny _ _ (callWith pos (Value.builtin "LookupError.__init__") [] (backTo pos (starEach (e :: es) X.env)) []) _ _ _
  refine PyProof.Rows.callWith_method1 (thn (ha.run pos pins _ σ H _ (I.tok _) h) fun us s1 got => ?_) he hpl
  obtain ⟨vs, H1, I1, r1, a, C, ws, rfl, few, T, ea, q⟩ := got
  cases r1 with
  | @cons _ u0 _ ur ra rr =>
    cases (show u0 = Value.ref a from ra)
    refine gbase_le T I1 ea ?_ fun s' J => ⟨.non, H1, J, rfl, q⟩
    have l1 := Paired.length rr
    rw [sizeLine_eq]
    omega
theorem ps_st_le (ho : PE X o to) (he : PE X e te) (hs : swapsWith e (some (.Attribute o f p')) pos.line X.env = pure false := by rfl) : PS X (.Assign [.Attribute o f p'] e pos) (tSt_le X.K f to te) := by
  constructor
  intro pins s σ H D I h
  refine plainObj_wpAny_Assign_Attribute (thn (he.run pins s σ H _ I h) fun v s1 got => ?_) hs
  obtain ⟨y, H1, I1, r1, q1⟩ := got
  refine thn (ho.run pins s1 σ H1 _ I1 q1) fun u s2 got2 => ?_
  obtain ⟨x, H2, I2, r2, a, C, rfl, T, hno, ea, q⟩ := got2
  cases (show u = Value.ref a from r2)
  exact gfirst_le T I2 ea hno r1 fun dx s' n ne J => ⟨σ, _, J, q dx n ne⟩
theorem pmk_le {CX : CXT} {x : Str} {C fI : Addr} {k : Nat} {fd : FuncData} {ps : List Str} {sp : Sp} (T : Gx_le X.K C) (iC : PySem.W.findIn X.K (.ref C) "__init__" = some (some (.ref fI))) (tI : PySem.W.typeIn X.K (.ref fI) = some (.type "function"))
    (F1 : FnOk X.prog X.w X.K X.mg X.base CX k fI fd ps sp) (hr : Room (k + 1) X.A) (hb : Binds X.K fd ps []) (hx : Passes CX X (fun _ _ _ => False)) (hg : Gl X x) (hm : X.mg x = some (.ref C)) (ha : PA X (e :: es) ta)
    (hdb : (x == ("__debug__" : Str)) = false := by decide) (he : starEach (e :: es) X.env = (false, eval e X.env) :: starEach es X.env := by rfl) (hpl : (backTo pos (starEach es X.env)).any (·.1) = false := by rfl) :
    PMk X (.Call (.Name x p) (e :: es) [] pos) (tMkO C sp [] ta) := by
  intro pins s σ H Q I h
  obtain ⟨nm, q, N, bs, bm, sn, sub, ab, col, dd, k0, k1, k2, k3, k5, hC, hbm⟩ := T.cls
  refine wpAny_Call_Name_kw (ld_glob I hg hm ?_ hdb)
  refine PySem.W.callWith_K (h₀ := X.base) I.ok.mod.kin T.hk (thn (ha.run pos pins s σ H _ I h) fun us s1 got => ?_) he hpl
  obtain ⟨vs, H1, I1, r1, few, q1⟩ := got
  refine ⟨I1.kIn, ?_⟩
  change wpAny (model X.prog X.w) _ (call (.ref C) us) _ _ s1
  obtain ⟨hp, gs, dr, tk, os⟩ := s1
  have le : hp.objs.size ≤ hp.objs.size + 1 := Nat.le_succ _
  have want := q1 (hp.objs.size + 1) (I1.hok.fresh le)
  have stays : ∀ b w, hp.get? b = some w → ((hp.push (PySem.W.kdv_tup us)).push (PySem.HandSPX.excO C hp.objs.size)).get? b = some w := fun b w z => Heap.get?_push_of_some _ (Heap.get?_push_of_some _ z)
  have itself : ((hp.push (PySem.W.kdv_tup us)).push (PySem.HandSPX.excO C hp.objs.size)).get? (hp.objs.size + 1) = some (PySem.HandSPX.excO C hp.objs.size) := by
    heap_get
  have I2 : Inv X pins σ (upd H1 (hp.objs.size + 1) (exo (hp.objs.size + 1) C none)) ⟨((hp.push (PySem.W.kdv_tup us)).push (PySem.HandSPX.excO C hp.objs.size)), gs, dr, tk, os⟩ := I1.laid (t' := tk) (a := hp.objs.size + 1) (o := exo (hp.objs.size + 1) C none) (h' := ((hp.push (PySem.W.kdv_tup us)).push (PySem.HandSPX.excO C hp.objs.size))) stays le (exo_ok itself)
  have r2 : Vals (V.ref (hp.objs.size + 1) :: (vs ++ [])) (Value.ref (hp.objs.size + 1) :: (us ++ [])) := .cons rfl (r1.append .nil)
  have lens : (Value.ref (hp.objs.size + 1) :: us ++ []).length = ps.length := by
    have l := r2.length
    rw [F1.len _ _ _ _ want] at l
    exact l.symm
  have short : us.length ≤ sizeLine := by
    have l := Paired.length r1
    rw [sizeLine_eq]
    omega
  have bound : BindsTo ⟨((hp.push (PySem.W.kdv_tup us)).push (PySem.HandSPX.excO C hp.objs.size)), gs, dr, tk, os⟩ fd ⟨Value.ref (hp.objs.size + 1) :: us, []⟩ (ps.zip (Value.ref (hp.objs.size + 1) :: (us ++ []))) := by
    have b := hb _ (Value.ref (hp.objs.size + 1) :: us) I2.kIn lens
    rw [List.cons_append] at b
    exact b
  refine wpAny_call (PySem.HandSPX.call_own PySem.F.excBase_LookupError (fun Y => PySem.W.excTail_contains Y bm hbm) (I1.kIn _ _ hC) (PySem.W.looks_findIn I1.kIn iC) (fun self => PySem.W.bind_fn I1.kIn self tI) short ?_)
  refine codeAny_mono (F1.run _ X.stack _ _ ⟨Value.ref (hp.objs.size + 1) :: us, []⟩ (Value.ref (hp.objs.size + 1) :: (us ++ [])) _ _ (fun _ _ _ => False) (hr.make C us []) (I2.env0.make C us []) bound r2 want) fun r s' got => ?_
  rcases r with er | fl
  · exact hx pins σ _ _ er s' I2 got
  cases fl with
  | ret v =>
    obtain ⟨v1, H2, os2, bare2, un2, hok2, rv, ev, d, fs, ea, ed, hd1, q2⟩ := got
    subst ev
    obtain ⟨h2, g2, d2, t2, os'⟩ := s'
    exact ⟨rv, mk_end (raises_own T.hb T.ht) I1 le stays un2 hok2 os2 bare2 ea ed hd1 q2⟩
  | next => exact False.elim got
  | brk => exact False.elim got
  | cont => exact False.elim got
end
end My

set_option Elab.async false
set_option linter.all false
set_option maxRecDepth 100000
set_option maxHeartbeats 4000000
namespace My
open PySem PySem.Spec PyProof.Rows L2
/-! ### own words over the layer -/
/-- a def that is called by its name and lets nothing out -/
def Cal (P : Program) (w : World) (K : PySem.W.Frag) (mg : Str → Option Value) (base : Heap) (k : Nat) (x : Str) (sp : Sp) : Prop :=
  ∃ (f : Addr) (fd : FuncData) (ps : List Str), FnOk P w K mg base CX0 k f fd ps sp ∧ mg x = some (.ref f) ∧ PySem.W.keepIn K (.ref f) = true ∧ Binds K fd ps []
theorem pe_cal {X : Cx} {k j : Nat} {x : Str} {sp : Sp} {p pos : Pos} {e : Expr} {es : List Expr} {t : TA} (c : Cal X.prog X.w X.K X.mg X.base k x sp) (hr : Room j X.A) (hk : k ≤ j) (hg : Gl X x) (ha : PA X (e :: es) t)
    (hdb : (x == ("__debug__" : Str)) = false := by decide) (he : starEach (e :: es) X.env = (false, eval e X.env) :: starEach es X.env := by rfl) (hpl : (backTo pos (starEach es X.env)).any (·.1) = false := by rfl) :
    PE X (.Call (.Name x p) (e :: es) [] pos) (tCall sp [] E0 t) := by
  obtain ⟨f, fd, ps, F, hm, kp, b⟩ := c
  exact pe_call F (hr.mono hk) hg hm kp b .nil pass0 ha hdb he hpl
theorem same_upd {H : Hp} {p : Addr} {o : HO} (h : H p = none) : Same H (upd H p o) := fun b x e => by
  rw [upd_ne (ne_of_none e h)]
  exact e
/-- a list or tuple of the given values, by its places -/
theorem atI_of {xs : List V} {z : Int} {v : V} (h0 : 0 ≤ z) (h : xs[z.toNat]? = some v) : atI xs z = some v := by
  have e : z = (z.toNat : Int) := (Int.toNat_of_nonneg h0).symm
  rw [e]
  exact atI_nat h
theorem ixN_nat {n : Nat} {j : Nat} (h : j < n) : ixN n (j : Int) = some j := by
  unfold ixN
  simp
  omega
/-! ### the bag -/
def Bag (H : Hp) (p : Addr) : Prop := ∃ g s : Int, H p = some (.lst [.int g, .int s]) ∧ 0 ≤ g ∧ 0 ≤ s ∧ s < 2147483648
/-- all stands but the bag at p -/
def Sx (p : Addr) (H H' : Hp) : Prop := ∀ b o, b ≠ p → H b = some o → H' b = some o
def topS (i : Nat) : Stmt := PySem.Challenge.pw_whistleboard_k19_attendance.main.body.getD i (.Pass ⟨0, 0, 0, 0⟩)
structure Txt (mg : Str → Option Value) : Prop where
  z_len : mg "len" = none
  z_abs : mg "abs" = none
  z_all : mg "all" = none
  z_str : mg "str" = none
  z_int : mg "int" = none
  z_isinstance : mg "isinstance" = none
  z_range : mg "range" = none
  z_max : mg "max" = none
  z_min : mg "min" = none
  z_bool : mg "bool" = none
  z_list : mg "list" = none
  z_tuple : mg "tuple" = none
  z_zip : mg "zip" = none
  z_LookupError : mg "LookupError" = none
  z_KeyError : mg "KeyError" = none
  z_IndexError : mg "IndexError" = none
  z_ValueError : mg "ValueError" = none
  g_MOST_RISK : ∃ t, mg "MOST_RISK" = some (.int 4 t)
  g_RISK_OF_ONE_MORE : ∃ t, mg "RISK_OF_ONE_MORE" = some (.int 1 t)
theorem Sx.of {p : Addr} {H H' : Hp} (h : ∀ b, b ≠ p → H' b = H b) : Sx p H H' := fun b o hb e => by
  rw [h b hb]
  exact e
theorem Sx.trans {p : Addr} {H H1 H2 : Hp} (a : Sx p H H1) (b : Sx p H1 H2) : Sx p H H2 := fun c o hc e => b c o hc (a c o hc e)
theorem Sx.same {p : Addr} {H H' : Hp} (h : Same H H') : Sx p H H' := fun b o _ e => h b o e
theorem Sx.toSame {p : Addr} {H H1 H2 : Hp} (a : Same H H1) (b : Sx p H1 H2) (np : H p = none) : Same H H2 := fun c o e => b c o (ne_of_none e np) (a c o e)
theorem Bag.some {p : Addr} {H : Hp} (h : Bag H p) : ∃ o, H p = some o := by
  obtain ⟨g, s, e, _⟩ := h
  exact ⟨_, e⟩
theorem Bag.same {p : Addr} {H H' : Hp} (h : Bag H p) (sm : Same H H') : Bag H' p := by
  obtain ⟨g, s, e, r⟩ := h
  exact ⟨g, s, sm _ _ e, r⟩
theorem Bag.ne {p l : Addr} {H : Hp} (h : Bag H p) (hl : H l = none) : l ≠ p := fun e => by
  obtain ⟨o, q⟩ := h.some
  rw [e, q] at hl
  cases hl
theorem neF (v : V) : V.bl (!decide (v = v)) = V.bl false := by
  rw [decide_eq_true rfl]
  rfl
theorem isF' {v : V} (h : v ≠ .non) : V.bl (decide (v = V.non)) = V.bl false := by
  rw [decide_eq_false h]
/-- no test in a comprehension -/
theorem yesI {σ : L2.St} {H : Hp} {A B : Hp → Prop} (h : A H) : tYes σ H (fun b H3 => if b = true then A H3 else B H3) := by
  show if true = true then A H else B H
  exact iteT h
theorem cal_mk {P : Program} {w : World} {K : PySem.W.Frag} {mg : Str → Option Value} {base : Heap} {k : Nat} {x : Str} {sp : Sp} {f : Addr} {fd : FuncData} {ps : List Str} (F : FnOk P w K mg base CX0 k f fd ps sp) (g : mg x = some (.ref f)) (kp : PySem.W.keepIn K (.ref f) = true) (b : Binds K fd ps []) : Cal P w K mg base k x sp := ⟨f, fd, ps, F, g, kp, b⟩
theorem pe_glob' {X : Cx} {x : Str} {pos : Pos} {i : Int} (h : ∃ t, X.mg x = some (.int i t)) (hg : Gl X x) (hd : (x == ("__debug__" : Str)) = false := by decide) : PE X (.Name x pos) (tC (.int i)) := by
  obtain ⟨t, e⟩ := h
  exact pe_glob hg e ⟨_, rfl⟩ (hd := hd)
theorem pe_globS {X : Cx} {x : Str} {pos : Pos} {i : Str} (h : ∃ t, X.mg x = some (.str i t)) (hg : Gl X x) (hd : (x == ("__debug__" : Str)) = false := by decide) : PE X (.Name x pos) (tC (.str i)) := by
  obtain ⟨t, e⟩ := h
  exact pe_glob hg e ⟨_, rfl⟩ (hd := hd)
section
variable {P : Program} {w : World} {K : PySem.W.Frag} {mg : Str → Option Value} {base : Heap}
/-! ### _law_take -/
abbrev s_law_take : Stmt := topS 13
abbrev N_law_take : List Str := ["_law_bag_here", "_law_many", "_law_digit"]
theorem sc_law_take : FnScope N_law_take ["_law_bag_here", "_law_many"] (defScope s_law_take) := ⟨rfl, rfl, rfl, by decide +kernel, rfl, by decide +kernel, by decide +kernel⟩
def sp_law_take : Sp := fun vs H Q _ => ∃ (p : Addr) (m : Int), vs = [.ref p, .int m] ∧ Bag H p ∧ 0 < m ∧ m < 1073741824 ∧
  ∀ d H', 0 ≤ d → d < m → Bag H' p → (∀ b, b ≠ p → H' b = H b) → Q (.int d) H'
theorem ok_law_take {f : Addr} {fd : FuncData} {k : Nat} (F : Fun K "_law_take" "_law_take" s_law_take f fd) : FnOk P w K mg base CX0 (k + 1) f fd ["_law_bag_here", "_law_many"] sp_law_take := by
  refine F.ok sc_law_take (fun vs H Q E h => ?_) (fun cdv A outer s H vs Q E hr h => ?_)
  · obtain ⟨p, m, rfl, _⟩ := h
    rfl
  · obtain ⟨p, m, rfl, ⟨g, sd, hp, hg, h0, h1⟩, hm0, hm1, q⟩ := h
    refine ⟨_, (pss_cons (ps_if (pt_cmpR op_gt (pe_ix ix_list (pv 0) pe_int (fun _ _ => rfl)) pe_int (nomark _)) (pss_cons (ps_set (i := 2) sc_law_take.nd rfl (.inl rfl) (pe_op op_mod (pe_ix ix_list (pv 0) pe_int (fun _ _ => rfl)) (pv 1)))
        (pss_cons (ps_asg (pe_op op_fdiv (pe_ix ix_list (pv 0) pe_int (fun _ _ => rfl)) (pv 1)) (pg_sub (pv 0) pe_int set_list))
        (pss_one (ps_ret (pv 2))))) pss_nil)
      (pss_cons (ps_asg (pe_op op_mod (pe_op op_add (pe_op op_mul (pe_ix ix_list (pv 0) pe_int (fun _ _ => rfl)) pe_int) pe_int) pe_int) (pg_sub (pv 0) pe_int set_list))
      (pss_one (ps_ret (pe_op op_mod (pe_op op_mod (pe_op op_pow (pe_op op_fdiv (pe_ix ix_list (pv 0) pe_int (fun _ _ => rfl)) pe_int) pe_int) pe_int) (pv 1)))))), ?_⟩
    have hL : SqL K H p [.int g, .int sd] := SqL.of hp
    refine ⟨_, rfl, p, _, 0, .int g, rfl, rfl, hL, atI_nat (j := 0) rfl, _, _, rfl, rfl, _, rfl, ite2 (fun e => ?_) (fun e => ?_)⟩
    · have eg : (0 : Int) < g := of_decide_eq_true e
      refine ⟨_, rfl, p, _, 0, .int g, rfl, rfl, hL, atI_nat (j := 0) rfl, _, rfl, _, _, rfl, rfl, hm0, ?_⟩
      refine ⟨_, rfl, p, _, 0, .int g, rfl, rfl, hL, atI_nat (j := 0) rfl, _, rfl, _, _, rfl, rfl, ⟨hm0, hm1⟩, ?_⟩
      refine ⟨_, rfl, p, _, 0, 0, rfl, rfl, hp, rfl, ?_⟩
      refine ⟨_, rfl, ?_⟩
      refine q _ _ (Int.emod_nonneg _ (by omega)) (Int.emod_lt_of_pos _ hm0) ⟨g / m, sd, upd_same, Int.ediv_nonneg hg (by omega), h0, h1⟩ (fun b hb => upd_ne hb)
    · refine ⟨_, rfl, p, _, 1, .int sd, rfl, rfl, hL, atI_nat (j := 1) rfl, _, _, rfl, rfl, .inl ⟨by omega, by omega⟩, _, _, rfl, rfl, _, _, rfl, rfl, (by show (0 : Int) < 2147483647; decide), ?_⟩
      refine ⟨_, rfl, p, _, 1, 1, rfl, rfl, hp, rfl, ?_⟩
      have e0 : 0 ≤ (sd * 48271 + 11) % 2147483647 := Int.emod_nonneg _ (by decide)
      have e1 : (sd * 48271 + 11) % 2147483647 < 2147483647 := Int.emod_lt_of_pos _ (by decide)
      refine ⟨_, rfl, p, _, 1, .int ((sd * 48271 + 11) % 2147483647), rfl, rfl, SqL.of upd_same, atI_nat (j := 1) rfl, _, _, rfl, rfl, ⟨by decide, by decide⟩, _, _, rfl, rfl, ⟨by decide, by decide, by omega⟩, _, _, rfl, rfl, (by show (0 : Int) < 2147483629; decide), _, rfl, _, _, rfl, rfl, hm0, ?_⟩
      refine q _ _ (Int.emod_nonneg _ (by omega)) (Int.emod_lt_of_pos _ hm0) ⟨g, _, upd_same, hg, e0, by omega⟩ (fun b hb => upd_ne hb)
/-! ### _law_bag -/
abbrev s_law_bag : Stmt := topS 12
abbrev N_law_bag : List Str := ["_law_script", "_law_at", "_law_cell", "_law_great", "_law_primes"]
theorem sc_law_bag : FnScope N_law_bag ["_law_script", "_law_at"] (defScope s_law_bag) := ⟨rfl, rfl, rfl, by decide +kernel, rfl, by decide +kernel, by decide +kernel⟩
def primes : List Int := [2147483629, 2147483587, 2147483579, 2147483563, 2147483549, 2147483543, 2147483497, 2147483489]
theorem primes_at (j : Nat) (h : j < 8) : ∃ p : Int, primes[j]? = some p ∧ 0 < p ∧ p < 2147483648 := by
  have q : ∀ j : Nat, j < 8 → ∃ p : Int, primes[j]? = some p ∧ 0 < p ∧ p < 2147483648 := fun j h =>
    match j, h with
    | 0, _ => ⟨_, rfl, by decide, by decide⟩ | 1, _ => ⟨_, rfl, by decide, by decide⟩ | 2, _ => ⟨_, rfl, by decide, by decide⟩ | 3, _ => ⟨_, rfl, by decide, by decide⟩
    | 4, _ => ⟨_, rfl, by decide, by decide⟩ | 5, _ => ⟨_, rfl, by decide, by decide⟩ | 6, _ => ⟨_, rfl, by decide, by decide⟩ | 7, _ => ⟨_, rfl, by decide, by decide⟩
    | n + 8, h => absurd h (by omega)
  exact q j h
def sp_law_bag (K : PySem.W.Frag) : Sp := fun vs H Q _ => ∃ (a : Addr) (ns : List Int) (at_ : Int), vs = [.ref a, .int at_] ∧ SqL K H a (ns.map V.int) ∧ 0 ≤ at_ ∧ at_ < 1000000 ∧
  ∀ H' p, Same H H' → H p = none → Bag H' p → Q (.ref p) H'
theorem ok_law_bag {f : Addr} {fd : FuncData} {k : Nat} (F : Fun K "_law_bag" "_law_bag" s_law_bag f fd) (T : Txt mg) : FnOk P w K mg base CX0 (k + 1) f fd ["_law_script", "_law_at"] (sp_law_bag K) := by
  refine F.ok sc_law_bag (fun vs H Q E h => ?_) (fun cdv A outer s H vs Q E hr h => ?_)
  · obtain ⟨a, ns, m, rfl, _⟩ := h
    rfl
  · obtain ⟨a, ns, m, rfl, hS, hm0, hm1, q⟩ := h
    refine ⟨_, (pss_cons (ps_set (i := 2) sc_law_bag.nd rfl (.inl rfl) pe_int)
      (pss_cons (ps_if (pt_cmpR op_lt (pv 1) (pe_callB call_len_seq (by rfl) T.z_len (by decide +kernel) (pa_cons (pv 0) pa_nil)) (nomark _)) (pss_one (ps_set (i := 2) sc_law_bag.nd rfl (.inl rfl) (pe_ix ix_list (pv 0) (pv 1) (fun _ _ => rfl)))) pss_nil)
      (pss_cons (ps_set (i := 3) sc_law_bag.nd rfl (.inl rfl) pe_int)
      (pss_cons (ps_if (pt_cmpR op_ge (pe_callB call_abs (by rfl) T.z_abs (by decide +kernel) (pa_cons (pv 2) pa_nil)) (pe_op op_pow pe_int pe_int) (nomark _)) (pss_one (ps_set (i := 3) sc_law_bag.nd rfl (.inl rfl) (pe_callB call_abs (by rfl) T.z_abs (by decide +kernel) (pa_cons (pv 2) pa_nil)))) pss_nil)
      (pss_cons (ps_set (i := 4) sc_law_bag.nd rfl (.inl rfl) (pe_lst (pa_cons pe_int (pa_cons pe_int (pa_cons pe_int (pa_cons pe_int (pa_cons pe_int (pa_cons pe_int (pa_cons pe_int (pa_cons pe_int pa_nil))))))))))
      (pss_one (ps_ret (pe_lst (pa_cons (pv 3) (pa_cons (pe_op op_mod (pe_op op_pow (pe_op op_add (pe_op op_add (pe_op op_mod (pv 2) pe_int) (pe_op op_mul pe_int (pv 1))) pe_int) pe_int) (pe_ix ix_list (pv 4) (pe_op op_mod (pv 1) pe_int) (fun _ _ => rfl))) pa_nil)))))))))), ?_⟩
    have nat8 : (m % 8).toNat < 8 := by omega
    obtain ⟨pr, hpr, pr0, pr1⟩ := primes_at _ nat8
    have hat : atI (primes.map V.int) (m % 8) = some (.int pr) := atI_of (by omega) (by rw [List.getElem?_map, hpr]; rfl)
    have hcell : ∀ x : Int, (x % 2147483647 + 104729 * m + 7).natAbs < 2 ^ 64 := fun x => by omega
    refine ⟨_, rfl, _, rfl, a, _, rfl, .inl hS, _, _, rfl, rfl, _, rfl, ite2 (fun e => ?g1) (fun e => ?g2)⟩
    case' g1 =>
      have hl : m.toNat < ns.length := by
        have z : m < ((ns.map V.int).length : Nat) := of_decide_eq_true e
        rw [List.length_map] at z
        omega
      have hc : atI (ns.map V.int) m = some (.int (ns[m.toNat])) := atI_of hm0 (by rw [List.getElem?_map, List.getElem?_eq_getElem hl]; rfl)
      refine ⟨_, rfl, _, rfl, a, _, _, _, rfl, rfl, hS, hc, ?_⟩
      generalize ns[m.toNat] = c
    all_goals
      refine ⟨_, rfl, _, rfl, _, _, rfl, rfl, ⟨by decide, by decide, by decide⟩, _, _, rfl, rfl, _, rfl, ite2 (fun e1 => ?_) (fun e1 => ?_)⟩
    all_goals try refine ⟨_, rfl, _, rfl, ?_⟩
    all_goals
      refine ⟨(by show 8 ≤ sizeLine; decide), fun tp ntp => ?_⟩
      refine ⟨_, rfl, _, rfl, _, _, rfl, rfl, (by show (0 : Int) < 2147483647; decide), _, rfl, _, _, rfl, rfl, .inl ⟨by decide, by decide⟩, _, _, rfl, rfl, _, _, rfl, rfl, _, _, rfl, rfl, ⟨by decide, by decide, hcell _⟩, _, rfl, _, rfl, _, _, rfl, rfl, (by show (0 : Int) < 8; decide), tp, _, _, _, rfl, rfl, SqL.of (xs := primes.map V.int) upd_same, hat, _, _, rfl, rfl, pr0, (by show 2 ≤ sizeLine; decide), fun p np => ?_⟩
      refine q _ p ((same_upd ntp).trans (same_upd np)) ((same_upd ntp).free np) ⟨_, _, upd_same, ?_, Int.emod_nonneg _ (by omega), Int.lt_trans (Int.emod_lt_of_pos _ pr0) pr1⟩
      first | decide | (split <;> omega)
end
end My

set_option Elab.async false
set_option linter.all false
set_option maxRecDepth 100000
set_option maxHeartbeats 4000000
namespace My
open PySem PySem.Spec PyProof.Rows L2 TL RZ
theorem str_app (a b : Str) : (a ++ b).length = a.length + b.length := Array.size_append
theorem reps_tl (c : Nat) : ∀ (n : Nat) (acc : Array Nat), ((List.replicate n (#[c] : Array Nat)).foldl (· ++ ·) acc).toList = acc.toList ++ List.replicate n c
  | 0, acc => by
    show acc.toList = acc.toList ++ []
    rw [List.append_nil]
  | n + 1, acc => by
    rw [List.replicate_succ, List.foldl_cons, reps_tl c n, Array.toList_append, List.append_assoc, List.replicate_succ]
    rfl
section
variable {X : Cx}
/-- a text times a number -/
theorem op_mulS : OpR X (binaryOp .Mult) (fun x y H Q => ∃ (z : Str) (n : Int), x = .str z ∧ y = .int n ∧ MulOk z n ∧ Q (.str (Txt.mul z n)) H) := by
  intro pins s σ H x y v u Q I rx ry h
  obtain ⟨z, n, rfl, rfl, hok, q⟩ := h
  obtain ⟨t, rfl⟩ := rx
  obtain ⟨t', rfl⟩ := ry
  exact SB.mul hok fun t' k => ⟨.str _, H, I.tok k, ⟨t', rfl⟩, q⟩
end
/-- zip of two tuples -/
theorem walk_zipT {K : PySem.W.Frag} {a b : Addr} {xs ys : List V} {n : Nat} (hn : n = min xs.length ys.length) : Walk (ItzT K a b) n (fun H => SqT K H a xs ∧ SqT K H b ys) (YPair (fun i => xs[i]?) (fun i => ys[i]?)) := by
  subst hn
  refine ⟨fun i _ hi q => ?_, fun _ q => ⟨xs, ys, q.1, q.2, by omega⟩, fun i H v H' _ q y => ?_⟩
  · have h1 : i < xs.length := by omega
    have h2 : i < ys.length := by omega
    exact ⟨xs, ys, xs[i], ys[i], q.1, q.2, by simp [h1], by simp [h2]⟩
  · obtain ⟨T, x, z, h1, h2, h3, h4, h5⟩ := y
    exact ⟨T, x, z, h1, h2, h3, h4 xs q.1, h5 ys q.2⟩
theorem Same.sqT {K : PySem.W.Frag} {H H' : Hp} {a : Addr} {xs : List V} (e : Same H H') (h : SqT K H a xs) : SqT K H' a xs := by
  rcases h with (h | ⟨o, h⟩) | h
  · exact .inl (.inl (e _ _ h))
  · exact .inl (.inr ⟨o, e _ _ h⟩)
  · exact .inr h
mutual
theorem Dp.same {K : PySem.W.Frag} {H H' : Hp} (sm : Same H H') : ∀ {v : V} {d : PyData}, Dp K H v d → Dp K H' v d
  | _, _, .non => .non
  | _, _, .bl b => .bl b
  | _, _, .int i => .int i
  | _, _, .str x => .str x
  | _, _, .lst h a => .lst (sm.seq h) (DpAll.same sm a)
  | _, _, .tup h a => .tup (Same.sqT sm h) (DpAll.same sm a)
theorem DpAll.same {K : PySem.W.Frag} {H H' : Hp} (sm : Same H H') : ∀ {vs : List V} {ds : List PyData}, DpAll K H vs ds → DpAll K H' vs ds
  | _, _, .nil => .nil
  | _, _, .cons h a => .cons (Dp.same sm h) (DpAll.same sm a)
end
theorem DpAll.len {K : PySem.W.Frag} {H : Hp} : ∀ {vs : List V} {ds : List PyData}, DpAll K H vs ds → vs.length = ds.length
  | _, _, .nil => rfl
  | _, _, .cons _ a => congrArg Nat.succ (DpAll.len a)
theorem DpAll.at {K : PySem.W.Frag} {H : Hp} : ∀ {vs : List V} {ds : List PyData} (_ : DpAll K H vs ds) (i : Nat) {x : V}, vs[i]? = some x → ∃ d, ds[i]? = some d ∧ Dp K H x d
  | _, _, .nil, i, x, h => by cases h
  | _, _, .cons h a, 0, x, e => ⟨_, rfl, by cases e; exact h⟩
  | _, _, .cons h a, i + 1, x, e => DpAll.at a i e
def tn : PyData → String
  | .none => "NoneType" | .bool _ => "bool" | .int _ => "int" | .str _ => "str" | .list _ => "list" | .tuple _ => "tuple" | .dict _ => "dict"
def isB : PyData → Bool
  | .bool _ => true
  | _ => false
def isS : PyData → Bool
  | .list _ => true
  | .tuple _ => true
  | _ => false
theorem Dp.ty {K : PySem.W.Frag} {H : Hp} {v : V} {d : PyData} (h : Dp K H v d) : TyX K H v (.type (tn d)) := by
  cases h with
  | non => exact .base .non
  | bl b => exact .base (.bl b)
  | int i => exact .base (.int i)
  | str x => exact .base (.str x)
  | lst h _ =>
    rcases h with (h | ⟨o, h⟩) | ⟨o, its, n, h, hc, _⟩
    · exact .base (.lst h)
    · exact .base (.frz h)
    · exact .kList h hc
  | tup h _ =>
    rcases h with (h | ⟨o, h⟩) | ⟨o, its, n, h, hc, _⟩
    · exact .base (.tup h)
    · exact .fTuple h
    · exact .kTuple h hc
theorem kit_bool (d : PyData) : kitB (tn d) "bool" = some (isB d) := by
  cases d with
  | none  => (show kitB "NoneType" "bool" = some false; decide +kernel)
  | bool b => (show kitB "bool" "bool" = some true; decide +kernel)
  | int i => (show kitB "int" "bool" = some false; decide +kernel)
  | str x => (show kitB "str" "bool" = some false; decide +kernel)
  | list x => (show kitB "list" "bool" = some false; decide +kernel)
  | tuple x => (show kitB "tuple" "bool" = some false; decide +kernel)
  | dict x => (show kitB "dict" "bool" = some false; decide +kernel)
theorem kit_seq {K : PySem.W.Frag} (d : PyData) : PySem.W.kitAny K (.type (tn d)) [.type "list", .type "tuple"] = some (isS d) := by
  cases d with
  | none  => exact kitAny_cons (b := false) (kit_ty (by show kitB "NoneType" "list" = some false; decide +kernel)) (fun _ => kitAny_cons (b := false) (kit_ty (by show kitB "NoneType" "tuple" = some false; decide +kernel)) (fun _ => kitAny_nil) (fun z => nomatch z)) (fun z => nomatch z)
  | bool b => exact kitAny_cons (b := false) (kit_ty (by show kitB "bool" "list" = some false; decide +kernel)) (fun _ => kitAny_cons (b := false) (kit_ty (by show kitB "bool" "tuple" = some false; decide +kernel)) (fun _ => kitAny_nil) (fun z => nomatch z)) (fun z => nomatch z)
  | int i => exact kitAny_cons (b := false) (kit_ty (by show kitB "int" "list" = some false; decide +kernel)) (fun _ => kitAny_cons (b := false) (kit_ty (by show kitB "int" "tuple" = some false; decide +kernel)) (fun _ => kitAny_nil) (fun z => nomatch z)) (fun z => nomatch z)
  | str x => exact kitAny_cons (b := false) (kit_ty (by show kitB "str" "list" = some false; decide +kernel)) (fun _ => kitAny_cons (b := false) (kit_ty (by show kitB "str" "tuple" = some false; decide +kernel)) (fun _ => kitAny_nil) (fun z => nomatch z)) (fun z => nomatch z)
  | list x => exact kitAny_cons (b := true) (kit_ty (by show kitB "list" "list" = some true; decide +kernel)) (fun z => nomatch z) (fun _ => rfl)
  | tuple x => exact kitAny_cons (b := false) (kit_ty (by show kitB "tuple" "list" = some false; decide +kernel)) (fun _ => kitAny_cons (b := true) (kit_ty (by show kitB "tuple" "tuple" = some true; decide +kernel)) (fun z => nomatch z) (fun _ => rfl)) (fun z => nomatch z)
  | dict x => exact kitAny_cons (b := false) (kit_ty (by show kitB "dict" "list" = some false; decide +kernel)) (fun _ => kitAny_cons (b := false) (kit_ty (by show kitB "dict" "tuple" = some false; decide +kernel)) (fun _ => kitAny_nil) (fun z => nomatch z)) (fun z => nomatch z)
/-- data less than n deep, of plain texts, of few things -/
inductive Okd : Nat → PyData → Prop where
  | non {n : Nat} : Okd (n + 1) .none
  | bool {n : Nat} (b : Bool) : Okd (n + 1) (.bool b)
  | int {n : Nat} (i : Int) : Okd (n + 1) (.int i)
  | str {n : Nat} {x : Str} (h : ∀ c ∈ tl x, c < 128) : Okd (n + 1) (.str x)
  | list {n : Nat} {ds : List PyData} (hl : ds.length ≤ 1000) (h : ∀ d ∈ ds, Okd n d) : Okd (n + 1) (.list ds)
  | tuple {n : Nat} {ds : List PyData} (hl : ds.length ≤ 1000) (h : ∀ d ∈ ds, Okd n d) : Okd (n + 1) (.tuple ds)
theorem layAll {ds : List PyData} {n : Nat} : (∀ d ∈ ds, d.canLay0 = true ∧ d.depth ≤ n) → PyData.canLayAll0 ds = true ∧ PyData.depthAll ds ≤ n := by
  induction ds with
  | nil =>
    intro _
    simp [PyData.canLayAll0, PyData.depthAll]
  | cons d ds ih =>
    intro h
    have h1 := h d (List.mem_cons_self ..)
    have h2 := ih fun e he => h e (List.mem_cons_of_mem _ he)
    simp only [PyData.canLayAll0, PyData.depthAll, h1.1, h2.1, Bool.and_self, true_and]
    exact Nat.max_le.mpr ⟨h1.2, h2.2⟩
theorem Okd.lay {n : Nat} {d : PyData} (h : Okd n d) : d.canLay0 = true ∧ d.depth ≤ n := by
  induction h with
  | non => simp [PyData.canLay0, PyData.depth]
  | bool b => simp [PyData.canLay0, PyData.depth]
  | int i => simp [PyData.canLay0, PyData.depth]
  | @str n x h =>
    refine ⟨?_, by simp [PyData.depth]⟩
    simp only [PyData.canLay0]
    show x.cps.all (· < 0x110000) = true
    rw [← Array.all_toList, List.all_eq_true]
    intro c hc
    exact decide_eq_true (Nat.lt_trans (h c hc) (by decide))
  | list hl h ih =>
    have q := layAll ih
    simp only [PyData.canLay0, PyData.depth]
    exact ⟨q.1, by omega⟩
  | tuple hl h ih =>
    have q := layAll ih
    simp only [PyData.canLay0, PyData.depth]
    exact ⟨q.1, by omega⟩
theorem Okd.shaped {n : Nat} {d : PyData} (h : Okd n d) (hn : n ≤ 64) : SeqAt.shaped d = true := by
  have q := h.lay
  show (d.canLay0 && decide (d.depth ≤ 64)) = true
  rw [q.1, decide_eq_true (Nat.le_trans q.2 hn)]
  rfl
theorem eqv_self {d : PyData} (h : SeqAt.shaped d = true) : PyData.eqv d d = true := SeqAt.eqv_refl d (SeqAt.canLay_of_shaped h)
theorem iteF' {b : Bool} {A B : Prop} (h : b = false) (hB : B) : if b = true then A else B := by
  rw [h]
  exact iteF hB
theorem iteT' {b : Bool} {A B : Prop} (h : b = true) (hA : A) : if b = true then A else B := by
  rw [h]
  exact iteT hA
theorem bl_ne (b : Bool) : decide (¬ V.bl b = V.bl b) = false := decide_eq_false (fun h => h rfl)
theorem rep_all (n : Nat) : (List.replicate n true).all id = true := by
  induction n with
  | zero => rfl
  | succ n ih => rw [List.replicate_succ, List.all_cons, ih]; rfl
/-- a new object beside a list that grows at D -/
theorem Same.grow {H H' : Hp} {D : Addr} {o : HO} (sm : Same H H') (nD : H D = none) : Same H (upd H' D o) := fun b x e => by
  rw [upd_ne (ne_of_none e nD)]
  exact sm b x e
section
variable {P : Program} {w : World} {K : PySem.W.Frag} {mg : Str → Option Value} {base : Heap}
abbrev s_law_like : Stmt := topS 15
abbrev N_law_like : List Str := ["_law_told", "_law_due_here", "_law_one", "_law_other"]
theorem sc_law_like : FnScope N_law_like ["_law_told", "_law_due_here"] (defScope s_law_like) := ⟨rfl, rfl, rfl, by decide +kernel, rfl, by decide +kernel, by decide +kernel⟩
/-- two things of the same data, less than n deep, are alike -/
def sp_law_like (K : PySem.W.Frag) (n : Nat) : Sp := fun vs H Q _ => ∃ (x y : V) (d : PyData), vs = [x, y] ∧ Dp K H x d ∧ Dp K H y d ∧ Okd n d ∧ ∀ H', Same H H' → Q (.bl true) H'
theorem ok_law_like {f : Addr} {fd : FuncData} (F : Fun K "_law_like" "_law_like" s_law_like f fd) (T : Txt mg) (g : mg "_law_like" = some (.ref f)) (kp : PySem.W.keepIn K (.ref f) = true) (bn : Binds K fd ["_law_told", "_law_due_here"] []) : ∀ n : Nat, n ≤ 64 → FnOk P w K mg base CX0 (n + 1) f fd ["_law_told", "_law_due_here"] (sp_law_like K n) := by
  intro n
  induction n with
  | zero =>
    intro _
    refine F.ok sc_law_like (fun vs H Q E h => ?_) (fun cdv A outer s H vs Q E hr h => ?_)
    · obtain ⟨x, y, d, rfl, _⟩ := h
      rfl
    · obtain ⟨x, y, d, rfl, _, _, h, _⟩ := h
      cases h
  | succ n ih =>
    intro hn
    have C_law_like : Cal P w K mg base (n + 1) "_law_like" (sp_law_like K n) := cal_mk (ih (by omega)) g kp bn
    refine F.ok sc_law_like (fun vs H Q E h => ?_) (fun cdv A outer s H vs Q E hr h => ?_)
    · obtain ⟨x, y, d, rfl, _⟩ := h
      rfl
    · obtain ⟨x, y, d, rfl, hx, hy, ho, q⟩ := h
      have hs := ho.shaped hn
      refine ⟨_, (pss_cons (ps_if (PW.pt (pw_or (pt_cmpR op_ne (pe_callB call_isi (by rfl) T.z_isinstance (by decide +kernel) (pa_cons (pv 0) (pa_cons (pe_bltn (v := .ty "bool") (by rfl) T.z_bool (by decide +kernel) rfl) pa_nil))) (pe_callB call_isi (by rfl) T.z_isinstance (by decide +kernel) (pa_cons (pv 1) (pa_cons (pe_bltn (v := .ty "bool") (by rfl) T.z_bool (by decide +kernel) rfl) pa_nil))) (nomark _)) (pw_or1 (pt_cmpR (op_neD hr.units) (pv 0) (pv 1) (nomark _))))) (pss_one (ps_ret pe_bl)) pss_nil)
      (pss_cons (ps_if (pt_val (pe_callB call_isiT (by rfl) T.z_isinstance (by decide +kernel) (pa_cons (pv 0) (pa_cons (pe_tup (pa_cons (pe_bltn (v := .ty "list") (by rfl) T.z_list (by decide +kernel) rfl) (pa_cons (pe_bltn (v := .ty "tuple") (by rfl) T.z_tuple (by decide +kernel) rfl) pa_nil))) pa_nil)))) (pss_one (ps_ret (pe_callB (cr_all (by rfl)) (by rfl) T.z_all (by decide +kernel) (pa_cons (pe_lc (own := [("_law_one", 2), ("_law_other", 3)]) (g := gTup K 2 (gCons (gName 2) (gCons (gName 3) gNil))) (by rfl) sc_law_like.nd (pi_zipA (by rfl) T.z_zip (pa_cons (pv 0) (pa_cons (pv 1) pa_nil))) (blkOk_by (own := [("_law_one", 2), ("_law_other", 3)]) (N := N_law_like) (sc := defScope s_law_like) (by decide +kernel)) (fun _ _ _ _ _ => (pg_tup rfl (pgs_cons (pg_name (i := 2) sc_law_like.nd rfl (.inl rfl)) (pgs_cons (pg_name (i := 3) sc_law_like.nd rfl (.inl rfl)) pgs_nil)))) (fun _ _ _ _ _ => pts_nil) (fun _ _ _ _ _ => (pe_cal C_law_like hr (Nat.le_refl _) (by rfl) (pa_cons (pv 2) (pa_cons (pv 3) pa_nil))))) pa_nil)))) pss_nil)
      (pss_one (ps_ret pe_bl)))), ?_⟩
      refine ⟨_, rfl, _, _, _, _, _, rfl, .ty "bool", Dp.ty hx, kit_ty (kit_bool d), ?_⟩
      refine ⟨_, rfl, _, _, _, _, _, rfl, .ty "bool", Dp.ty hy, kit_ty (kit_bool d), rfl, _, rfl, ?_⟩
      refine iteF' (by simp) ?_
      refine ⟨_, rfl, _, rfl, d, d, hx, hy, hs, hs, _, rfl, ?_⟩
      refine iteF' (by rw [eqv_self hs]; rfl) ?_
      refine ⟨_, rfl, (by show 2 ≤ sizeLine; decide), fun tp ntp => ?_⟩
      have sm1 : Same H (upd H tp (.tup [.ty "list", .ty "tuple"])) := same_upd ntp
      refine ⟨x, tp, _, _, _, isS d, rfl, upd_same, .cons (.ty "list") (.cons (.ty "tuple") .nil), Dp.ty (Dp.same sm1 hx), kit_seq d, _, rfl, ?_⟩
      cases hx with
      | lst ha hxs =>
        cases hy with
        | lst hb hys =>
        rename_i a xs ds b ys
        refine iteT ?_
        refine ⟨_, rfl, _, rfl, a, b, xs, ys, rfl, .inl ⟨sm1.seq ha, sm1.seq hb, fun D nD => ?_⟩⟩
        obtain ⟨hlen, hall⟩ : ds.length ≤ 1000 ∧ ∀ d ∈ ds, Okd n d := by cases ho with | list hl h => exact ⟨hl, h⟩
        have lx := DpAll.len hxs
        have ly := DpAll.len hys
        have nD0 : H D = none := sm1.free nD
        refine lc_it (walk_zip (n := ds.length) (by rw [lx, ly, Nat.min_self])) (fun i H' => Same H H' ∧ H' D = some (.lst (List.replicate i (V.bl true)))) ⟨sm1.trans (same_upd nD), upd_same⟩ (fun i H' _ p => ⟨p.1.seq ha, p.1.seq hb⟩) ?_ ?_
        · rintro i v H1 H2 hi ⟨sm, hD⟩ ⟨U, x1, y1, rfl, nU, rfl, ex, ey⟩
          obtain ⟨d1, e1, p1⟩ := DpAll.at hxs i ex
          obtain ⟨d2, e2, p2⟩ := DpAll.at hys i ey
          rw [e1] at e2
          cases e2
          have hm : d1 ∈ ds := List.mem_of_getElem? e1
          have sm2 : Same H (upd H1 U (.tup [x1, y1])) := sm.trans (same_upd nU)
          refine ⟨U, [x1, y1], rfl, SqT.of upd_same, rfl, _, _, rfl, _, _, rfl, rfl, rfl, yesI ?_⟩
          refine ⟨_, rfl, _, rfl, x1, y1, d1, rfl, Dp.same sm2 p1, Dp.same sm2 p2, hall d1 hm, fun H3 sm3 => ?_⟩
          · have hD3 : H3 D = some (.lst (List.replicate i (V.bl true))) := sm3 _ _ (by rw [upd_ne (ne_of_none hD nU)]; exact hD)
            refine ⟨_, hD3, ?_, Same.grow (sm2.trans sm3) nD0, ?_⟩
            · rw [List.length_replicate]
              exact Nat.lt_of_lt_of_le hi (Nat.le_trans hlen (by decide))
            · rw [upd_same, ← List.replicate_succ']
        · rintro H1 ⟨sm, hD⟩
          refine ⟨D, List.replicate ds.length true, rfl, SqL.of (by rw [List.map_replicate]; exact hD), ?_⟩
          rw [rep_all]
          exact q _ sm
      | tup ha hxs =>
        cases hy with
        | tup hb hys =>
        rename_i a xs ds b ys
        refine iteT ?_
        refine ⟨_, rfl, _, rfl, a, b, xs, ys, rfl, .inr ⟨Same.sqT sm1 ha, Same.sqT sm1 hb, fun D nD => ?_⟩⟩
        obtain ⟨hlen, hall⟩ : ds.length ≤ 1000 ∧ ∀ d ∈ ds, Okd n d := by cases ho with | tuple hl h => exact ⟨hl, h⟩
        have lx := DpAll.len hxs
        have ly := DpAll.len hys
        have nD0 : H D = none := sm1.free nD
        refine lc_it (walk_zipT (n := ds.length) (by rw [lx, ly, Nat.min_self])) (fun i H' => Same H H' ∧ H' D = some (.lst (List.replicate i (V.bl true)))) ⟨sm1.trans (same_upd nD), upd_same⟩ (fun i H' _ p => ⟨Same.sqT p.1 ha, Same.sqT p.1 hb⟩) ?_ ?_
        · rintro i v H1 H2 hi ⟨sm, hD⟩ ⟨U, x1, y1, rfl, nU, rfl, ex, ey⟩
          obtain ⟨d1, e1, p1⟩ := DpAll.at hxs i ex
          obtain ⟨d2, e2, p2⟩ := DpAll.at hys i ey
          rw [e1] at e2
          cases e2
          have hm : d1 ∈ ds := List.mem_of_getElem? e1
          have sm2 : Same H (upd H1 U (.tup [x1, y1])) := sm.trans (same_upd nU)
          refine ⟨U, [x1, y1], rfl, SqT.of upd_same, rfl, _, _, rfl, _, _, rfl, rfl, rfl, yesI ?_⟩
          refine ⟨_, rfl, _, rfl, x1, y1, d1, rfl, Dp.same sm2 p1, Dp.same sm2 p2, hall d1 hm, fun H3 sm3 => ?_⟩
          · have hD3 : H3 D = some (.lst (List.replicate i (V.bl true))) := sm3 _ _ (by rw [upd_ne (ne_of_none hD nU)]; exact hD)
            refine ⟨_, hD3, ?_, Same.grow (sm2.trans sm3) nD0, ?_⟩
            · rw [List.length_replicate]
              exact Nat.lt_of_lt_of_le hi (Nat.le_trans hlen (by decide))
            · rw [upd_same, ← List.replicate_succ']
        · rintro H1 ⟨sm, hD⟩
          refine ⟨D, List.replicate ds.length true, rfl, SqL.of (by rw [List.map_replicate]; exact hD), ?_⟩
          rw [rep_all]
          exact q _ sm
      | _ => exact iteF (q _ sm1)
end
end My

set_option Elab.async false
set_option linter.all false
set_option maxRecDepth 100000
set_option maxHeartbeats 4000000
namespace My
open PySem PySem.Spec PyProof.Rows L2 TL RZ
def NoStr (K : PySem.W.Frag) (H : Hp) (x : V) : Prop := ∃ a : String, TyX K H x (.type a) ∧ kitB a "str" = some false
/-- a thing that is no kind -/
def NotKind (K : PySem.W.Frag) (H : Hp) (x : V) : Prop := (∃ z : Str, x = .str z ∧ z ∉ kinds) ∨ NoStr K H x
/-- a thing that is no whole number -/
def NotWhole (K : PySem.W.Frag) (H : Hp) (x : V) : Prop := ∃ a : String, TyX K H x (.type a) ∧ (kitB a "int" = some false ∨ (kitB a "int" = some true ∧ kitB a "bool" = some true))
def BadRisk (K : PySem.W.Frag) (H : Hp) (x : V) : Prop := (∃ i : Int, x = .int i ∧ ¬ (1 ≤ i ∧ i ≤ 4)) ∨ NotWhole K H x
theorem pe_globR {X : Cx} {x : Str} {pos : Pos} {a : Addr} (h : X.mg x = some (.ref a)) (hg : Gl X x) (hd : (x == ("__debug__" : Str)) = false := by decide) : PE X (.Name x pos) (tC (.ref a)) := pe_glob hg h rfl (hd := hd)
def dueI (k : Str) : Int × Int × Int := if k = Str.ofString "house" then (2, 1, 0) else if k = Str.ofString "works" then (3, 1, 1) else if k = Str.ofString "people" then (1, 1, 0) else if k = Str.ofString "grass" then (1, 0, 1) else (1, 0, 0)
def dueV (k : Str) : List V := [.int (dueI k).1, .int (dueI k).2.1, .int (dueI k).2.2]
def attV (k : Str) (r m : Int) : List V := [.int (if m > (dueI k).1 + (if r = 1 then 1 else 0) then m else (dueI k).1 + (if r = 1 then 1 else 0)), .int (dueI k).2.1, .int (dueI k).2.2]
/-- the written table -/
def Due (K : PySem.W.Frag) (w : World) (mg : Str → Option Value) : Prop := ∃ (d : Addr) (es : Array DictEntry) (n : Nat), mg "DUE" = some (.ref d) ∧ KDict K w d es n ∧ (∀ z : Str, ∃ r, PySem.W.nsIn K d z = some r ∧ r.isSome = decide (z ∈ kinds)) ∧ ∀ k ∈ kinds, ∃ t : Addr, PySem.W.nsIn K d k = some (some (.ref t)) ∧ ∀ H, SqT K H t (dueV k)
/-- what the written part says of NoKind -/
structure BX (K : PySem.W.Frag) (mg : Str → Option Value) (C fI : Addr) : Prop where
  g : mg "NoKind" = some (.ref C)
  gx : Gx_le K C
  no : PySem.W.findIn K (.ref C) "kind" = some none
  iC : PySem.W.findIn K (.ref C) "__init__" = some (some (.ref fI))
  tI : PySem.W.typeIn K (.ref fI) = some (.type "function")
  vV : PySem.W.findCls K (.type "LookupError") (.type "type") "__init__" = some (.val (.builtin "LookupError.__init__"))
theorem raised {H : Hp} {a dx : Addr} {x y z u : HO} (na : H a = none) (nd : (upd H a x) dx = none) (ne : dx ≠ a) : Same H (upd (del (upd (upd (upd H a x) dx y) a z) a) dx u) := fun b o e => by
  have h1 : b ≠ a := ne_of_none e na
  have h2 : b ≠ dx := fun c => by
    rw [c] at e
    rw [upd_ne ne, e] at nd
    cases nd
  rw [upd_ne h2, del_ne h1, upd_ne h1, upd_ne h2, upd_ne h1]
  exact e
section
variable {P : Program} {w : World} {K : PySem.W.Frag} {mg : Str → Option Value} {base : Heap}
abbrev s_is_whole : Stmt := topS 3
abbrev N_is_whole : List Str := ["thing"]
theorem sc_is_whole : FnScope N_is_whole ["thing"] (defScope s_is_whole) := ⟨rfl, rfl, rfl, by decide +kernel, rfl, by decide +kernel, by decide +kernel⟩
def sp_is_whole (K : PySem.W.Frag) : Sp := fun vs H Q _ => ∃ x : V, vs = [x] ∧ ((∃ i : Int, x = .int i ∧ Q (.bl true) H) ∨ (NotWhole K H x ∧ Q (.bl false) H))
theorem ok_is_whole {f : Addr} {fd : FuncData} {k : Nat} (F : Fun K "is_whole" "is_whole" s_is_whole f fd) (T : Txt mg) : FnOk P w K mg base CX0 (k + 1) f fd ["thing"] (sp_is_whole K) := by
  refine F.ok sc_is_whole (fun vs H Q E h => ?_) (fun cdv A outer s H vs Q E hr h => ?_)
  · obtain ⟨x, rfl, _⟩ := h
    rfl
  · obtain ⟨x, rfl, h⟩ := h
    refine ⟨_, (pss_one (ps_ret (pe_and (pe_callB call_isi (by rfl) T.z_isinstance (by decide +kernel) (pa_cons (pv 0) (pa_cons (pe_bltn (v := .ty "int") (by rfl) T.z_int (by decide +kernel) rfl) pa_nil))) (pe_one (pe_not (pe_callB call_isi (by rfl) T.z_isinstance (by decide +kernel) (pa_cons (pv 0) (pa_cons (pe_bltn (v := .ty "bool") (by rfl) T.z_bool (by decide +kernel) rfl) pa_nil)))))))), ?_⟩
    rcases h with ⟨i, rfl, q⟩ | ⟨⟨a, ty, hk⟩, q⟩
    · refine ⟨_, rfl, _, _, _, _, true, rfl, .ty "int", .base (.int i), kit_ty (by decide +kernel), true, rfl, iteT ?_⟩
      exact ⟨_, rfl, _, _, _, _, false, rfl, .ty "bool", .base (.int i), kit_ty (by decide +kernel), false, rfl, q⟩
    · rcases hk with hk | ⟨hk, hb⟩
      · exact ⟨_, rfl, _, _, _, _, false, rfl, .ty "int", ty, kit_ty hk, false, rfl, iteF q⟩
      · refine ⟨_, rfl, _, _, _, _, true, rfl, .ty "int", ty, kit_ty hk, true, rfl, iteT ?_⟩
        exact ⟨_, rfl, _, _, _, _, true, rfl, .ty "bool", ty, kit_ty hb, true, rfl, q⟩
abbrev s_is_whole_within : Stmt := topS 4
abbrev N_is_whole_within : List Str := ["thing", "least", "most"]
theorem sc_is_whole_within : FnScope N_is_whole_within ["thing", "least", "most"] (defScope s_is_whole_within) := ⟨rfl, rfl, rfl, by decide +kernel, rfl, by decide +kernel, by decide +kernel⟩
def sp_is_whole_within (K : PySem.W.Frag) : Sp := fun vs H Q _ => ∃ (x : V) (lo hi : Int), vs = [x, .int lo, .int hi] ∧ ((∃ i : Int, x = .int i ∧ Q (.bl (decide (lo ≤ i ∧ i ≤ hi))) H) ∨ (NotWhole K H x ∧ Q (.bl false) H))
theorem ok_is_whole_within {f : Addr} {fd : FuncData} (F : Fun K "is_whole_within" "is_whole_within" s_is_whole_within f fd) (T : Txt mg) (C_is_whole : Cal P w K mg base 1 "is_whole" (sp_is_whole K)) : FnOk P w K mg base CX0 2 f fd ["thing", "least", "most"] (sp_is_whole_within K) := by
  refine F.ok sc_is_whole_within (fun vs H Q E h => ?_) (fun cdv A outer s H vs Q E hr h => ?_)
  · obtain ⟨x, lo, hi, rfl, _⟩ := h
    rfl
  · obtain ⟨x, lo, hi, rfl, h⟩ := h
    refine ⟨_, (pss_one (ps_ret (pe_and (pe_cal C_is_whole hr (by decide) (by rfl) (pa_cons (pv 0) pa_nil)) (pe_one (pe_chain op_le op_le (pv 1) (pv 0) (pv 2)))))), ?_⟩
    rcases h with ⟨i, rfl, q⟩ | ⟨nw, q⟩
    · refine ⟨_, rfl, _, rfl, .inl ⟨i, rfl, true, rfl, iteT ?_⟩⟩
      refine ⟨_, rfl, _, rfl, _, _, rfl, rfl, _, rfl, ite2 (fun c1 => ?_) (fun c1 => ?_)⟩
      · refine ⟨_, rfl, _, _, rfl, rfl, ?_⟩
        have h1 : lo ≤ i := of_decide_eq_true c1
        have e : decide (i ≤ hi) = decide (lo ≤ i ∧ i ≤ hi) := decide_eq_decide.mpr ⟨fun h => ⟨h1, h⟩, fun h => h.2⟩
        rw [← e] at q
        exact q
      · have e : decide (lo ≤ i ∧ i ≤ hi) = false := decide_eq_false fun h => c1 (decide_eq_true h.1)
        rw [e] at q
        exact q
    · exact ⟨_, rfl, _, rfl, .inr ⟨nw, false, rfl, iteF q⟩⟩
abbrev s_is_kind : Stmt := topS 9
abbrev N_is_kind : List Str := ["thing"]
theorem sc_is_kind : FnScope N_is_kind ["thing"] (defScope s_is_kind) := ⟨rfl, rfl, rfl, by decide +kernel, rfl, by decide +kernel, by decide +kernel⟩
def sp_is_kind (K : PySem.W.Frag) : Sp := fun vs H Q _ => ∃ x : V, vs = [x] ∧ ((∃ k : Str, x = .str k ∧ k ∈ kinds ∧ Q (.bl true) H) ∨ (NotKind K H x ∧ Q (.bl false) H))
theorem ok_is_kind {f : Addr} {fd : FuncData} {k : Nat} (F : Fun K "is_kind" "is_kind" s_is_kind f fd) (T : Txt mg) (TD : Due K w mg) : FnOk P w K mg base CX0 (k + 1) f fd ["thing"] (sp_is_kind K) := by
  refine F.ok sc_is_kind (fun vs H Q E h => ?_) (fun cdv A outer s H vs Q E hr h => ?_)
  · obtain ⟨x, rfl, _⟩ := h
    rfl
  · obtain ⟨x, rfl, h⟩ := h
    obtain ⟨d, es, n, gd, KD, hall, _⟩ := TD
    refine ⟨_, (pss_one (ps_ret (pe_and (pe_callB call_isi (by rfl) T.z_isinstance (by decide +kernel) (pa_cons (pv 0) (pa_cons (pe_bltn (v := .ty "str") (by rfl) T.z_str (by decide +kernel) rfl) pa_nil))) (pe_one (pe_cmpR (op_in_kd KD) (pv 0) (pe_globR gd (by rfl)) rfl))))), ?_⟩
    rcases h with ⟨z, rfl, hz, q⟩ | ⟨⟨z, rfl, hz⟩ | ⟨a, ty, hk⟩, q⟩
    · obtain ⟨r, hr1, hr2⟩ := hall z
      refine ⟨_, rfl, _, _, _, _, true, rfl, .ty "str", .base (.str z), kit_ty (by decide +kernel), true, rfl, iteT ?_⟩
      refine ⟨_, rfl, z, r, rfl, rfl, hr1, ?_⟩
      rw [hr2, decide_eq_true hz]
      exact q
    · obtain ⟨r, hr1, hr2⟩ := hall z
      refine ⟨_, rfl, _, _, _, _, true, rfl, .ty "str", .base (.str z), kit_ty (by decide +kernel), true, rfl, iteT ?_⟩
      refine ⟨_, rfl, z, r, rfl, rfl, hr1, ?_⟩
      rw [hr2, decide_eq_false hz]
      exact q
    · exact ⟨_, rfl, _, _, _, _, false, rfl, .ty "str", ty, kit_ty hk, false, rfl, iteF q⟩
/-! ### the refusal -/
abbrev s_init : Stmt := inClass (topS 1) 0
abbrev N_init : List Str := ["self", "kind"]
theorem sc_init : FnScope N_init ["self", "kind"] (defScope s_init) := ⟨rfl, rfl, rfl, by decide +kernel, rfl, by decide +kernel, by decide +kernel⟩
def sp_init (C : Addr) : Sp := fun vs H Q _ => ∃ (a : Addr) (v : V), vs = [.ref a, v] ∧ H a = some (exo a C none) ∧ ∀ dx, H dx = none → dx ≠ a → Q .non (upd (upd H dx (exd dx [("kind", v)])) a (exo a C (some dx)))
theorem ok_init {f C fI : Addr} {fd : FuncData} {k : Nat} (F : Fun K "__init__" "NoKind.__init__" s_init f fd) (T : Txt mg) (B : BX K mg C fI) : FnOk P w K mg base CX0 (k + 1) f fd ["self", "kind"] (sp_init C) := by
  refine F.ok sc_init (fun vs H Q E h => ?_) (fun cdv A outer s H vs Q E hr h => ?_)
  · obtain ⟨a, v, rfl, _⟩ := h
    rfl
  · obtain ⟨a, v, rfl, ha, q⟩ := h
    refine ⟨_, (pss_cons (ps_expr (pe_bi_le (by rfl) T.z_LookupError B.vV (pa_cons (pv 0) (pa_cons pe_str pa_nil)))) (pss_one (ps_st_le (pv 0) (pv 1)))), ?_⟩
    refine ⟨_, rfl, a, C, _, rfl, (by show 1 ≤ 1000; decide), B.gx, ha, ?_⟩
    exact ⟨_, rfl, _, rfl, a, C, rfl, B.gx, B.no, ha, fun dx n1 n2 => q dx n1 n2⟩
/-! ### attendance -/
abbrev s_att : Stmt := topS 10
abbrev N_att : List Str := ["kind", "risk", "asked", "pumps", "ladders", "tankers"]
theorem sc_att : FnScope N_att ["kind", "risk", "asked"] (defScope s_att) := ⟨rfl, rfl, rfl, by decide +kernel, rfl, by decide +kernel, by decide +kernel⟩
def sp_att : Sp := fun vs H Q _ => ∃ (k : Str) (r m : Int), vs = [.str k, .int r, .int m] ∧ k ∈ kinds ∧ 1 ≤ r ∧ r ≤ 4 ∧ ∀ H' p, Same H H' → H' p = some (.tup (attV k r m)) → Q (.ref p) H'
theorem ok_att {f : Addr} {fd : FuncData} {dvs : List V} {kws : List (Str × V)} (F : FunD K "attendance" "attendance" (defArgs s_att) (defBody s_att) (defScope s_att) dvs kws f fd) (T : Txt mg) (TD : Due K w mg) (C_is_kind : Cal P w K mg base 1 "is_kind" (sp_is_kind K)) (C_is_whole_within : Cal P w K mg base 2 "is_whole_within" (sp_is_whole_within K)) : FnOk P w K mg base CX0 3 f fd ["kind", "risk", "asked"] sp_att := by
  refine F.ok sc_att (fun vs H Q E h => ?_) (fun cdv A outer s H vs Q E hr h => ?_)
  · obtain ⟨k, r, m, rfl, _⟩ := h
    rfl
  · obtain ⟨k, r, m, rfl, hk, hr1, hr4, q⟩ := h
    obtain ⟨d, es, n, gd, KD, hall, hdue⟩ := TD
    obtain ⟨t, ht, hs⟩ := hdue k hk
    refine ⟨_, (pss_cons (ps_if (pt_not (pt_val (pe_cal C_is_kind hr (by decide) (by rfl) (pa_cons (pv 0) pa_nil)))) (pss_one ps_never) pss_nil)
      (pss_cons (ps_if (pt_not (pt_val (pe_cal C_is_whole_within hr (by decide) (by rfl) (pa_cons (pv 1) (pa_cons pe_int (pa_cons (pe_glob' T.g_MOST_RISK (by rfl)) pa_nil)))))) (pss_one ps_never) pss_nil)
      (pss_cons (ps_asg (pe_ix ix_kdict (pe_globR gd (by rfl)) (pv 0) (fun _ _ => rfl)) (pg_tup rfl (pgs_cons (pg_name (i := 3) sc_att.nd rfl (.inl rfl)) (pgs_cons (pg_name (i := 4) sc_att.nd rfl (.inl rfl)) (pgs_cons (pg_name (i := 5) sc_att.nd rfl (.inl rfl)) pgs_nil)))))
      (pss_cons (ps_if (pt_cmpR op_eq (pv 1) (pe_glob' T.g_RISK_OF_ONE_MORE (by rfl)) (nomark _)) (pss_one (ps_aug (i := 3) sc_att.nd rfl (.inl rfl) pe_int ip_add)) pss_nil)
      (pss_one (ps_ret (pe_tup (pa_cons (pe_callB (call_max2 rfl) (by rfl) T.z_max (by decide +kernel) (pa_cons (pv 3) (pa_cons (pv 2) pa_nil))) (pa_cons (pv 4) (pa_cons (pv 5) pa_nil)))))))))), ?_⟩
    refine ⟨_, rfl, _, rfl, .inl ⟨k, rfl, hk, true, rfl, iteF ?_⟩⟩
    refine ⟨_, rfl, _, 1, 4, rfl, .inl ⟨r, rfl, _, rfl, ?_⟩⟩
    rw [decide_eq_true ⟨hr1, hr4⟩]
    refine iteF ?_
    refine ⟨_, rfl, d, k, .ref t, rfl, rfl, ⟨es, n, _, KD.at_, KD.lit, ht, rfl⟩, t, _, rfl, hs _, rfl, _, _, rfl, _, _, rfl, _, _, rfl, rfl, ?_⟩
    refine ⟨_, rfl, rfl, _, rfl, ?_⟩
    by_cases c : r = 1
    · refine iteT' (by rw [c]; decide) ?_
      refine ⟨_, rfl, _, _, rfl, rfl, ?_⟩
      refine ⟨_, rfl, _, rfl, _, _, rfl, _, rfl, _, rfl, (by show 3 ≤ sizeLine; decide), fun p np => ?_⟩
      refine q _ p (same_upd np) ?_
      rw [upd_same]
      unfold attV
      rw [if_pos c]
    · refine iteF' (decide_eq_false fun e => c (V.int.inj e)) ?_
      refine ⟨_, rfl, _, rfl, _, _, rfl, _, rfl, _, rfl, (by show 3 ≤ sizeLine; decide), fun p np => ?_⟩
      refine q _ p (same_upd np) ?_
      rw [upd_same]
      unfold attV
      rw [if_neg c, Int.add_zero]
def sp_attX (K : PySem.W.Frag) (C : Addr) : Sp := fun vs H Q E => ∃ (x y z : V), vs = [x, y, z] ∧
  ((NotKind K H x ∧ ∀ H' d, Same H H' → H' d = some (.xd [("kind", x)]) → E (.ref C) (some d) H') ∨
   (∃ k : Str, x = .str k ∧ k ∈ kinds ∧ BadRisk K H y ∧ ∀ H' d, Same H H' → H' d = some (.xd [("kind", .non)]) → E (.ref C) (some d) H'))
theorem ok_attX {f C fI : Addr} {fd fdI : FuncData} {dvs : List V} {kws : List (Str × V)} (F : FunD K "attendance" "attendance" (defArgs s_att) (defBody s_att) (defScope s_att) dvs kws f fd) (T : Txt mg) (B : BX K mg C fI) (G1 : FnOk P w K mg base CX0 1 fI fdI ["self", "kind"] (sp_init C)) (b1 : Binds K fdI ["self", "kind"] []) (C_is_kind : Cal P w K mg base 1 "is_kind" (sp_is_kind K)) (C_is_whole_within : Cal P w K mg base 2 "is_whole_within" (sp_is_whole_within K)) : FnOk P w K mg base (L2.CX P w) 3 f fd ["kind", "risk", "asked"] (sp_attX K C) := by
  refine F.ok sc_att (fun vs H Q E h => ?_) (fun cdv A outer s H vs Q E hr h => ?_)
  · obtain ⟨x, y, z, rfl, _⟩ := h
    rfl
  · obtain ⟨x, y, z, rfl, h⟩ := h
    refine ⟨_, (pss_cons (ps_if (pt_not (pt_val (pe_cal C_is_kind hr (by decide) (by rfl) (pa_cons (pv 0) pa_nil)))) (pss_one (ps_raise rfl (takes_of rfl rfl rfl rfl) (pmk_le B.gx B.iC B.tI G1 (hr.mono (by decide)) b1 pass0 (by rfl) B.g (pa_cons (pv 0) pa_nil)))) pss_nil)
      (pss_cons (ps_if (pt_not (pt_val (pe_cal C_is_whole_within hr (by decide) (by rfl) (pa_cons (pv 1) (pa_cons pe_int (pa_cons (pe_glob' T.g_MOST_RISK (by rfl)) pa_nil)))))) (pss_one (ps_raise rfl (takes_of rfl rfl rfl rfl) (pmk_le B.gx B.iC B.tI G1 (hr.mono (by decide)) b1 pass0 (by rfl) B.g (pa_cons pe_non pa_nil)))) pss_nil)
      pss_never)), ?_⟩
    rcases h with ⟨nk, qE⟩ | ⟨k, rfl, hk, br, qE⟩
    · refine ⟨_, rfl, _, rfl, .inr ⟨nk, false, rfl, iteT ?_⟩⟩
      refine ⟨_, rfl, (by show 1 ≤ 1000; decide), fun a na => ?_⟩
      refine ⟨a, _, rfl, upd_same, fun dx n1 n2 => ?_⟩
      refine ⟨rfl, dx, _, upd_same, by rw [upd_ne n2, upd_same], (upd_ne n2).symm.trans n1, ?_⟩
      exact qE _ dx (raised na n1 n2) upd_same
    · refine ⟨_, rfl, _, rfl, .inl ⟨k, rfl, hk, true, rfl, iteF ?_⟩⟩
      have fin : ∀ a, H a = none → sp_init C [.ref a, .non] (upd H a (exo a C none)) (fun v H2 => v = .non ∧ ∃ (d : Addr) (fs : List (Str × V)), H2 a = some (exo a C (some d)) ∧ H2 d = some (exd d fs) ∧ H d = none ∧ E (.ref C) (some d) (upd (del H2 a) d (.xd fs))) (fun _ _ _ => False) := fun a na => by
        refine ⟨a, _, rfl, upd_same, fun dx n1 n2 => ?_⟩
        refine ⟨rfl, dx, _, upd_same, by rw [upd_ne n2, upd_same], (upd_ne n2).symm.trans n1, ?_⟩
        exact qE _ dx (raised na n1 n2) upd_same
      rcases br with ⟨i, rfl, hi⟩ | nw
      · refine ⟨_, rfl, _, 1, 4, rfl, .inl ⟨i, rfl, _, rfl, ?_⟩⟩
        rw [decide_eq_false hi]
        exact iteT ⟨(by show 1 ≤ 1000; decide), fin⟩
      · exact ⟨_, rfl, _, 1, 4, rfl, .inr ⟨nw, false, rfl, iteT ⟨(by show 1 ≤ 1000; decide), fin⟩⟩⟩
end
end My

set_option Elab.async false
set_option linter.all false
set_option maxRecDepth 100000
set_option maxHeartbeats 4000000
namespace My
open PySem PySem.Spec PyProof.Rows L2 TL RZ
theorem att_dp {K : PySem.W.Frag} {H : Hp} {p : Addr} {k : Str} {r m : Int} (h : H p = some (.tup (attV k r m))) : ∃ ds, Dp K H (.ref p) (.tuple ds) ∧ Okd 2 (.tuple ds) ∧ ds = [.int (if m > (dueI k).1 + (if r = 1 then 1 else 0) then m else (dueI k).1 + (if r = 1 then 1 else 0)), .int (dueI k).2.1, .int (dueI k).2.2] :=
  ⟨_, .tup (SqT.of h) (.cons (.int _) (.cons (.int _) (.cons (.int _) .nil))), .tuple (by show 3 ≤ 1000; decide) (fun d hd => by
    simp only [List.mem_cons, List.not_mem_nil, or_false] at hd
    rcases hd with rfl | rfl | rfl <;> exact .int _), rfl⟩
theorem str_ne {a b : Str} (h : decide (a = b) = false) : decide (V.str a = V.str b) = false := decide_eq_false fun e => of_decide_eq_false h (V.str.inj e)
theorem kinds_cases {k : Str} (h : k ∈ kinds) : k = Str.ofString "car" ∨ k = Str.ofString "chimney" ∨ k = Str.ofString "grass" ∨ k = Str.ofString "house" ∨ k = Str.ofString "people" ∨ k = Str.ofString "works" := by
  have h' : k ∈ (["car", "chimney", "grass", "house", "people", "works"] : List Str) := h
  simpa only [List.mem_cons, List.not_mem_nil, or_false] using h'
theorem inV_str (z : Str) (l : List Str) : inV (.str z) (l.map V.str) = decide (z ∈ l) := by
  unfold inV
  rw [List.any_map]
  by_cases h : z ∈ l
  · rw [decide_eq_true h, List.any_eq_true]
    exact ⟨z, h, beq_self_eq_true z⟩
  · rw [decide_eq_false h, List.any_eq_false]
    intro y hy e
    have e' : (y == z) = true := e
    exact h (eq_of_beq e' ▸ hy)
theorem flat_str (l : List Str) : (l.map V.str).all flatV = true := by
  rw [List.all_eq_true]
  intro x hx
  obtain ⟨i, _, rfl⟩ := List.mem_map.mp hx
  rfl
section
variable {P : Program} {w : World} {K : PySem.W.Frag} {mg : Str → Option Value} {base : Heap}
abbrev s_law_due : Stmt := topS 16
abbrev N_law_due : List Str := ["_law_kind", "_law_risk", "_law_most", "_law_pumps", "_law_ladders", "_law_tankers"]
theorem sc_law_due : FnScope N_law_due ["_law_kind", "_law_risk", "_law_most"] (defScope s_law_due) := ⟨rfl, rfl, rfl, by decide +kernel, rfl, by decide +kernel, by decide +kernel⟩
theorem ok_law_due {f : Addr} {fd : FuncData} {k : Nat} (F : Fun K "_law_due" "_law_due" s_law_due f fd) (T : Txt mg) : FnOk P w K mg base CX0 (k + 1) f fd ["_law_kind", "_law_risk", "_law_most"] sp_att := by
  refine F.ok sc_law_due (fun vs H Q E h => ?_) (fun cdv A outer s H vs Q E hr h => ?_)
  · obtain ⟨k, r, m, rfl, _⟩ := h
    rfl
  · obtain ⟨k, r, m, rfl, hk, hr1, hr4, q⟩ := h
    refine ⟨_, (pss_cons (ps_asg (pe_tup (pa_cons pe_int (pa_cons pe_int (pa_cons pe_int pa_nil)))) (pg_tup rfl (pgs_cons (pg_name (i := 3) sc_law_due.nd rfl (.inl rfl)) (pgs_cons (pg_name (i := 4) sc_law_due.nd rfl (.inl rfl)) (pgs_cons (pg_name (i := 5) sc_law_due.nd rfl (.inl rfl)) pgs_nil)))))
      (pss_cons (ps_if (pt_cmpR op_in_seq (pv 0) (pe_tup (pa_cons pe_str (pa_cons pe_str (pa_cons pe_str pa_nil)))) rfl) (pss_one (ps_set (i := 4) sc_law_due.nd rfl (.inl rfl) pe_int)) pss_nil)
      (pss_cons (ps_if (pt_cmpR op_eq (pv 0) pe_str (nomark _)) (pss_one (ps_set (i := 3) sc_law_due.nd rfl (.inl rfl) pe_int)) pss_nil)
      (pss_cons (ps_if (pt_cmpR op_eq (pv 0) pe_str (nomark _)) (pss_one (ps_set (i := 3) sc_law_due.nd rfl (.inl rfl) pe_int)) pss_nil)
      (pss_cons (ps_if (pt_cmpR op_in_seq (pv 0) (pe_tup (pa_cons pe_str (pa_cons pe_str pa_nil))) rfl) (pss_one (ps_set (i := 5) sc_law_due.nd rfl (.inl rfl) pe_int)) pss_nil)
      (pss_cons (ps_if (pt_cmpR op_eq (pv 1) pe_int (nomark _)) (pss_one (ps_set (i := 3) sc_law_due.nd rfl (.inl rfl) (pe_op op_add (pv 3) pe_int))) pss_nil)
      (pss_one (ps_ret (pe_tup (pa_cons (pe_callB (call_max2 rfl) (by rfl) T.z_max (by decide +kernel) (pa_cons (pv 3) (pa_cons (pv 2) pa_nil))) (pa_cons (pv 4) (pa_cons (pv 5) pa_nil)))))))))))), ?_⟩
    refine ⟨(by show 3 ≤ sizeLine; decide), fun t nt => ?_⟩
    refine ⟨t, _, rfl, SqT.of upd_same, rfl, _, _, rfl, _, _, rfl, _, _, rfl, rfl, ?_⟩
    refine ⟨_, rfl, (by show 3 ≤ sizeLine; decide), fun t2 nt2 => ?_⟩
    refine ⟨t2, _, rfl, .inr (SqT.of upd_same), rfl, rfl, _, rfl, ?_⟩
    rcases kinds_cases hk with rfl | rfl | rfl | rfl | rfl | rfl
    all_goals
      first
        | refine iteT' (by decide +kernel) ?_
        | refine iteF' (by decide +kernel) ?_
      refine ⟨_, rfl, rfl, _, rfl, ?_⟩
      first
        | refine iteT' (by decide +kernel) ?_
        | refine iteF' (by decide +kernel) ?_
      refine ⟨_, rfl, rfl, _, rfl, ?_⟩
      first
        | refine iteT' (by decide +kernel) ?_
        | refine iteF' (by decide +kernel) ?_
      refine ⟨_, rfl, (by show 2 ≤ sizeLine; decide), fun t3 nt3 => ?_⟩
      refine ⟨t3, _, rfl, .inr (SqT.of upd_same), rfl, rfl, _, rfl, ?_⟩
      first
        | refine iteT' (by decide +kernel) ?_
        | refine iteF' (by decide +kernel) ?_
      refine ⟨_, rfl, rfl, _, rfl, ?_⟩
      by_cases c : r = 1
      · refine iteT' (by rw [c]; decide) ?_
        refine ⟨_, rfl, _, _, rfl, rfl, ?_⟩
        refine ⟨_, rfl, _, rfl, _, _, rfl, _, rfl, _, rfl, (by show 3 ≤ sizeLine; decide), fun p np => ?_⟩
        refine q _ p ((same_upd nt).trans ((same_upd nt2).trans ((same_upd nt3).trans (same_upd np)))) ?_
        rw [upd_same]
        unfold attV
        rw [if_pos c]
        rfl
      · refine iteF' (decide_eq_false fun e => c (V.int.inj e)) ?_
        refine ⟨_, rfl, _, rfl, _, _, rfl, _, rfl, _, rfl, (by show 3 ≤ sizeLine; decide), fun p np => ?_⟩
        refine q _ p ((same_upd nt).trans ((same_upd nt2).trans ((same_upd nt3).trans (same_upd np)))) ?_
        rw [upd_same]
        unfold attV
        rw [if_neg c]
        rfl
end
end My

set_option Elab.async false
set_option linter.all false
set_option maxRecDepth 100000
set_option maxHeartbeats 4000000
namespace My
open PySem PySem.Spec PyProof.Rows L2 TL RZ
def ascB (x : Str) : Bool := (tl x).all fun c => decide (c < 128)
theorem ascB_of {x : Str} (h : ascB x = true) : ∀ c ∈ tl x, c < 128 := fun c hc => of_decide_eq_true (List.all_eq_true.mp h c hc)
theorem kind_facts : ∀ k ∈ kinds, (decide (k.length ≤ 20) && ascB k && !decide (k ++ Str.ofString "s" ∈ kinds) && ascB (k ++ Str.ofString "s") && !decide (cutS k (some 1) none ∈ kinds) && ascB (cutS k (some 1) none) && !decide (k ++ Str.ofString " " ∈ kinds) && ascB (k ++ Str.ofString " ")) = true := by decide +kernel
theorem kind_upper : ∀ k ∈ kinds, (!decide ((⟨k.cps.map up1⟩ : Str) ∈ kinds) && ascB (⟨k.cps.map up1⟩ : Str)) = true := by decide +kernel
def Odd (K : PySem.W.Frag) (H : Hp) (x : V) : Prop := ∃ d, Dp K H x d ∧ Okd 3 d ∧ NotKind K H x
theorem odd_str {K : PySem.W.Frag} {H : Hp} {z : Str} (ha : ascB z = true) (hk : z ∉ kinds) : Odd K H (.str z) := ⟨_, .str z, .str (ascB_of ha), .inl ⟨z, rfl, hk⟩⟩
theorem pick_odd {Pr : V → Prop} {xs : List V} (h : ∀ x ∈ xs, Pr x) {d : Int} (h0 : 0 ≤ d) (h1 : d.toNat < xs.length) : ∃ v, atI xs d = some v ∧ Pr v :=
  ⟨xs[d.toNat], atI_of h0 (List.getElem?_eq_getElem h1), h _ (List.getElem_mem h1)⟩
theorem atI_of' {α : Type} {xs : List α} {z : Int} {v : α} (h0 : 0 ≤ z) (h : xs[z.toNat]? = some v) : atI xs z = some v := by
  have e : z = (z.toNat : Int) := (Int.toNat_of_nonneg h0).symm
  rw [e]
  exact atI_nat h
theorem letters_at {d : Int} (h0 : 0 ≤ d) (h1 : d < 26) : atI (Str.ofString "abcdefghijklmnopqrstuvwxyz").cps.toList d = some (97 + d.toNat) := by
  refine atI_of' h0 ?_
  have e : (Str.ofString "abcdefghijklmnopqrstuvwxyz").cps.toList = (List.range 26).map (97 + ·) := by decide +kernel
  rw [e, List.getElem?_map, List.getElem?_range (by omega)]
  rfl
theorem joinL_one : ∀ l : List Nat, joinL [] (l.map (fun c => [c])) = l
  | [] => rfl
  | [_] => rfl
  | a :: b :: r => by
    show [a] ++ ([] ++ joinL [] ((b :: r).map (fun c => [c]))) = _
    rw [joinL_one (b :: r)]
    rfl
theorem join_signs (l : List Nat) : tl (Txt.join (Str.ofString "") (l.map (fun c => (⟨#[c]⟩ : Str)))) = l := by
  rw [join_eq, tl_join, List.map_map]
  have e : tl (Str.ofString "") = [] := by decide +kernel
  rw [e]
  exact joinL_one l
theorem sum_ones (l : List Nat) : ((l.map (fun c => (⟨#[c]⟩ : Str))).map (·.length)).sum = l.length := by
  induction l with
  | nil => rfl
  | cons a l ih =>
    rw [List.map_cons, List.map_cons, List.sum_cons, ih, List.length_cons, Nat.add_comm]
    rfl
theorem Sx.free {p r : Addr} {H H' : Hp} (h : Sx p H H') (b : Bag H' p) (n : H' r = none) : H r = none := by
  cases e : H r with
  | none => rfl
  | some o =>
    exfalso
    by_cases c : r = p
    · obtain ⟨o2, q⟩ := b.some
      rw [c, q] at n
      cases n
    · rw [h r o c e] at n
      cases n
theorem mul01 {z : Str} {n : Int} (h : n = 0 ∨ n = 1) : MulOk z n ∧ Txt.mul z n = if n = 1 then z else Str.empty := by
  rcases h with rfl | rfl
  · exact ⟨⟨by decide, fun h => absurd (by decide) h, fun h => absurd (by decide) h⟩, rfl⟩
  · refine ⟨⟨by decide, fun _ h => absurd h (by simp), fun _ h => absurd h (by simp)⟩, ?_⟩
    unfold Txt.mul
    rw [if_neg (by decide), if_pos (by simp)]
    rfl
section
variable {P : Program} {w : World} {K : PySem.W.Frag} {mg : Str → Option Value} {base : Heap}
abbrev s_law_odd : Stmt := topS 17
abbrev N_law_odd : List Str := ["_law_bag_here", "_law_kinds", "_law_word", "_law_kind", "_law_some", "_law_turn"]
theorem sc_law_odd : FnScope N_law_odd ["_law_bag_here", "_law_kinds"] (defScope s_law_odd) := ⟨rfl, rfl, rfl, by decide +kernel, rfl, by decide +kernel, by decide +kernel⟩
def sp_law_odd (K : PySem.W.Frag) : Sp := fun vs H Q _ => ∃ p a : Addr, vs = [.ref p, .ref a] ∧ Bag H p ∧ a ≠ p ∧ H a = some (.lst (kinds.map V.str)) ∧ ∀ H' x, Sx p H H' → Bag H' p → (∀ H2, Sx p H' H2 → Odd K H2 x) → Q x H'
theorem ok_law_odd {f : Addr} {fd : FuncData} (F : Fun K "_law_odd" "_law_odd" s_law_odd f fd) (T : Txt mg) (C_law_take : Cal P w K mg base 1 "_law_take" sp_law_take) : FnOk P w K mg base CX0 2 f fd ["_law_bag_here", "_law_kinds"] (sp_law_odd K) := by
  refine F.ok sc_law_odd (fun vs H Q E h => ?_) (fun cdv A outer s H vs Q E hr h => ?_)
  · obtain ⟨p, a, rfl, _⟩ := h
    rfl
  · obtain ⟨p, a, rfl, hB, nap, ha, q⟩ := h
    have hs : 100000 ≤ sizeLine := by decide
    refine ⟨_, (pss_cons (ps_set (i := 2) sc_law_odd.nd rfl (.inl rfl) (pe_join pe_str (pe_lc (own := [("_law_turn", 5)]) (by rfl) sc_law_odd.nd (pi_range1 (by rfl) T.z_range (pa_cons (pe_cal C_law_take hr (by decide) (by rfl) (pa_cons (pv 0) (pa_cons pe_int pa_nil))) pa_nil)) (blkOk_by (own := [("_law_turn", 5)]) (N := N_law_odd) (sc := defScope s_law_odd) (by decide +kernel)) (fun _ _ _ _ _ => (pg_name (i := 5) sc_law_odd.nd rfl (.inl rfl))) (fun _ _ _ _ _ => pts_nil) (fun _ _ _ _ _ => (pe_ix ix_str pe_str (pe_cal C_law_take hr (by decide) (by rfl) (pa_cons (pv 0) (pa_cons pe_int pa_nil))) (fun _ _ => rfl))))))
      (pss_cons (ps_set (i := 3) sc_law_odd.nd rfl (.inl rfl) (pe_ix ix_list (pv 1) (pe_cal C_law_take hr (by decide) (by rfl) (pa_cons (pv 0) (pa_cons pe_int pa_nil))) (fun _ _ => rfl)))
      (pss_cons (ps_set (i := 4) sc_law_odd.nd rfl (.inl rfl) (pe_lst (pa_cons pe_non (pa_cons pe_bl (pa_cons pe_int (pa_cons pe_str (pa_cons (pe_op op_add_str (pv 3) pe_str) (pa_cons (pe_slice sl_str (pv 3) (po_some pe_int) po_none) (pa_cons (pe_upper (pv 3)) (pa_cons (pe_op op_add_str (pv 3) pe_str) (pa_cons (pe_lst (pa_cons (pv 3) pa_nil)) (pa_cons (pe_tup (pa_cons (pv 3) pa_nil)) (pa_cons (pe_tup (pa_cons (pe_tup (pa_cons (pv 3) (pa_cons (pe_lst pa_nil) pa_nil))) pa_nil)) (pa_cons (pe_op op_pow pe_int pe_int) pa_nil))))))))))))))
      (pss_one (ps_ret (pe_ix ix_list (pe_op op_cat (pv 4) (pe_lst (pa_cons (pe_op op_mulS (pv 2) (pe_callTy call_int1 (by rfl) T.z_int (by decide +kernel) (pa_cons (pe_cmpR op_notIn_seq (pv 2) (pv 1) rfl) pa_nil))) pa_nil))) (pe_cal C_law_take hr (by decide) (by rfl) (pa_cons (pv 0) (pa_cons pe_int pa_nil))) (fun _ _ => rfl))))))), ?_⟩
    refine ⟨⟨_, rfl⟩, _, rfl, p, 9, rfl, hB, by decide, by decide, fun d1 H1 a0 a1 hB1 k1 => ?_⟩
    have x1 : Sx p H H1 := Sx.of k1
    refine ⟨d1, rfl, by omega, by omega, fun D nD => ?_⟩
    have nDp : D ≠ p := hB1.ne nD
    refine lc_range (lo := 0) (n := d1.toNat) (fun i H' => Sx p H H' ∧ Bag H' p ∧ ∃ ls : List Nat, ls.length = i ∧ (∀ c ∈ ls, 97 ≤ c ∧ c ≤ 122) ∧ H' D = some (.lst ((ls.map (fun c => (⟨#[c]⟩ : Str))).map V.str))) ⟨x1.trans (Sx.same (same_upd nD)), hB1.same (same_upd nD), [], rfl, (fun _ z => nomatch z), upd_same⟩ ?_ ?_
    · rintro i H2 hi ⟨x2, hB2, ls, hl, hc, hD⟩
      refine ⟨rfl, yesI ?_⟩
      refine ⟨_, rfl, p, 26, rfl, hB2, by decide, by decide, fun d2 H3 b0 b1 hB3 k3 => ?_⟩
      have hD3 : H3 D = some (.lst ((ls.map (fun c => (⟨#[c]⟩ : Str))).map V.str)) := by rw [k3 D nDp]; exact hD
      have hB4 : ∀ o, Bag (upd H3 D o) p := fun o => by
        obtain ⟨g, sd, e, r⟩ := hB3
        exact ⟨g, sd, by rw [upd_ne (fun z => nDp z.symm)]; exact e, r⟩
      refine ⟨_, d2, 97 + d2.toNat, rfl, rfl, (by show 26 ≤ sizeLine; decide), letters_at b0 b1, _, hD3, ?_, ?_, hB4 _, ls ++ [97 + d2.toNat], ?_, ?_, ?_⟩
      · rw [List.length_map, List.length_map, hl]
        exact Nat.lt_of_lt_of_le hi (Nat.le_trans (show d1.toNat ≤ 100 by omega) (by decide))
      · intro b o hb e
        have nb : b ≠ D := fun z => by
          have : H D = none := x1.free hB1 nD
          rw [z, this] at e
          cases e
        rw [upd_ne nb, k3 b hb]
        exact x2 b o hb e
      · rw [List.length_append, hl]
        rfl
      · intro c hm
        rcases List.mem_append.mp hm with m | m
        · exact hc c m
        · have := List.mem_singleton.mp m
          omega
      · rw [upd_same, List.map_append, List.map_append]
        rfl
    · rintro H2 ⟨x2, hB2, ls, hl, hc, hD⟩
      refine ⟨_, D, ls.map (fun c => (⟨#[c]⟩ : Str)), rfl, rfl, .inl (SqL.of hD), ?_, ?_⟩
      · rw [sum_ones, List.length_map]
        show ls.length + ls.length * 0 ≤ 16777216
        omega
      generalize hpl : Txt.join (Str.ofString "") (ls.map (fun c => (⟨#[c]⟩ : Str))) = word
      have tpl : tl word = ls := by rw [← hpl]; exact join_signs ls
      have wasc : ascB word = true := by
        unfold ascB
        rw [List.all_eq_true, tpl]
        intro c hm
        have := hc c hm
        exact decide_eq_true (by omega)
      have ha2 := x2 a _ nap ha
      refine ⟨_, rfl, _, rfl, p, 6, rfl, hB2, by decide, by decide, fun d3 H3 b0 b1 hB3 k3 => ?_⟩
      have x3 : Sx p H H3 := x2.trans (Sx.of k3)
      have ha3 := x3 a _ nap ha
      have hl6 : d3.toNat < kinds.length := by show d3.toNat < 6; omega
      obtain ⟨kd, hkd, akd⟩ : ∃ k : Str, k ∈ kinds ∧ atI (kinds.map V.str) d3 = some (.str k) := ⟨kinds[d3.toNat], List.getElem_mem hl6, atI_of b0 (by rw [List.getElem?_map, List.getElem?_eq_getElem hl6]; rfl)⟩
      refine ⟨a, _, d3, _, rfl, rfl, SqL.of ha3, akd, ?_⟩
      have kf := kind_facts kd hkd
      simp only [Bool.and_eq_true, Bool.not_eq_true', decide_eq_true_eq, decide_eq_false_iff_not] at kf
      obtain ⟨⟨⟨⟨⟨⟨⟨f0, f1⟩, f2⟩, f3⟩, f4⟩, f5⟩, f6⟩, f7⟩ := kf
      have ku := kind_upper kd hkd
      simp only [Bool.and_eq_true, Bool.not_eq_true', decide_eq_false_iff_not] at ku
      have eu : Txt.upper kd = ⟨kd.cps.map up1⟩ := upper_ascii (ascB_of f1)
      have ls1 : (Str.ofString "s").length = 1 := by decide
      have lb1 : (Str.ofString " ").length = 1 := by decide
      refine ⟨_, rfl, _, _, rfl, rfl, by omega, _, rfl, 1, rfl, kd, rfl, by omega, _, rfl, ⟨_, rfl⟩, kd, rfl, rfl, by omega, _, rfl, _, _, rfl, rfl, by omega, _, rfl, (by show 1 ≤ sizeLine; decide), fun l1 n1 => ?_⟩
      refine ⟨_, rfl, (by show 1 ≤ sizeLine; decide), fun t1 n2 => ?_⟩
      refine ⟨_, rfl, (by show 0 ≤ sizeLine; decide), fun l2 n3 => ?_⟩
      refine ⟨(by show 2 ≤ sizeLine; decide), fun t2 n4 => ?_⟩
      refine ⟨(by show 1 ≤ sizeLine; decide), fun t3 n5 => ?_⟩
      refine ⟨_, _, rfl, rfl, ⟨by decide, by decide, by decide⟩, (by show 12 ≤ sizeLine; decide), fun l4 n6 => ?_⟩
      have sA := same_upd (o := .lst [.str kd]) n1
      have sB := same_upd (o := .tup [.str kd]) n2
      have sC := same_upd (o := .lst []) n3
      have sD := same_upd (o := .tup [.str kd, .ref l2]) n4
      have sE := same_upd (o := .tup [.ref t2]) n5
      have sF := same_upd (o := .lst [.non, .bl true, .int 0, .str (Str.ofString ""), .str (kd ++ Str.ofString "s"), .str (cutS kd (some 1) none), .str (Txt.upper kd), .str (kd ++ Str.ofString " "), .ref l1, .ref t1, .ref t3, .int (10 ^ (40 : Int).toNat)]) n6
      have sAF := sA.trans (sB.trans (sC.trans (sD.trans (sE.trans sF))))
      have e1 := sB.trans (sC.trans (sD.trans (sE.trans sF))) _ _ (upd_same (H := H3) (a := l1) (o := .lst [.str kd]))
      have e2 := sC.trans (sD.trans (sE.trans sF)) _ _ (upd_same (a := t1) (o := .tup [.str kd]))
      have e3 := sD.trans (sE.trans sF) _ _ (upd_same (a := l2) (o := .lst []))
      have e4 := sE.trans sF _ _ (upd_same (a := t2) (o := .tup [.str kd, .ref l2]))
      have e5 := sF _ _ (upd_same (a := t3) (o := .tup [.ref t2]))
      have e6 := upd_same (H := upd (upd (upd (upd (upd H3 l1 (.lst [.str kd])) t1 (.tup [.str kd])) l2 (.lst [])) t2 (.tup [.str kd, .ref l2])) t3 (.tup [.ref t2])) (a := l4) (o := .lst [.non, .bl true, .int 0, .str (Str.ofString ""), .str (kd ++ Str.ofString "s"), .str (cutS kd (some 1) none), .str (Txt.upper kd), .str (kd ++ Str.ofString " "), .ref l1, .ref t1, .ref t3, .int (10 ^ (40 : Int).toNat)])
      have hB4 := hB3.same sAF
      have ha4 := sAF _ _ ha3
      have x4 := x3.trans (Sx.same (p := p) sAF)
      obtain ⟨m1, hm1, hm2, hm3⟩ : ∃ m : Int, (if (if true = true then !inV (.str word) (kinds.map V.str) else inV (.str word) (kinds.map V.str)) = true then (1 : Int) else 0) = m ∧ (m = 0 ∨ m = 1) ∧ (m = 1 → word ∉ kinds) := by
        refine ⟨_, rfl, by split <;> simp, fun h hm => ?_⟩
        rw [if_pos (rfl : true = true), inV_str, decide_eq_true hm] at h
        revert h
        decide
      obtain ⟨ok1, em⟩ := mul01 (z := word) hm2
      refine ⟨_, rfl, _, rfl, _, rfl, _, rfl, a, _, rfl, .inl (SqL.of ha4), rfl, flat_str _, .inr ⟨_, rfl, _, _, rfl, rfl, ?_, ?_⟩⟩
      · rw [hm1]; exact ok1
      rw [hm1, em]
      have ow : ∀ Hx, Odd K Hx (.str (if m1 = 1 then word else Str.empty)) := fun Hx => by
        by_cases c : m1 = 1
        · rw [if_pos c]
          exact odd_str wasc (hm3 c)
        · rw [if_neg c]
          exact odd_str (by decide +kernel) (by decide +kernel)
      generalize (if m1 = 1 then word else Str.empty) = wd at ow ⊢
      refine ⟨(by show 1 ≤ sizeLine; decide), fun lw nlw => ?_⟩
      have sG := same_upd (o := .lst [.str wd]) nlw
      refine ⟨l4, lw, _, _, rfl, rfl, sG _ _ e6, upd_same, (by show 12 + 1 ≤ sizeLine; decide), fun l5 nl5 => ?_⟩
      have sH := same_upd (o := .lst ([.non, .bl true, .int 0, .str (Str.ofString ""), .str (kd ++ Str.ofString "s"), .str (cutS kd (some 1) none), .str (Txt.upper kd), .str (kd ++ Str.ofString " "), .ref l1, .ref t1, .ref t3, .int (10 ^ (40 : Int).toNat)] ++ [.str wd])) nl5
      have sGH := sG.trans sH
      refine ⟨_, rfl, p, 13, rfl, hB4.same sGH, by decide, by decide, fun d H6 d0 d1 hB6 k6 => ?_⟩
      have x6 : Sx p H H6 := x4.trans ((Sx.same sGH).trans (Sx.of k6))
      obtain ⟨bg, bs, eb, _⟩ := _root_.id hB4
      have kk := fun (b : Addr) (o : HO) (nb : b ≠ p) e => (k6 b nb).trans (sGH b o e)
      have g1 := kk _ _ (ne_of e1 eb (by intro z; cases z)) e1
      have g2 := kk _ _ (ne_of e2 eb (by intro z; cases z)) e2
      have g3 := kk _ _ (ne_of e3 eb (by intro z; cases z)) e3
      have g4 := kk _ _ (ne_of e4 eb (by intro z; cases z)) e4
      have g5 := kk _ _ (ne_of e5 eb (by intro z; cases z)) e5
      have n5p : l5 ≠ p := (hB4.same sG).ne nl5
      have g7 : H6 l5 = some (.lst ([.non, .bl true, .int 0, .str (Str.ofString ""), .str (kd ++ Str.ofString "s"), .str (cutS kd (some 1) none), .str (Txt.upper kd), .str (kd ++ Str.ofString " "), .ref l1, .ref t1, .ref t3, .int (10 ^ (40 : Int).toNat)] ++ [.str wd])) := by
        rw [k6 l5 n5p]
        exact upd_same
      have oks : Okd 1 (.str kd) := .str (ascB_of f1)
      have one1 : ∀ {d : PyData} {n : Nat}, Okd n d → ∀ x ∈ [d], Okd n x := fun h x hx => by rw [List.mem_singleton.mp hx]; exact h
      obtain ⟨v, av, hv⟩ := pick_odd (Pr := fun x => ∀ Hx, Sx p H6 Hx → Odd K Hx x) (xs := [.non, .bl true, .int 0, .str (Str.ofString ""), .str (kd ++ Str.ofString "s"), .str (cutS kd (some 1) none), .str (Txt.upper kd), .str (kd ++ Str.ofString " "), .ref l1, .ref t1, .ref t3, .int (10 ^ (40 : Int).toNat)] ++ [.str wd]) (fun x hx Hx sx => by
        replace g1 := sx _ _ (ne_of e1 eb (by intro z; cases z)) g1
        replace g2 := sx _ _ (ne_of e2 eb (by intro z; cases z)) g2
        replace g3 := sx _ _ (ne_of e3 eb (by intro z; cases z)) g3
        replace g4 := sx _ _ (ne_of e4 eb (by intro z; cases z)) g4
        replace g5 := sx _ _ (ne_of e5 eb (by intro z; cases z)) g5
        simp only [List.cons_append, List.nil_append, List.mem_cons, List.not_mem_nil, or_false] at hx
        rcases hx with rfl | rfl | rfl | rfl | rfl | rfl | rfl | rfl | rfl | rfl | rfl | rfl | rfl
        · exact ⟨_, .non, .non, .inr ⟨"NoneType", .base .non, by decide +kernel⟩⟩
        · exact ⟨_, .bl _, .bool _, .inr ⟨"bool", .base (.bl _), by decide +kernel⟩⟩
        · exact ⟨_, .int _, .int _, .inr ⟨"int", .base (.int _), by decide +kernel⟩⟩
        · exact odd_str (by decide +kernel) (by decide +kernel)
        · exact odd_str f3 f2
        · exact odd_str f5 f4
        · rw [eu]
          exact odd_str ku.2 ku.1
        · exact odd_str f7 f6
        · exact ⟨_, .lst (SqL.of g1) (.cons (.str kd) .nil), .list (by show 1 ≤ 1000; decide) (one1 (.str (ascB_of f1))), .inr ⟨"list", .base (.lst g1), by decide +kernel⟩⟩
        · exact ⟨_, .tup (SqT.of g2) (.cons (.str kd) .nil), .tuple (by show 1 ≤ 1000; decide) (one1 (.str (ascB_of f1))), .inr ⟨"tuple", .base (.tup g2), by decide +kernel⟩⟩
        · refine ⟨_, .tup (SqT.of g5) (.cons (.tup (SqT.of g4) (.cons (.str kd) (.cons (.lst (SqL.of g3) .nil) .nil))) .nil), .tuple (by show 1 ≤ 1000; decide) (one1 (.tuple (by show 2 ≤ 1000; decide) fun x hx => ?_)), .inr ⟨"tuple", .base (.tup g5), by decide +kernel⟩⟩
          simp only [List.mem_cons, List.not_mem_nil, or_false] at hx
          rcases hx with rfl | rfl
          · exact oks
          · exact .list (Nat.zero_le _) (fun _ z => nomatch z)
        · exact ⟨_, .int _, .int _, .inr ⟨"int", .base (.int _), by decide +kernel⟩⟩
        · exact ow _) d0 (by rw [List.length_append]; show d.toNat < 12 + 1; omega)
      exact ⟨l5, _, d, v, rfl, rfl, SqL.of g7, av, q _ _ x6 hB6 hv⟩
end
end My

set_option Elab.async false
set_option linter.all false
set_option maxRecDepth 100000
set_option maxHeartbeats 4000000
namespace My
open PySem PySem.Spec PyProof.Rows L2 TL RZ
/-- the caught error, that has its dict, as isinstance looks at it -/
theorem kit_err {X : Cx} {a D dd : Addr} {oe : Obj} {pn pins : List (Addr × Obj)} {σ : L2.St} {H : Hp} {s : Shared} {fs : List (Str × V)} (C : ExcC X.K D) (hz : Zc (.ref D) (some dd) oe) (hf : ∃ vs, oe.data = .fields vs) (I : Inv (X.suite a ((a, oe) :: pn)) pins σ H s) (hd : H dd = some (.xd fs)) :
    ∃ Pr : Heap → Prop, PySem.W.KitX X.K (.ref a) (.ref D) Pr ∧ Pr s.heap := by
  obtain ⟨hget, _⟩ := I.pin (a, oe) (List.mem_append.mpr (.inl List.mem_cons_self))
  obtain ⟨vs, hv⟩ := hf
  have hx : ObjOk X.prog X.w H s.heap dd (.xd fs) := I.hok dd _ hd
  obtain ⟨mA, hns, hr⟩ := hx
  obtain ⟨od, ho, hl⟩ := lookIn_ns hns
  have J : PySem.W.InstAt s.heap a oe D (some od) := ⟨hget, hz.1, by unfold PySem.W.notCls; rw [hv] <;> rfl, by rw [hz.2]; exact ho⟩
  have hcl : (PySem.W.clsIn X.K D).isSome = true := by
    obtain ⟨cd, hc, _⟩ := PySem.W.any_some C.hd
    rw [hc]
    rfl
  exact ⟨_, PySem.W.kitx_exc hcl C.hg C.hk C.hs C.ha C.hn C.ht C.hm, J⟩
/-- isinstance(e, c) of the caught error -/
def rIsX (K : PySem.W.Frag) (D a : Addr) (cls : Value) (d : Option Addr) : List V → Hp → VK → Prop := fun xs H Q => cls = .ref D ∧ ∃ (dd : Addr) (fs : List (Str × V)) (c : V) (cv : Value) (b : Bool), d = some dd ∧ H dd = some (.xd fs) ∧ xs = [.ref a, c] ∧ ClsV c cv ∧ PySem.W.kitOne K (.ref D) cv = some b ∧ Q (.bl b) H
theorem call_isX {X : Cx} {a D : Addr} {oe : Obj} {pn : List (Addr × Obj)} {cls : Value} {d : Option Addr} (C : ExcC X.K D) (hz : Zc cls d oe) (hf : ∃ vs, oe.data = .fields vs) : CallR (X.suite a ((a, oe) :: pn)) (.builtin "isinstance") (rIsX X.K D a cls d) := by
  intro pins s σ H xs us Q I r h
  obtain ⟨rfl, dd, fs, c, cv, b, rfl, hd, rfl, k, e, q⟩ := h
  obtain ⟨u1, u2, rfl, r1, r2⟩ := vals2 r
  cases r1
  have e2 := k.eq r2
  subst e2
  obtain ⟨Pr, Z, p⟩ := kit_err C hz hf I hd
  exact PySem.W.kia_one Z I.kIn p e (fun z => nomatch z) fun tk => ⟨.bl b, H, I.tok tk, rfl, q⟩
/-- isinstance(e, (c, ..)) of the caught error, the tuple just laid -/
def rIsXT (K : PySem.W.Frag) (D a : Addr) (cls : Value) (d : Option Addr) : List V → Hp → VK → Prop := fun xs H Q => cls = .ref D ∧ ∃ (dd : Addr) (fs : List (Str × V)) (tp : Addr) (cs : List V) (us : List Value) (b : Bool), d = some dd ∧ H dd = some (.xd fs) ∧ xs = [.ref a, .ref tp] ∧ H tp = some (.tup cs) ∧ Paired ClsV cs us ∧ PySem.W.kitAny K (.ref D) us = some b ∧ Q (.bl b) H
theorem call_isXT {X : Cx} {a D : Addr} {oe : Obj} {pn : List (Addr × Obj)} {cls : Value} {d : Option Addr} (C : ExcC X.K D) (hz : Zc cls d oe) (hf : ∃ vs, oe.data = .fields vs) : CallR (X.suite a ((a, oe) :: pn)) (.builtin "isinstance") (rIsXT X.K D a cls d) := by
  intro pins s σ H xs us Q I r h
  obtain ⟨rfl, dd, fs, tp, cs, ws, b, rfl, hd, rfl, hT, k, e, q⟩ := h
  obtain ⟨u1, u2, rfl, r1, r2⟩ := vals2 r
  cases r1
  cases (show u2 = Value.ref tp from r2)
  obtain ⟨Pr, Z, p⟩ := kit_err C hz hf I hd
  obtain ⟨_, its, rv, o, h1, h2, n, h3⟩ := (show ObjOk X.prog X.w H s.heap tp (.tup cs) from I.hok tp _ hT)
  have e3 := ClsV.all k rv
  subst e3
  obtain ⟨oc, od, dt, sl⟩ := o
  simp only at h2 h3
  subst h2 h3
  exact PySem.W.kia_tup Z I.kIn p h1 e (fun z => nomatch z) fun tk => ⟨.bl b, H, I.tok tk, rfl, q⟩
structure BY (K : PySem.W.Frag) (C : Addr) : Prop where
  x : ExcC K C
  m : PySem.W.exmOne K (.ref C) (.ref C) = some true
  k0 : PySem.W.kitOne K (.ref C) (.type "LookupError") = some true
  k1 : PySem.W.kitOne K (.ref C) (.type "KeyError") = some false
  k2 : PySem.W.kitOne K (.ref C) (.type "IndexError") = some false
  k3 : PySem.W.kitOne K (.ref C) (.type "ValueError") = some false
theorem BY.any {K : PySem.W.Frag} {C : Addr} (B : BY K C) : PySem.W.kitAny K (.ref C) [.type "KeyError", .type "IndexError", .type "ValueError"] = some false :=
  kitAny_cons B.k1 (fun _ => kitAny_cons B.k2 (fun _ => kitAny_cons B.k3 (fun _ => kitAny_nil) (fun z => nomatch z)) (fun z => nomatch z)) (fun z => nomatch z)
theorem Okd.up {n : Nat} {d : PyData} (h : Okd n d) : Okd (n + 1) d := by
  induction h with
  | non => exact .non
  | bool b => exact .bool b
  | int i => exact .int i
  | str h => exact .str h
  | list hl h ih => exact .list hl ih
  | tuple hl h ih => exact .tuple hl ih
section
variable {P : Program} {w : World} {K : PySem.W.Frag} {mg : Str → Option Value} {base : Heap}
abbrev s_law_refused : Stmt := topS 18
abbrev N_law_refused : List Str := ["_law_kind", "_law_risk", "e"]
theorem sc_law_refused : FnScope N_law_refused ["_law_kind", "_law_risk"] (defScope s_law_refused) := ⟨rfl, rfl, rfl, by decide +kernel, rfl, by decide +kernel, by decide +kernel⟩
def sp_law_refused (K : PySem.W.Frag) : Sp := fun vs H Q _ => ∃ (x y : V), vs = [x, y] ∧
  ((NotKind K H x ∧ ∀ H' r, Same H H' → H' r = some (.lst [x]) → Q (.ref r) H') ∨ (∃ k : Str, x = .str k ∧ k ∈ kinds ∧ BadRisk K H y ∧ ∀ H' r, Same H H' → H' r = some (.lst [.non]) → Q (.ref r) H'))
theorem ok_law_refused {f fA C fI : Addr} {fd fdA : FuncData} {ds : List Value} (F : Fun K "_law_refused" "_law_refused" s_law_refused f fd) (T : Txt mg) (B : BX K mg C fI) (B2 : BY K C)
    (GA : FnOk P w K mg base (L2.CX P w) 3 fA fdA ["kind", "risk", "asked"] (sp_attX K C)) (gA : mg "attendance" = some (.ref fA)) (kA : PySem.W.keepIn K (.ref fA) = true) (bA : Binds K fdA ["kind", "risk", "asked"] ds) (hA : Vals [.int 0] ds) :
    FnOk P w K mg base CX0 4 f fd ["_law_kind", "_law_risk"] (sp_law_refused K) := by
  refine F.ok sc_law_refused (fun vs H Q E h => ?_) (fun cdv A outer s H vs Q E hr h => ?_)
  · obtain ⟨x, y, rfl, _⟩ := h
    rfl
  · obtain ⟨x, y, rfl, h⟩ := h
    refine ⟨_, pss_cons (ps_try_as (i := 2) (Wout := fun _ _ _ _ => False) rfl rfl sc_law_refused.nd rfl rfl ⟨rfl, by decide, Or.inl B.g⟩ takes0
      (fun W pn xe tk _ => pss_one (ps_expr (pe_callSD GA hr rfl gA kA bA hA (fun σ => passAt tk σ) (pa_cons (pv 0) (pa_cons (pv 1) pa_nil)))))
      (fun a oe cls d pn hz hf => pss_cons (ps_if (PW.pt (pw_or (pt_not (pt_val (pe_callB (call_isX B2.x hz hf) (by rfl) T.z_isinstance (by decide +kernel) (pa_cons (pv 2) (pa_cons (pe_bltn (v := .ty "LookupError") (by rfl) T.z_LookupError (by decide +kernel) rfl) pa_nil)))))
        (pw_or1 (pt_val (pe_callB (call_isXT B2.x hz hf) (by rfl) T.z_isinstance (by decide +kernel) (pa_cons (pv 2) (pa_cons (pe_tup (pa_cons (pe_bltn (v := .ty "KeyError") (by rfl) T.z_KeyError (by decide +kernel) rfl) (pa_cons (pe_bltn (v := .ty "IndexError") (by rfl) T.z_IndexError (by decide +kernel) rfl) (pa_cons (pe_bltn (v := .ty "ValueError") (by rfl) T.z_ValueError (by decide +kernel) rfl) pa_nil)))) pa_nil))))))) (pss_one (ps_ret (pe_lst (pa_cons pe_str pa_nil)))) pss_nil)
        (pss_one (ps_ret (pe_lst (pa_cons (pe_xf ⟨B2.x.hg, B2.x.hk, B2.x.hs, B2.x.hd⟩ B.no hz hf (pv 2)) pa_nil))))))
      (pss_one (ps_ret (pe_lst pa_nil))), ?_⟩
    rcases h with ⟨nk, q⟩ | ⟨k, rfl, hk, br, q⟩
    · refine ⟨_, rfl, _, rfl, x, y, .int 0, rfl, .inl ⟨nk, fun H1 d sm hd => ?_⟩⟩
      refine ⟨true, B2.m, fun _ a0 ha0 => ?_, fun z => Bool.noConfusion z⟩
      refine ⟨_, rfl, rfl, d, _, _, _, true, rfl, hd, rfl, .ty "LookupError", B2.k0, true, rfl, iteF ?_⟩
      refine ⟨_, rfl, (by show 3 ≤ sizeLine; decide), fun tp ntp => ?_⟩
      have hd2 : (upd H1 tp (.tup [.ty "KeyError", .ty "IndexError", .ty "ValueError"])) d = some (.xd [("kind", x)]) := same_upd ntp _ _ hd
      refine ⟨rfl, d, _, tp, _, _, false, rfl, hd2, rfl, upd_same, .cons (.ty _) (.cons (.ty _) (.cons (.ty _) .nil)), B2.any, false, rfl, iteF ?_⟩
      refine ⟨_, rfl, rfl, rfl, d, _, _, rfl, hd2, rfl, (by show 1 ≤ sizeLine; decide), fun r nr => ?_⟩
      exact q _ r (sm.trans ((same_upd ntp).trans (same_upd nr))) upd_same
    · refine ⟨_, rfl, _, rfl, .str k, y, .int 0, rfl, .inr ⟨k, rfl, hk, br, fun H1 d sm hd => ?_⟩⟩
      refine ⟨true, B2.m, fun _ a0 ha0 => ?_, fun z => Bool.noConfusion z⟩
      refine ⟨_, rfl, rfl, d, _, _, _, true, rfl, hd, rfl, .ty "LookupError", B2.k0, true, rfl, iteF ?_⟩
      refine ⟨_, rfl, (by show 3 ≤ sizeLine; decide), fun tp ntp => ?_⟩
      have hd2 : (upd H1 tp (.tup [.ty "KeyError", .ty "IndexError", .ty "ValueError"])) d = some (.xd [("kind", .non)]) := same_upd ntp _ _ hd
      refine ⟨rfl, d, _, tp, _, _, false, rfl, hd2, rfl, upd_same, .cons (.ty _) (.cons (.ty _) (.cons (.ty _) .nil)), B2.any, false, rfl, iteF ?_⟩
      refine ⟨_, rfl, rfl, rfl, d, _, _, rfl, hd2, rfl, (by show 1 ≤ sizeLine; decide), fun r nr => ?_⟩
      exact q _ r (sm.trans ((same_upd ntp).trans (same_upd nr))) upd_same
end
end My

set_option Elab.async false
set_option linter.all false
set_option maxRecDepth 100000
set_option maxHeartbeats 4000000
namespace My
open PySem PySem.Spec PyProof.Rows L2 TL RZ
theorem Okd.one {n : Nat} {d : PyData} (h : Okd n d) : Okd (n + 1) (.list [d]) := .list (by show 1 ≤ 1000; decide) fun x hx => by rw [List.mem_singleton.mp hx]; exact h
theorem pick_br {K : PySem.W.Frag} {H : Hp} {xs : List V} (h : ∀ x ∈ xs, BadRisk K H x) {d : Int} (h0 : 0 ≤ d) (h1 : d.toNat < xs.length) : ∃ v, atI xs d = some v ∧ v ∈ xs :=
  ⟨xs[d.toNat], atI_of h0 (List.getElem?_eq_getElem h1), List.getElem_mem h1⟩
section
variable {P : Program} {w : World} {K : PySem.W.Frag} {mg : Str → Option Value} {base : Heap}
abbrev s_law : Stmt := topS 19
abbrev N_law : List Str := ["_law_script", "_law_kinds", "_law_kind", "_law_risk", "_law_most", "_law_told", "_law_k", "_law_bag_here", "_law_other"]
theorem sc_law : FnScope N_law ["_law_script"] (defScope s_law) := ⟨rfl, rfl, rfl, by decide +kernel, rfl, by decide +kernel, by decide +kernel⟩
def sp_law (K : PySem.W.Frag) : Sp := fun vs H Q _ => ∃ (a : Addr) (ns : List Int), vs = [.ref a] ∧ SqL K H a (ns.map V.int) ∧ ns.length ≤ 63 ∧ ∀ H', Q (.bl true) H'
theorem ok_law {f fA : Addr} {fd fdA : FuncData} {ds : List Value} (F : Fun K "law" "law" s_law f fd) (T : Txt mg) (C_law_bag : Cal P w K mg base 1 "_law_bag" (sp_law_bag K)) (C_law_take : Cal P w K mg base 1 "_law_take" sp_law_take) (C_law_due : Cal P w K mg base 1 "_law_due" sp_att) (C_law_odd : Cal P w K mg base 2 "_law_odd" (sp_law_odd K))
    (C_law_refused : Cal P w K mg base 4 "_law_refused" (sp_law_refused K)) (C_law_like : Cal P w K mg base 5 "_law_like" (sp_law_like K 4)) (C_attendance : Cal P w K mg base 3 "attendance" sp_att)
    (GA : FnOk P w K mg base CX0 3 fA fdA ["kind", "risk", "asked"] sp_att) (gA : mg "attendance" = some (.ref fA)) (kA : PySem.W.keepIn K (.ref fA) = true) (bA : Binds K fdA ["kind", "risk", "asked"] ds) (hA : Vals [.int 0] ds) (kbA : KBn K fdA ["kind", "risk", "asked"] 2 ["asked"] (fun us ws => us ++ ws) (fun vs zs => vs ++ zs)) :
    FnOk P w K mg base CX0 6 f fd ["_law_script"] (sp_law K) := by
  refine F.ok sc_law (fun vs H Q E h => ?_) (fun cdv A outer s H vs Q E hr h => ?_)
  · obtain ⟨a, ns, rfl, _⟩ := h
    rfl
  · obtain ⟨a, ns, rfl, hS, hns, q⟩ := h
    refine ⟨_, (pss_cons (ps_set (i := 1) sc_law.nd rfl (.inl rfl) (pe_lst (pa_cons pe_str (pa_cons pe_str (pa_cons pe_str (pa_cons pe_str (pa_cons pe_str (pa_cons pe_str pa_nil))))))))
      (pss_cons (ps_for PassesOwn.never rfl (pi_list (pv 1)) (pg_name (i := 2) sc_law.nd rfl (.inl rfl))
        (pss_one (ps_for PassesOwn.never rfl (pi_tup (pe_tup (pa_cons pe_int (pa_cons pe_int (pa_cons pe_int (pa_cons pe_int pa_nil)))))) (pg_name (i := 3) sc_law.nd rfl (.inl rfl))
          (pss_cons (ps_set (i := 4) sc_law.nd rfl (.inl rfl) (pe_cal C_law_take hr (by decide) (by rfl) (pa_cons (pe_cal C_law_bag hr (by decide) (by rfl) (pa_cons (pv 0) (pa_cons (pv 3) pa_nil))) (pa_cons pe_int pa_nil))))
          (pss_cons (ps_for PassesOwn.never rfl (pi_tup (pe_tup (pa_cons (pe_cal C_attendance hr (by decide) (by rfl) (pa_cons (pv 2) (pa_cons (pv 3) (pa_cons (pv 4) pa_nil)))) (pa_cons (pe_callN GA (hr.mono (by decide)) (by rfl) gA kA kbA pass0 (pa_cons (pv 2) (pa_cons (pv 3) pa_nil)) (pk_cons (pv 4) pk_nil)) pa_nil)))) (pg_name (i := 5) sc_law.nd rfl (.inl rfl))
            (pss_one (ps_if (pt_not (pt_val (pe_cal C_law_like hr (by decide) (by rfl) (pa_cons (pv 5) (pa_cons (pe_cal C_law_due hr (by decide) (by rfl) (pa_cons (pv 2) (pa_cons (pv 3) (pa_cons (pv 4) pa_nil)))) pa_nil))))) (pss_one (ps_ret pe_bl)) pss_nil)))
          (pss_one (ps_if (pt_not (pt_val (pe_cal C_law_like hr (by decide) (by rfl) (pa_cons (pe_call GA (hr.mono (by decide)) (by rfl) gA kA bA hA pass0 (pa_cons (pv 2) (pa_cons (pv 3) pa_nil))) (pa_cons (pe_cal C_law_due hr (by decide) (by rfl) (pa_cons (pv 2) (pa_cons (pv 3) (pa_cons pe_int pa_nil)))) pa_nil))))) (pss_one (ps_ret pe_bl)) pss_nil)))))))
      (pss_cons (ps_for PassesOwn.never rfl (pi_range1 (by rfl) T.z_range (pa_cons (pe_callB (call_max2 rfl) (by rfl) T.z_max (by decide +kernel) (pa_cons pe_int (pa_cons (pe_callB (call_min2 rfl) (by rfl) T.z_min (by decide +kernel) (pa_cons pe_int (pa_cons (pe_callB call_len_seq (by rfl) T.z_len (by decide +kernel) (pa_cons (pv 0) pa_nil)) pa_nil))) pa_nil))) pa_nil)) (pg_name (i := 6) sc_law.nd rfl (.inl rfl))
        (pss_cons (ps_set (i := 7) sc_law.nd rfl (.inl rfl) (pe_cal C_law_bag hr (by decide) (by rfl) (pa_cons (pv 0) (pa_cons (pv 6) pa_nil))))
        (pss_cons (ps_par (i := 2) (j := 8) (by rfl) sc_law.nd rfl rfl (by decide) rfl rfl (pa_cons (pe_ix ix_list (pv 1) (pe_cal C_law_take hr (by decide) (by rfl) (pa_cons (pv 7) (pa_cons pe_int pa_nil))) (fun _ _ => rfl)) (pa_cons (pe_cal C_law_odd hr (by decide) (by rfl) (pa_cons (pv 7) (pa_cons (pv 1) pa_nil))) pa_nil)) (by rfl))
        (pss_cons (ps_set (i := 3) sc_law.nd rfl (.inl rfl) (pe_ix ix_list (pe_lst (pa_cons pe_int (pa_cons pe_int (pa_cons (pe_un un_neg pe_int) (pa_cons pe_bl (pa_cons pe_non (pa_cons pe_str (pa_cons (pe_lst (pa_cons pe_int pa_nil)) (pa_cons (pe_tup (pa_cons pe_int (pa_cons (pe_lst (pa_cons pe_int pa_nil)) pa_nil))) (pa_cons (pe_op op_pow pe_int pe_int) pa_nil)))))))))) (pe_cal C_law_take hr (by decide) (by rfl) (pa_cons (pv 7) (pa_cons pe_int pa_nil))) (fun _ _ => rfl)))
        (pss_cons (ps_if (PW.pt (pw_or (pt_cmpR (op_neD hr.units) (pe_cal C_law_refused hr (by decide) (by rfl) (pa_cons (pv 2) (pa_cons (pv 3) pa_nil))) (pe_lst (pa_cons pe_non pa_nil)) (nomark _)) (pw_or1 (pt_not (pt_val (pe_cal C_law_like hr (by decide) (by rfl) (pa_cons (pe_slice sl_list (pe_cal C_law_refused hr (by decide) (by rfl) (pa_cons (pv 8) (pa_cons (pv 3) pa_nil))) po_none (po_some pe_int)) (pa_cons (pe_lst (pa_cons (pv 8) pa_nil)) pa_nil)))))))) (pss_one (ps_ret pe_bl)) pss_nil)
        (pss_one (ps_if (pt_not (pt_val (pe_cal C_law_like hr (by decide) (by rfl) (pa_cons (pe_cal C_law_refused hr (by decide) (by rfl) (pa_cons (pv 8) (pa_cons (pe_op op_add pe_int (pe_cal C_law_take hr (by decide) (by rfl) (pa_cons (pv 7) (pa_cons pe_int pa_nil)))) pa_nil))) (pa_cons (pe_lst (pa_cons (pv 8) pa_nil)) pa_nil))))) (pss_one (ps_ret pe_bl)) pss_nil)))))))
      (pss_one (ps_ret pe_bl))))), ?_⟩
    refine ⟨(by show 6 ≤ sizeLine; decide), fun lk nlk => ?_⟩
    have ek : (upd H lk (.lst (kinds.map V.str))) lk = some (.lst (kinds.map V.str)) := upd_same
    have smK : Same H (upd H lk (.lst (kinds.map V.str))) := same_upd nlk
    refine ⟨_, rfl, lk, rfl, ⟨_, SqL.of ek⟩, ?_⟩
    refine for_list (K := K) (a := lk) (xs := kinds.map V.str) (fun i σ H' => (∃ x2 x3 x4 x5 x6 x7 x8, σ = [some (.ref a), some (.ref lk), x2, x3, x4, x5, x6, x7, x8]) ∧ Same H H' ∧ H' lk = some (.lst (kinds.map V.str))) ⟨⟨_, _, _, _, _, _, _, rfl⟩, smK, ek⟩ (fun i σ H' _ h => SqL.of h.2.2) ?_ ?_
    · rintro i x σ H1 hx ⟨⟨x2, x3, x4, x5, x6, x7, x8, rfl⟩, sm1, hk1⟩
      rw [List.getElem?_map] at hx
      obtain ⟨k, hk, rfl⟩ := Option.map_eq_some_iff.mp hx
      have hkk : k ∈ kinds := List.mem_of_getElem? hk
      refine ⟨(by show 4 ≤ sizeLine; decide), fun tr ntr => ?_⟩
      have etr : (upd H1 tr (.tup [.int 1, .int 2, .int 3, .int 4])) tr = some (.tup [.int 1, .int 2, .int 3, .int 4]) := upd_same
      have smR := same_upd (o := .tup [.int 1, .int 2, .int 3, .int 4]) ntr
      refine ⟨tr, rfl, ⟨_, SqT.of etr⟩, ?_⟩
      generalize upd H1 tr (.tup [.int 1, .int 2, .int 3, .int 4]) = G at etr smR ⊢
      refine for_tup (K := K) (a := tr) (xs := [.int 1, .int 2, .int 3, .int 4]) (fun j σ H' => (∃ x3 x4 x5 x6 x7 x8, σ = [some (.ref a), some (.ref lk), some (.str k), x3, x4, x5, x6, x7, x8]) ∧ Same G H') ⟨⟨_, _, _, _, _, _, rfl⟩, Same.refl _⟩ (fun j σ H' _ h => SqT.of (h.2 _ _ etr)) ?_ ?_
      · rintro j x σ H2 hx2 ⟨⟨x3, x4, x5, x6, x7, x8, rfl⟩, sm2⟩
        obtain ⟨r, rfl, r1, r4⟩ : ∃ r : Int, x = .int r ∧ 1 ≤ r ∧ r ≤ 4 := by
          match j, hx2 with
          | 0, h => cases h; exact ⟨1, rfl, by decide, by decide⟩
          | 1, h => cases h; exact ⟨2, rfl, by decide, by decide⟩
          | 2, h => cases h; exact ⟨3, rfl, by decide, by decide⟩
          | 3, h => cases h; exact ⟨4, rfl, by decide, by decide⟩
        have smH2 : Same H H2 := sm1.trans (smR.trans sm2)
        refine ⟨_, rfl, _, rfl, a, ns, r, rfl, smH2.seq hS, by omega, by omega, fun H3 p sm3 np B3 => ?_⟩
        refine ⟨p, 21, rfl, B3, by decide, by decide, fun m H4 m0 m1 B4 k4 => ?_⟩
        have smG4 : Same G H4 := Sx.toSame (sm2.trans sm3) (Sx.of k4) (sm2.free np)
        refine ⟨_, rfl, _, rfl, _, rfl, k, r, m, rfl, hkk, r1, r4, fun H5 p1 sm5 e5 => ?_⟩
        refine ⟨_, rfl, _, rfl, _, rfl, rfl, rfl, k, r, m, rfl, hkk, r1, r4, fun H6 p2 sm6 e6 => ?_⟩
        refine ⟨(by show 2 ≤ sizeLine; decide), fun tt ntt => ?_⟩
        have ett : (upd H6 tt (.tup [.ref p1, .ref p2])) tt = some (.tup [.ref p1, .ref p2]) := upd_same
        have smT := same_upd (o := .tup [.ref p1, .ref p2]) ntt
        have e5' := smT _ _ (sm6 _ _ e5)
        have e6' := smT _ _ e6
        have smGT := smG4.trans (sm5.trans (sm6.trans smT))
        refine ⟨tt, rfl, ⟨_, SqT.of ett⟩, ?_⟩
        generalize upd H6 tt (.tup [.ref p1, .ref p2]) = G2 at ett e5' e6' smGT ⊢
        refine for_tup (K := K) (a := tt) (xs := [.ref p1, .ref p2]) (fun l σ H' => (∃ x5 x6 x7 x8, σ = [some (.ref a), some (.ref lk), some (.str k), some (.int r), some (.int m), x5, x6, x7, x8]) ∧ Same G2 H') ⟨⟨_, _, _, _, rfl⟩, Same.refl _⟩ (fun l σ H' _ h => SqT.of (h.2 _ _ ett)) ?_ ?_
        · rintro l x σ H7 hx7 ⟨⟨x5, x6, x7, x8, rfl⟩, sm7⟩
          obtain ⟨pp, rfl, ep⟩ : ∃ pp, x = .ref pp ∧ H7 pp = some (.tup (attV k r m)) := by
            match l, hx7 with
            | 0, h => cases h; exact ⟨p1, rfl, sm7 _ _ e5'⟩
            | 1, h => cases h; exact ⟨p2, rfl, sm7 _ _ e6'⟩
          refine ⟨_, rfl, _, rfl, _, rfl, _, rfl, k, r, m, rfl, hkk, r1, r4, fun H8 p8 sm8 e8 => ?_⟩
          obtain ⟨d1, dp1, ok1, rfl⟩ := att_dp (K := K) (sm8 _ _ ep)
          obtain ⟨d2, dp2, ok2, rfl⟩ := att_dp (K := K) e8
          refine ⟨_, _, _, rfl, dp1, dp2, ok1.up.up, fun H9 sm9 => ?_⟩
          refine ⟨_, rfl, iteF ?_⟩
          exact ⟨⟨_, _, _, _, rfl⟩, sm7.trans (sm8.trans sm9)⟩
        · rintro σ H7 ⟨⟨x5, x6, x7, x8, rfl⟩, sm7⟩
          refine ⟨_, rfl, _, rfl, k, r, 0, rfl, hkk, r1, r4, fun H8 p8 sm8 e8 => ?_⟩
          refine ⟨_, rfl, _, rfl, k, r, 0, rfl, hkk, r1, r4, fun H9 p9 sm9 e9 => ?_⟩
          obtain ⟨d1, dp1, ok1, rfl⟩ := att_dp (K := K) (sm9 _ _ e8)
          obtain ⟨d2, dp2, ok2, rfl⟩ := att_dp (K := K) e9
          refine ⟨_, _, _, rfl, dp1, dp2, ok1.up.up, fun H10 sm10 => ?_⟩
          refine ⟨_, rfl, iteF ?_⟩
          exact ⟨⟨_, _, _, _, _, _, rfl⟩, smGT.trans (sm7.trans (sm8.trans (sm9.trans sm10)))⟩
      · rintro σ H2 ⟨⟨x3, x4, x5, x6, x7, x8, rfl⟩, sm2⟩
        exact ⟨⟨_, _, _, _, _, _, _, rfl⟩, sm1.trans (smR.trans sm2), sm2 _ _ (smR _ _ hk1)⟩
    · rintro σ H1 ⟨⟨x2, x3, x4, x5, x6, x7, x8, rfl⟩, sm1, hk1⟩
      have nN : ∃ N : Int, (if (if ((ns.map V.int).length : Int) < 20 then ((ns.map V.int).length : Int) else 20) > 6 then (if ((ns.map V.int).length : Int) < 20 then ((ns.map V.int).length : Int) else 20) else 6) = N ∧ 0 ≤ N ∧ N ≤ 60 := ⟨_, rfl, by split <;> (try split) <;> omega, by split <;> (try split) <;> omega⟩
      obtain ⟨N, eN, hN0, hN1⟩ := nN
      refine ⟨_, rfl, a, _, rfl, .inl (sm1.seq hS), _, _, rfl, _, _, rfl, N, ?_, by omega, by omega, ?_⟩
      · rw [← eN]
      refine for_range (lo := 0) (n := N.toNat) (fun i σ H' => (∃ x2 x3 x4 x5 x6 x7 x8, σ = [some (.ref a), some (.ref lk), x2, x3, x4, x5, x6, x7, x8]) ∧ Same H1 H') ⟨⟨_, _, _, _, _, _, _, rfl⟩, Same.refl _⟩ ?_ ?_
      · rintro i σ H2 hi ⟨⟨x2, x3, x4, x5, x6, x7, x8, rfl⟩, sm2⟩
        refine ⟨_, rfl, _, rfl, a, ns, _, rfl, (sm1.trans sm2).seq hS, by omega, by omega, fun H3 p sm3 np B3 => ?_⟩
        have hk3 := sm3 _ _ (sm2 _ _ hk1)
        have lkp : lk ≠ p := fun e => by
          have h := sm2 _ _ hk1
          rw [e, np] at h
          cases h
        refine ⟨_, rfl, _, rfl, p, 6, rfl, B3, by decide, by decide, fun d3 H4 a0 a1 B4 k4 => ?_⟩
        have hk4 : H4 lk = some (.lst (kinds.map V.str)) := by rw [k4 lk lkp]; exact hk3
        have hl6 : d3.toNat < kinds.length := by show d3.toNat < 6; omega
        obtain ⟨kd, hkd, akd⟩ : ∃ k : Str, k ∈ kinds ∧ atI (kinds.map V.str) d3 = some (.str k) := ⟨kinds[d3.toNat], List.getElem_mem hl6, atI_of a0 (by rw [List.getElem?_map, List.getElem?_eq_getElem hl6]; rfl)⟩
        refine ⟨lk, _, d3, _, rfl, rfl, SqL.of hk4, akd, ?_⟩
        refine ⟨_, rfl, _, rfl, p, lk, rfl, B4, lkp, hk4, fun H5 other sx5 B5 ho5 => ?_⟩
        refine ⟨_, _, rfl, ?_⟩
        -- the risk
        refine ⟨1, rfl, (by show 1 ≤ sizeLine; decide), fun l1 n1 => ?_⟩
        refine ⟨(by show 1 ≤ sizeLine; decide), fun l2 n2 => ?_⟩
        refine ⟨(by show 2 ≤ sizeLine; decide), fun t1 n3 => ?_⟩
        refine ⟨_, _, rfl, rfl, ⟨by decide, by decide, by decide⟩, (by show 9 ≤ sizeLine; decide), fun l4 n4 => ?_⟩
        have sA := same_upd (o := .lst [.int 1]) n1
        have sB := same_upd (o := .lst [.int 2]) n2
        have sC := same_upd (o := .tup [.int 1, .ref l2]) n3
        have sD := same_upd (o := .lst [.int 0, .int 5, .int (-1), .bl true, .non, .str (Str.ofString "1"), .ref l1, .ref t1, .int (10 ^ 40)]) n4
        have sAD := sA.trans (sB.trans (sC.trans sD))
        refine ⟨_, rfl, p, 9, rfl, B5.same sAD, by decide, by decide, fun d H6 d0 d1 B6 k6 => ?_⟩
        have e1 : H6 l1 = some (.lst [.int 1]) := by rw [k6 l1 (B5.ne n1)]; exact sD _ _ (sC _ _ (sB _ _ upd_same))
        have e3 : H6 t1 = some (.tup [.int 1, .ref l2]) := by rw [k6 t1 ((B5.same (sA.trans sB)).ne n3)]; exact sD _ _ upd_same
        have e4 : H6 l4 = some (.lst [.int 0, .int 5, .int (-1), .bl true, .non, .str (Str.ofString "1"), .ref l1, .ref t1, .int (10 ^ 40)]) := by rw [k6 l4 ((B5.same (sA.trans (sB.trans sC))).ne n4)]; exact upd_same
        have br : ∀ Hx, Same H6 Hx → ∀ x ∈ ([.int 0, .int 5, .int (-1), .bl true, .non, .str (Str.ofString "1"), .ref l1, .ref t1, .int (10 ^ 40)] : List V), BadRisk K Hx x := fun Hx smx x hx => by
          simp only [List.mem_cons, List.not_mem_nil, or_false] at hx
          rcases hx with rfl | rfl | rfl | rfl | rfl | rfl | rfl | rfl | rfl
          · exact .inl ⟨_, rfl, by decide⟩
          · exact .inl ⟨_, rfl, by decide⟩
          · exact .inl ⟨_, rfl, by decide⟩
          · exact .inr ⟨"bool", .base (.bl _), .inr ⟨by decide +kernel, by decide +kernel⟩⟩
          · exact .inr ⟨"NoneType", .base .non, .inl (by decide +kernel)⟩
          · exact .inr ⟨"str", .base (.str _), .inl (by decide +kernel)⟩
          · exact .inr ⟨"list", .base (.lst (smx _ _ e1)), .inl (by decide +kernel)⟩
          · exact .inr ⟨"tuple", .base (.tup (smx _ _ e3)), .inl (by decide +kernel)⟩
          · exact .inl ⟨_, rfl, by decide⟩
        obtain ⟨v, av, hv⟩ := pick_br (K := K) (H := H6) (br H6 (Same.refl _)) d0 (show d.toNat < 9 by omega)
        refine ⟨l4, _, d, v, rfl, rfl, SqL.of e4, av, ?_⟩
        -- refused of the right kind
        refine ⟨_, rfl, _, rfl, _, _, rfl, .inr ⟨kd, rfl, hkd, br H6 (Same.refl _) v hv, fun H7 r7 sm7 er7 => ?_⟩⟩
        refine ⟨(by show 1 ≤ sizeLine; decide), fun l8 n8 => ?_⟩
        have s8 := same_upd (o := .lst [.non]) n8
        have ok1 : Okd 2 (.list [.none]) := Okd.one .non
        refine ⟨.list [.none], .list [.none], .lst (SqL.of (s8 _ _ er7)) (.cons .non .nil), .lst (SqL.of upd_same) (.cons .non .nil), ok1.shaped (by decide), ok1.shaped (by decide), _, rfl, ?_⟩
        refine iteF' (by rw [eqv_self (ok1.shaped (by decide))]; rfl) ?_
        have sm78 := sm7.trans s8
        have x6 : Sx p H5 H6 := (Sx.same sAD).trans (Sx.of k6)
        have x8 : Sx p H5 (upd H7 l8 (.lst [.non])) := x6.trans (Sx.same sm78)
        obtain ⟨dd, dp8, okd, nk8⟩ := ho5 _ x8
        refine ⟨_, rfl, _, rfl, _, _, rfl, .inl ⟨nk8, fun H9 r9 sm9 e9 => ?_⟩⟩
        refine ⟨1, rfl, r9, _, rfl, SqL.of e9, fun s1 ns1 => ?_⟩
        have s10 := same_upd (o := .lst [other]) ns1
        refine ⟨_, rfl, (by show 1 ≤ sizeLine; decide), fun l11 n11 => ?_⟩
        have s11 := same_upd (o := .lst [other]) n11
        have dp11 := Dp.same (sm9.trans (s10.trans s11)) dp8
        refine ⟨_, _, .list [dd], rfl, .lst (SqL.of (s11 _ _ upd_same)) (.cons dp11 .nil), .lst (SqL.of upd_same) (.cons dp11 .nil), okd.one, fun H12 sm12 => ?_⟩
        refine ⟨_, rfl, iteF ?_⟩
        have smA := sm78.trans (sm9.trans (s10.trans (s11.trans sm12)))
        have B12 := B6.same smA
        refine ⟨_, rfl, _, rfl, p, 4, rfl, B12, by decide, by decide, fun d5 H13 f0 f1 B13 k13 => ?_⟩
        refine ⟨_, _, rfl, rfl, ?_⟩
        have x13 : Sx p H5 H13 := x6.trans ((Sx.same smA).trans (Sx.of k13))
        obtain ⟨dd2, dp13, okd2, nk13⟩ := ho5 _ x13
        refine ⟨_, _, rfl, .inl ⟨nk13, fun H14 r14 sm14 e14 => ?_⟩⟩
        refine ⟨_, rfl, (by show 1 ≤ sizeLine; decide), fun l15 n15 => ?_⟩
        have s15 := same_upd (o := .lst [other]) n15
        have dp15 := Dp.same (sm14.trans s15) dp13
        refine ⟨_, _, .list [dd2], rfl, .lst (SqL.of (s15 _ _ e14)) (.cons dp15 .nil), .lst (SqL.of upd_same) (.cons dp15 .nil), okd2.one, fun H16 sm16 => ?_⟩
        refine ⟨_, rfl, iteF ?_⟩
        exact ⟨⟨_, _, _, _, _, _, _, rfl⟩, Sx.toSame (sm2.trans sm3) ((Sx.of k4).trans (sx5.trans (x13.trans ((Sx.same sm14).trans ((Sx.same s15).trans (Sx.same sm16)))))) (sm2.free np)⟩
      · rintro σ H2 ⟨⟨x2, x3, x4, x5, x6, x7, x8, rfl⟩, sm2⟩
        exact q _
end
end My

set_option Elab.async false
set_option linter.all false
set_option maxRecDepth 100000
set_option maxHeartbeats 4000000
namespace My
open PySem PySem.Spec PyProof.Rows L2 TL RZ
theorem isStr_key (z x : Str) (t : Tok) : Value.isStr (.str x t) z = decide (z = x) := by
  rw [PySem.W.isStr_of]
  show (x == z) = decide (z = x)
  by_cases h : x = z
  · subst h
    rw [decide_eq_true rfl]
    exact beq_self_eq_true x
  · rw [decide_eq_false (fun e => h e.symm)]
    exact beq_eq_false_iff_ne.mpr h
theorem due_keys {K : PySem.W.Frag} {dd : Addr} {es : Array DictEntry} {nD : Nat} {q0 q1 q2 q3 q4 q5 : Tok} (l : K.lookup dd = some ⟨.type "dict", none, .dict es nD, #[]⟩) (hk : es.toList.map (·.key) = [.str "car" q0, .str "chimney" q1, .str "grass" q2, .str "house" q3, .str "people" q4, .str "works" q5]) (z : Str) : ∃ r, PySem.W.nsIn K dd z = some r ∧ r.isSome = decide (z ∈ kinds) := by
  unfold PySem.W.nsIn
  rw [l]
  have hall : ∀ e ∈ es.toList, ∃ x t, e.key = .str x t ∧ x ∈ kinds := fun e he => by
    have m : e.key ∈ es.toList.map (·.key) := List.mem_map.mpr ⟨e, he, rfl⟩
    rw [hk] at m
    simp only [List.mem_cons, List.not_mem_nil, or_false] at m
    rcases m with m | m | m | m | m | m <;> exact ⟨_, _, m, by decide +kernel⟩
  have hex : ∀ x ∈ kinds, ∃ e ∈ es.toList, ∃ t, e.key = .str x t := fun x hx => by
    have m : ∃ t, Value.str x t ∈ es.toList.map (·.key) := by
      rw [hk]
      have hx' : x ∈ (["car", "chimney", "grass", "house", "people", "works"] : List Str) := hx
      simp only [List.mem_cons, List.not_mem_nil, or_false] at hx' ⊢
      rcases hx' with rfl | rfl | rfl | rfl | rfl | rfl
      · exact ⟨q0, .inl rfl⟩
      · exact ⟨q1, .inr (.inl rfl)⟩
      · exact ⟨q2, .inr (.inr (.inl rfl))⟩
      · exact ⟨q3, .inr (.inr (.inr (.inl rfl)))⟩
      · exact ⟨q4, .inr (.inr (.inr (.inr (.inl rfl))))⟩
      · exact ⟨q5, .inr (.inr (.inr (.inr (.inr rfl))))⟩
    obtain ⟨t, m⟩ := m
    obtain ⟨e, he, h⟩ := List.mem_map.mp m
    exact ⟨e, he, t, h⟩
  cases hf : es.toList.find? (·.key.isStr z) with
  | some e =>
    refine ⟨some e.val, by show (match es.toList.find? (·.key.isStr z) with | some e => some (some e.val) | none => if es.toList.any (·.refKey) = true then none else some none) = _; rw [hf], ?_⟩
    have he := List.mem_of_find?_eq_some hf
    have hs := List.find?_some hf
    obtain ⟨x, t, hk2, hx⟩ := hall e he
    have hs' : e.key.isStr z = true := hs
    rw [hk2, isStr_key] at hs'
    rw [decide_eq_true (of_decide_eq_true hs' ▸ hx)]
    rfl
  | none =>
    have hnone : ¬ z ∈ kinds := fun h => by
      obtain ⟨e, he, t, hk2⟩ := hex z h
      have := List.find?_eq_none.mp hf e he
      apply this
      show e.key.isStr z = true
      rw [hk2, isStr_key, decide_eq_true rfl]
    have href : es.toList.any (·.refKey) = false := by
      rw [List.any_eq_false]
      intro e he
      obtain ⟨x, t, hk2, _⟩ := hall e he
      unfold DictEntry.refKey
      rw [hk2]
      exact Bool.false_ne_true
    refine ⟨none, ?_, ?_⟩
    · show (match es.toList.find? (·.key.isStr z) with | some e => some (some e.val) | none => if es.toList.any (·.refKey) = true then none else some none) = _
      rw [hf, href]
      rfl
    · rw [decide_eq_false hnone]
      rfl
theorem due_all {K : PySem.W.Frag} {dd d0 d1 d2 d3 d4 d5 : Addr} {es : Array DictEntry} {nD : Nat} {q0 q1 q2 q3 q4 q5 : Tok} (l : K.lookup dd = some ⟨.type "dict", none, .dict es nD, #[]⟩) (hk : es.toList.map (fun e => (e.key, e.val)) = [(.str "car" q0, .ref d0), (.str "chimney" q1, .ref d1), (.str "grass" q2, .ref d2), (.str "house" q3, .ref d3), (.str "people" q4, .ref d4), (.str "works" q5, .ref d5)]) (z : Str) : ∃ r, PySem.W.nsIn K dd z = some r ∧ r.isSome = decide (z ∈ kinds) :=
  due_keys l (by
    have h := congrArg (List.map Prod.fst) hk
    rw [List.map_map] at h
    exact h) z
theorem due_val {K : PySem.W.Frag} {dd d0 d1 d2 d3 d4 d5 : Addr} {es : Array DictEntry} {nD : Nat} {q0 q1 q2 q3 q4 q5 : Tok} (l : K.lookup dd = some ⟨.type "dict", none, .dict es nD, #[]⟩) (hk : es.toList.map (fun e => (e.key, e.val)) = [(.str "car" q0, .ref d0), (.str "chimney" q1, .ref d1), (.str "grass" q2, .ref d2), (.str "house" q3, .ref d3), (.str "people" q4, .ref d4), (.str "works" q5, .ref d5)])
    (s0 : ∀ H, SqT K H d0 [.int 1, .int 0, .int 0]) (s1 : ∀ H, SqT K H d1 [.int 1, .int 0, .int 0]) (s2 : ∀ H, SqT K H d2 [.int 1, .int 0, .int 1]) (s3 : ∀ H, SqT K H d3 [.int 2, .int 1, .int 0]) (s4 : ∀ H, SqT K H d4 [.int 1, .int 1, .int 0]) (s5 : ∀ H, SqT K H d5 [.int 3, .int 1, .int 1]) :
    ∀ k ∈ kinds, ∃ t : Addr, PySem.W.nsIn K dd k = some (some (.ref t)) ∧ ∀ H, SqT K H t (dueV k) := by
  obtain ⟨e0, e1, e2, e3, e4, e5, hes⟩ : ∃ e0 e1 e2 e3 e4 e5, es.toList = [e0, e1, e2, e3, e4, e5] := by
    have hl : es.toList.length = 6 := by
      have h := congrArg List.length hk
      rw [List.length_map] at h
      exact h
    match es.toList, hl with
    | [e0, e1, e2, e3, e4, e5], _ => exact ⟨e0, e1, e2, e3, e4, e5, rfl⟩
  rw [hes] at hk
  simp only [List.map_cons, List.map_nil, List.cons.injEq, Prod.mk.injEq, and_true] at hk
  obtain ⟨⟨a0, v0⟩, ⟨a1, v1⟩, ⟨a2, v2⟩, ⟨a3, v3⟩, ⟨a4, v4⟩, a5, v5⟩ := hk
  have look : ∀ (k : Str) (e : DictEntry) (t : Addr), es.toList.find? (·.key.isStr k) = some e → e.val = .ref t → PySem.W.nsIn K dd k = some (some (.ref t)) := fun k e t hf hv => by
    unfold PySem.W.nsIn
    rw [l]
    show (match es.toList.find? (·.key.isStr k) with | some e => some (some e.val) | none => if es.toList.any (·.refKey) = true then none else some none) = _
    rw [hf, ← hv]
  intro k hkk
  rcases kinds_cases hkk with rfl | rfl | rfl | rfl | rfl | rfl
  · refine ⟨d0, look _ e0 d0 ?_ v0, s0⟩
    rw [hes]
    exact List.find?_cons_of_pos (by show e0.key.isStr _ = true; rw [a0, isStr_key]; decide +kernel)
  · refine ⟨d1, look _ e1 d1 ?_ v1, s1⟩
    rw [hes]
    rw [List.find?_cons_of_neg (by show ¬ e0.key.isStr _ = true; rw [a0, isStr_key]; decide +kernel)]
    exact List.find?_cons_of_pos (by show e1.key.isStr _ = true; rw [a1, isStr_key]; decide +kernel)
  · refine ⟨d2, look _ e2 d2 ?_ v2, s2⟩
    rw [hes]
    rw [List.find?_cons_of_neg (by show ¬ e0.key.isStr _ = true; rw [a0, isStr_key]; decide +kernel)]
    rw [List.find?_cons_of_neg (by show ¬ e1.key.isStr _ = true; rw [a1, isStr_key]; decide +kernel)]
    exact List.find?_cons_of_pos (by show e2.key.isStr _ = true; rw [a2, isStr_key]; decide +kernel)
  · refine ⟨d3, look _ e3 d3 ?_ v3, s3⟩
    rw [hes]
    rw [List.find?_cons_of_neg (by show ¬ e0.key.isStr _ = true; rw [a0, isStr_key]; decide +kernel)]
    rw [List.find?_cons_of_neg (by show ¬ e1.key.isStr _ = true; rw [a1, isStr_key]; decide +kernel)]
    rw [List.find?_cons_of_neg (by show ¬ e2.key.isStr _ = true; rw [a2, isStr_key]; decide +kernel)]
    exact List.find?_cons_of_pos (by show e3.key.isStr _ = true; rw [a3, isStr_key]; decide +kernel)
  · refine ⟨d4, look _ e4 d4 ?_ v4, s4⟩
    rw [hes]
    rw [List.find?_cons_of_neg (by show ¬ e0.key.isStr _ = true; rw [a0, isStr_key]; decide +kernel)]
    rw [List.find?_cons_of_neg (by show ¬ e1.key.isStr _ = true; rw [a1, isStr_key]; decide +kernel)]
    rw [List.find?_cons_of_neg (by show ¬ e2.key.isStr _ = true; rw [a2, isStr_key]; decide +kernel)]
    rw [List.find?_cons_of_neg (by show ¬ e3.key.isStr _ = true; rw [a3, isStr_key]; decide +kernel)]
    exact List.find?_cons_of_pos (by show e4.key.isStr _ = true; rw [a4, isStr_key]; decide +kernel)
  · refine ⟨d5, look _ e5 d5 ?_ v5, s5⟩
    rw [hes]
    rw [List.find?_cons_of_neg (by show ¬ e0.key.isStr _ = true; rw [a0, isStr_key]; decide +kernel)]
    rw [List.find?_cons_of_neg (by show ¬ e1.key.isStr _ = true; rw [a1, isStr_key]; decide +kernel)]
    rw [List.find?_cons_of_neg (by show ¬ e2.key.isStr _ = true; rw [a2, isStr_key]; decide +kernel)]
    rw [List.find?_cons_of_neg (by show ¬ e3.key.isStr _ = true; rw [a3, isStr_key]; decide +kernel)]
    rw [List.find?_cons_of_neg (by show ¬ e4.key.isStr _ = true; rw [a4, isStr_key]; decide +kernel)]
    exact List.find?_cons_of_pos (by show e5.key.isStr _ = true; rw [a5, isStr_key]; decide +kernel)
theorem kw_att {K : PySem.W.Frag} {s : Shared} {TT : Addr} {ocT : Value} {odT : Option Addr} {tT : Tok} {nT : Nat} {slT : Array (Option Value)} {kV dc pm : Value} {an : Option Addr} {cd ct u1 u2 w1 : Value} (X : K.In s.heap) (lT : K.lookup TT = some ⟨ocT, odT, .seq #[.int 0 tT] nT, slT⟩) :
    BindsTo s (PySem.W.fnOf "attendance" "attendance" (defArgs s_att) (defBody s_att) (defScope s_att) (.ref TT) kV dc pm an cd ct) ⟨[u1, u2], [("asked", w1)]⟩ [("kind", u1), ("risk", u2), ("asked", w1)] := by
  refine BindsTo.of_looks fun M => ?_
  have e : ∃ k, bindArgs (PySem.W.fnOf "attendance" "attendance" (defArgs s_att) (defBody s_att) (defScope s_att) (.ref TT) kV dc pm an cd ct) ⟨[u1, u2], [("asked", w1)]⟩ = seqItems? (.ref TT) >>= k ∧ k (some #[.int 0 tT]) = (pure [(("kind" : Str), u1), ("risk", u2), ("asked", w1)] : Sem (List (Str × Value))) := ⟨_, rfl, rfl⟩
  obtain ⟨k, e1, e2⟩ := e
  rw [e1]
  exact looks_items X lT rfl (.of_pure e2)
theorem all_mk {l : PySem.W.OpenLaw} {w : World} {K : PySem.W.Frag} {h : Heap} {mg : Str → Option Value} {fa f0 f1 f2 f3 f4 f5 f6 f7 f8 f9 dd C fI fA TT d0 d1 d2 d3 d4 d5 : Addr} (X : K.In h) (G : h.Ns mainGlobals mg) (hfa : mg "law" = some (.ref fa))
    {od0 an0 od1 an1 od2 an2 od3 an3 od4 an4 od5 an5 od6 an6 od7 an7 od8 an8 od9 an9 : Option Addr} {sl0 sl1 sl2 sl3 sl4 sl5 sl6 sl7 sl8 sl9 : Array (Option Value)} {oc0 kV0 dc0 pm0 cd0 ct0 oc1 kV1 dc1 pm1 cd1 ct1 oc2 kV2 dc2 pm2 cd2 ct2 oc3 kV3 dc3 pm3 cd3 ct3 oc4 kV4 dc4 pm4 cd4 ct4 oc5 kV5 dc5 pm5 cd5 ct5 oc6 kV6 dc6 pm6 cd6 ct6 oc7 kV7 dc7 pm7 cd7 ct7 oc8 kV8 dc8 pm8 cd8 ct8 oc9 kV9 dc9 pm9 cd9 ct9 : Value} {t_MOST_RISK t_RISK_OF_ONE_MORE q0 q1 q2 q3 q4 q5 ua0 ua1 ua2 ua3 ua4 ua5 ub0 ub1 ub2 ub3 ub4 ub5 uc0 uc1 uc2 uc3 uc4 uc5 tT : Tok} {es : Array DictEntry} {nD nT nn0 nn1 nn2 nn3 nn4 nn5 : Nat} {ocI kVI dcI pmI cdI ctI ocA kVA dcA pmA cdA ctA ocT : Value} {odI anI odA anA odT od_d0 od_d1 od_d2 od_d3 od_d4 od_d5 : Option Addr} {slI slA slT sl_d0 sl_d1 sl_d2 sl_d3 sl_d4 sl_d5 : Array (Option Value)}
    (a0 : PySem.W.nsIn K mainGlobals "is_whole" = some (some (.ref f0))) (l0 : K.lookup f0 = some ⟨oc0, od0, .func (PySem.W.fnOf "is_whole" "is_whole" (defArgs s_is_whole) (defBody s_is_whole) (defScope s_is_whole) .none kV0 dc0 pm0 an0 cd0 ct0), sl0⟩) (c0 : PySem.W.codeIn K cd0 "is_whole" = true) (k0 : PySem.W.keepIn K (.ref f0) = true)
    (a1 : PySem.W.nsIn K mainGlobals "is_whole_within" = some (some (.ref f1))) (l1 : K.lookup f1 = some ⟨oc1, od1, .func (PySem.W.fnOf "is_whole_within" "is_whole_within" (defArgs s_is_whole_within) (defBody s_is_whole_within) (defScope s_is_whole_within) .none kV1 dc1 pm1 an1 cd1 ct1), sl1⟩) (c1 : PySem.W.codeIn K cd1 "is_whole_within" = true) (k1 : PySem.W.keepIn K (.ref f1) = true)
    (a2 : PySem.W.nsIn K mainGlobals "is_kind" = some (some (.ref f2))) (l2 : K.lookup f2 = some ⟨oc2, od2, .func (PySem.W.fnOf "is_kind" "is_kind" (defArgs s_is_kind) (defBody s_is_kind) (defScope s_is_kind) .none kV2 dc2 pm2 an2 cd2 ct2), sl2⟩) (c2 : PySem.W.codeIn K cd2 "is_kind" = true) (k2 : PySem.W.keepIn K (.ref f2) = true)
    (a3 : PySem.W.nsIn K mainGlobals "_law_bag" = some (some (.ref f3))) (l3 : K.lookup f3 = some ⟨oc3, od3, .func (PySem.W.fnOf "_law_bag" "_law_bag" (defArgs s_law_bag) (defBody s_law_bag) (defScope s_law_bag) .none kV3 dc3 pm3 an3 cd3 ct3), sl3⟩) (c3 : PySem.W.codeIn K cd3 "_law_bag" = true) (k3 : PySem.W.keepIn K (.ref f3) = true)
    (a4 : PySem.W.nsIn K mainGlobals "_law_take" = some (some (.ref f4))) (l4 : K.lookup f4 = some ⟨oc4, od4, .func (PySem.W.fnOf "_law_take" "_law_take" (defArgs s_law_take) (defBody s_law_take) (defScope s_law_take) .none kV4 dc4 pm4 an4 cd4 ct4), sl4⟩) (c4 : PySem.W.codeIn K cd4 "_law_take" = true) (k4 : PySem.W.keepIn K (.ref f4) = true)
    (a5 : PySem.W.nsIn K mainGlobals "_law_like" = some (some (.ref f5))) (l5 : K.lookup f5 = some ⟨oc5, od5, .func (PySem.W.fnOf "_law_like" "_law_like" (defArgs s_law_like) (defBody s_law_like) (defScope s_law_like) .none kV5 dc5 pm5 an5 cd5 ct5), sl5⟩) (c5 : PySem.W.codeIn K cd5 "_law_like" = true) (k5 : PySem.W.keepIn K (.ref f5) = true)
    (a6 : PySem.W.nsIn K mainGlobals "_law_due" = some (some (.ref f6))) (l6 : K.lookup f6 = some ⟨oc6, od6, .func (PySem.W.fnOf "_law_due" "_law_due" (defArgs s_law_due) (defBody s_law_due) (defScope s_law_due) .none kV6 dc6 pm6 an6 cd6 ct6), sl6⟩) (c6 : PySem.W.codeIn K cd6 "_law_due" = true) (k6 : PySem.W.keepIn K (.ref f6) = true)
    (a7 : PySem.W.nsIn K mainGlobals "_law_odd" = some (some (.ref f7))) (l7 : K.lookup f7 = some ⟨oc7, od7, .func (PySem.W.fnOf "_law_odd" "_law_odd" (defArgs s_law_odd) (defBody s_law_odd) (defScope s_law_odd) .none kV7 dc7 pm7 an7 cd7 ct7), sl7⟩) (c7 : PySem.W.codeIn K cd7 "_law_odd" = true) (k7 : PySem.W.keepIn K (.ref f7) = true)
    (a8 : PySem.W.nsIn K mainGlobals "_law_refused" = some (some (.ref f8))) (l8 : K.lookup f8 = some ⟨oc8, od8, .func (PySem.W.fnOf "_law_refused" "_law_refused" (defArgs s_law_refused) (defBody s_law_refused) (defScope s_law_refused) .none kV8 dc8 pm8 an8 cd8 ct8), sl8⟩) (c8 : PySem.W.codeIn K cd8 "_law_refused" = true) (k8 : PySem.W.keepIn K (.ref f8) = true)
    (a9 : PySem.W.nsIn K mainGlobals "law" = some (some (.ref f9))) (l9 : K.lookup f9 = some ⟨oc9, od9, .func (PySem.W.fnOf "law" "law" (defArgs s_law) (defBody s_law) (defScope s_law) .none kV9 dc9 pm9 an9 cd9 ct9), sl9⟩) (c9 : PySem.W.codeIn K cd9 "law" = true) (k9 : PySem.W.keepIn K (.ref f9) = true)
    (z_len : PySem.W.nsIn K mainGlobals "len" = some none)
    (z_abs : PySem.W.nsIn K mainGlobals "abs" = some none)
    (z_all : PySem.W.nsIn K mainGlobals "all" = some none)
    (z_str : PySem.W.nsIn K mainGlobals "str" = some none)
    (z_int : PySem.W.nsIn K mainGlobals "int" = some none)
    (z_isinstance : PySem.W.nsIn K mainGlobals "isinstance" = some none)
    (z_range : PySem.W.nsIn K mainGlobals "range" = some none)
    (z_max : PySem.W.nsIn K mainGlobals "max" = some none)
    (z_min : PySem.W.nsIn K mainGlobals "min" = some none)
    (z_bool : PySem.W.nsIn K mainGlobals "bool" = some none)
    (z_list : PySem.W.nsIn K mainGlobals "list" = some none)
    (z_tuple : PySem.W.nsIn K mainGlobals "tuple" = some none)
    (z_zip : PySem.W.nsIn K mainGlobals "zip" = some none)
    (z_LookupError : PySem.W.nsIn K mainGlobals "LookupError" = some none)
    (z_KeyError : PySem.W.nsIn K mainGlobals "KeyError" = some none)
    (z_IndexError : PySem.W.nsIn K mainGlobals "IndexError" = some none)
    (z_ValueError : PySem.W.nsIn K mainGlobals "ValueError" = some none)
    (g_MOST_RISK : PySem.W.nsIn K mainGlobals "MOST_RISK" = some (some (.int 4 t_MOST_RISK)))
    (g_RISK_OF_ONE_MORE : PySem.W.nsIn K mainGlobals "RISK_OF_ONE_MORE" = some (some (.int 1 t_RISK_OF_ONE_MORE)))
    (gDUE : PySem.W.nsIn K mainGlobals "DUE" = some (some (.ref dd)))
    (lDUE : K.lookup dd = some ⟨.type "dict", none, .dict es nD, #[]⟩)
    (sDUE : (dd == sysModules) = false)
    (hDUE : PySem.W.KeysLit w.params es.toList ∧ es.toList.map (fun e => (e.key, e.val)) = [(.str "car" q0, .ref d0), (.str "chimney" q1, .ref d1), (.str "grass" q2, .ref d2), (.str "house" q3, .ref d3), (.str "people" q4, .ref d4), (.str "works" q5, .ref d5)])
    (lD0 : K.lookup d0 = some ⟨.type "tuple", od_d0, .seq #[.int 1 ua0, .int 0 ub0, .int 0 uc0] nn0, sl_d0⟩)
    (lD1 : K.lookup d1 = some ⟨.type "tuple", od_d1, .seq #[.int 1 ua1, .int 0 ub1, .int 0 uc1] nn1, sl_d1⟩)
    (lD2 : K.lookup d2 = some ⟨.type "tuple", od_d2, .seq #[.int 1 ua2, .int 0 ub2, .int 1 uc2] nn2, sl_d2⟩)
    (lD3 : K.lookup d3 = some ⟨.type "tuple", od_d3, .seq #[.int 2 ua3, .int 1 ub3, .int 0 uc3] nn3, sl_d3⟩)
    (lD4 : K.lookup d4 = some ⟨.type "tuple", od_d4, .seq #[.int 1 ua4, .int 1 ub4, .int 0 uc4] nn4, sl_d4⟩)
    (lD5 : K.lookup d5 = some ⟨.type "tuple", od_d5, .seq #[.int 3 ua5, .int 1 ub5, .int 1 uc5] nn5, sl_d5⟩)
    (aA : PySem.W.nsIn K mainGlobals "attendance" = some (some (.ref fA)))
    (lA : K.lookup fA = some ⟨ocA, odA, .func (PySem.W.fnOf "attendance" "attendance" (defArgs s_att) (defBody s_att) (defScope s_att) (.ref TT) kVA dcA pmA anA cdA ctA), slA⟩)
    (cA : PySem.W.codeIn K cdA "attendance" = true)
    (kA : PySem.W.keepIn K (.ref fA) = true)
    (lT : K.lookup TT = some ⟨ocT, odT, .seq #[.int 0 tT] nT, slT⟩)
    (gB : PySem.W.nsIn K mainGlobals "NoKind" = some (some (.ref C)))
    (clB : K.lookup C = some (excClassObj xb1 xb2 C xb3 xb4 xb5 true xb6 xb7 xb8 xb9 xb10 xb11 xb12 xb13 xb14 xb15 "LookupError.__new__"))
    (veB : PySem.W.excTail bt_le xb5 = true)
    (ovB : PySem.W.excOver K C bt_le = true)
    (saB : PySem.W.findIn K (.ref C) "__setattr__" = some (some (.builtin "object.__setattr__")))
    (kB : PySem.W.keepIn K (.ref C) = true)
    (bB : PySem.W.subIn K (.ref C) (.type "BaseException") = some true)
    (tB : PySem.W.typeIn K (.ref C) = some (.type "type"))
    (noB : PySem.W.findIn K (.ref C) "kind" = some none)
    (iB : PySem.W.findIn K (.ref C) "__init__" = some (some (.ref fI)))
    (tIB : PySem.W.typeIn K (.ref fI) = some (.type "function"))
    (vVB : PySem.W.findCls K (.type "LookupError") (.type "type") "__init__" = some (.val (.builtin "LookupError.__init__")))
    (lI : K.lookup fI = some ⟨ocI, odI, .func (PySem.W.fnOf "__init__" "NoKind.__init__" (defArgs s_init) (defBody s_init) (defScope s_init) .none kVI dcI pmI anI cdI ctI), slI⟩)
    (cI : PySem.W.codeIn K cdI "NoKind.__init__" = true)
    (kI : PySem.W.keepIn K (.ref fI) = true)
    (e1 : PySem.W.findIn K (.ref C) "__getattribute__" = some (some (.builtin "BaseException.__getattribute__")))
    (e2 : PySem.W.findIn K (.ref C) "__getattr__" = some none)
    (e4 : PySem.W.hasDictIn K C = true)
    (e5 : PySem.W.findIn K (.ref C) "__class__" = some (some (.builtin "object.__class__")))
    (e6 : PySem.W.specialIn K (.builtin "object.__class__") "__get__" = some (some (.builtin "getset_descriptor.__get__")))
    (e7 : PySem.W.takesIn K (.builtin "object.__class__") = some true)
    (e8 : PySem.W.mroIn K C (.type "object") = some true)
    (sB : PySem.W.subIn K (.ref C) (.ref C) = some true)
    (kt0 : PySem.W.kitOne K (.ref C) (.type "LookupError") = some true)
    (kt1 : PySem.W.kitOne K (.ref C) (.type "KeyError") = some false)
    (kt2 : PySem.W.kitOne K (.ref C) (.type "IndexError") = some false)
    (kt3 : PySem.W.kitOne K (.ref C) (.type "ValueError") = some false) :
    ∃ fd : FuncData, (∀ (s : Shared) (v : Value), BindsTo s fd ⟨[v], []⟩ [("_law_script", v)]) ∧ ∀ base : Heap, K.In base → base.Ns mainGlobals mg → FnOk l.prog w K mg base CX0 6 fa fd ["_law_script"] (sp_law K) := by
  have e := hfa.symm.trans (PySem.W.mg_of X G a9)
  cases e
  have F0 := fun_mk (st := s_is_whole) l0 c0 k0
  have b0 := F0.binds (ps := ["thing"]) fun _ _ _ _ _ _ us hl => match us, hl with | [_], _ => rfl
  have g0 := PySem.W.mg_of X G a0
  have F1 := fun_mk (st := s_is_whole_within) l1 c1 k1
  have b1 := F1.binds (ps := ["thing", "least", "most"]) fun _ _ _ _ _ _ us hl => match us, hl with | [_, _, _], _ => rfl
  have g1 := PySem.W.mg_of X G a1
  have F2 := fun_mk (st := s_is_kind) l2 c2 k2
  have b2 := F2.binds (ps := ["thing"]) fun _ _ _ _ _ _ us hl => match us, hl with | [_], _ => rfl
  have g2 := PySem.W.mg_of X G a2
  have F3 := fun_mk (st := s_law_bag) l3 c3 k3
  have b3 := F3.binds (ps := ["_law_script", "_law_at"]) fun _ _ _ _ _ _ us hl => match us, hl with | [_, _], _ => rfl
  have g3 := PySem.W.mg_of X G a3
  have F4 := fun_mk (st := s_law_take) l4 c4 k4
  have b4 := F4.binds (ps := ["_law_bag_here", "_law_many"]) fun _ _ _ _ _ _ us hl => match us, hl with | [_, _], _ => rfl
  have g4 := PySem.W.mg_of X G a4
  have F5 := fun_mk (st := s_law_like) l5 c5 k5
  have b5 := F5.binds (ps := ["_law_told", "_law_due_here"]) fun _ _ _ _ _ _ us hl => match us, hl with | [_, _], _ => rfl
  have g5 := PySem.W.mg_of X G a5
  have F6 := fun_mk (st := s_law_due) l6 c6 k6
  have b6 := F6.binds (ps := ["_law_kind", "_law_risk", "_law_most"]) fun _ _ _ _ _ _ us hl => match us, hl with | [_, _, _], _ => rfl
  have g6 := PySem.W.mg_of X G a6
  have F7 := fun_mk (st := s_law_odd) l7 c7 k7
  have b7 := F7.binds (ps := ["_law_bag_here", "_law_kinds"]) fun _ _ _ _ _ _ us hl => match us, hl with | [_, _], _ => rfl
  have g7 := PySem.W.mg_of X G a7
  have F8 := fun_mk (st := s_law_refused) l8 c8 k8
  have b8 := F8.binds (ps := ["_law_kind", "_law_risk"]) fun _ _ _ _ _ _ us hl => match us, hl with | [_, _], _ => rfl
  have g8 := PySem.W.mg_of X G a8
  have F9 := fun_mk (st := s_law) l9 c9 k9
  have b9 := F9.binds (ps := ["_law_script"]) fun _ _ _ _ _ _ us hl => match us, hl with | [_], _ => rfl
  have g9 := PySem.W.mg_of X G a9
  have T : Txt mg := { z_len := PySem.W.mg_none_of X G z_len, z_abs := PySem.W.mg_none_of X G z_abs, z_all := PySem.W.mg_none_of X G z_all, z_str := PySem.W.mg_none_of X G z_str, z_int := PySem.W.mg_none_of X G z_int, z_isinstance := PySem.W.mg_none_of X G z_isinstance, z_range := PySem.W.mg_none_of X G z_range, z_max := PySem.W.mg_none_of X G z_max, z_min := PySem.W.mg_none_of X G z_min, z_bool := PySem.W.mg_none_of X G z_bool, z_list := PySem.W.mg_none_of X G z_list, z_tuple := PySem.W.mg_none_of X G z_tuple, z_zip := PySem.W.mg_none_of X G z_zip, z_LookupError := PySem.W.mg_none_of X G z_LookupError, z_KeyError := PySem.W.mg_none_of X G z_KeyError, z_IndexError := PySem.W.mg_none_of X G z_IndexError, z_ValueError := PySem.W.mg_none_of X G z_ValueError, g_MOST_RISK := ⟨_, PySem.W.mg_of X G g_MOST_RISK⟩, g_RISK_OF_ONE_MORE := ⟨_, PySem.W.mg_of X G g_RISK_OF_ONE_MORE⟩ }
  have sq : (∀ H, SqT K H d0 [.int 1, .int 0, .int 0]) ∧ (∀ H, SqT K H d1 [.int 1, .int 0, .int 0]) ∧ (∀ H, SqT K H d2 [.int 1, .int 0, .int 1]) ∧ (∀ H, SqT K H d3 [.int 2, .int 1, .int 0]) ∧ (∀ H, SqT K H d4 [.int 1, .int 1, .int 0]) ∧ (∀ H, SqT K H d5 [.int 3, .int 1, .int 1]) := ⟨fun H => .inr ⟨_, _, _, lD0, rfl, rfl, (by show 3 ≤ sizeLine; decide), .cons ⟨_, rfl⟩ (.cons ⟨_, rfl⟩ (.cons ⟨_, rfl⟩ .nil))⟩, fun H => .inr ⟨_, _, _, lD1, rfl, rfl, (by show 3 ≤ sizeLine; decide), .cons ⟨_, rfl⟩ (.cons ⟨_, rfl⟩ (.cons ⟨_, rfl⟩ .nil))⟩, fun H => .inr ⟨_, _, _, lD2, rfl, rfl, (by show 3 ≤ sizeLine; decide), .cons ⟨_, rfl⟩ (.cons ⟨_, rfl⟩ (.cons ⟨_, rfl⟩ .nil))⟩, fun H => .inr ⟨_, _, _, lD3, rfl, rfl, (by show 3 ≤ sizeLine; decide), .cons ⟨_, rfl⟩ (.cons ⟨_, rfl⟩ (.cons ⟨_, rfl⟩ .nil))⟩, fun H => .inr ⟨_, _, _, lD4, rfl, rfl, (by show 3 ≤ sizeLine; decide), .cons ⟨_, rfl⟩ (.cons ⟨_, rfl⟩ (.cons ⟨_, rfl⟩ .nil))⟩, fun H => .inr ⟨_, _, _, lD5, rfl, rfl, (by show 3 ≤ sizeLine; decide), .cons ⟨_, rfl⟩ (.cons ⟨_, rfl⟩ (.cons ⟨_, rfl⟩ .nil))⟩⟩
  have TD : Due K w mg := ⟨dd, es, nD, PySem.W.mg_of X G gDUE, ⟨lDUE, hDUE.1, sDUE⟩, fun z => due_all lDUE hDUE.2 z, due_val lDUE hDUE.2 sq.1 sq.2.1 sq.2.2.1 sq.2.2.2.1 sq.2.2.2.2.1 sq.2.2.2.2.2⟩
  have BXX : BX K mg C fI := ⟨PySem.W.mg_of X G gB, ⟨⟨_, _, _, _, _, _, _, _, _, _, _, _, _, _, _, clB, veB⟩, ovB, saB, bB, tB, kB⟩, noB, iB, tIB, vVB⟩
  have BYY : BY K C := ⟨⟨e1, e2, bB, e4, e5, e6, e7, e8⟩, PySem.W.exm_ref bB e4 tB sB, kt0, kt1, kt2, kt3⟩
  have FI := fun_mk (st := s_init) lI cI kI
  have bI := FI.binds (ps := ["self", "kind"]) fun _ _ _ _ _ _ us hl => match us, hl with | [_, _], _ => rfl
  have gA := PySem.W.mg_of X G aA
  have FA : FunD K "attendance" "attendance" (defArgs s_att) (defBody s_att) (defScope s_att) [.int 0] [] fA (PySem.W.fnOf "attendance" "attendance" (defArgs s_att) (defBody s_att) (defScope s_att) (.ref TT) kVA dcA pmA anA cdA ctA) := ⟨⟨_, _, _, _, _, _, _, _, _, _, rfl, lA, cA, .inr ⟨(fun z => nomatch z), TT, _, [Value.int 0 tT], nT, rfl, lT, rfl, .cons ⟨_, rfl⟩ .nil⟩, .inl rfl⟩, kA⟩
  obtain ⟨ds2, hA2, bA2⟩ := FA.binds1 (ps := ["kind", "risk", "asked"]) 2 0 (fun z => nomatch z) rfl fun _ _ _ _ _ _ _ us its h1 h2 => match us, its, h1, h2 with | [_, _], [_], _, _ => ⟨_, rfl, rfl⟩
  obtain ⟨ds3, hA3, bA3⟩ := FA.binds1 (ps := ["kind", "risk", "asked"]) 3 1 (fun z => nomatch z) rfl fun _ _ _ _ _ _ _ us its h1 h2 => match us, its, h1, h2 with | [_, _, _], [_], _, _ => ⟨_, rfl, rfl⟩
  have e3 : ds3 = [] := by cases hA3; rfl
  subst e3
  have kbA : KBn K (PySem.W.fnOf "attendance" "attendance" (defArgs s_att) (defBody s_att) (defScope s_att) (.ref TT) kVA dcA pmA anA cdA ctA) ["kind", "risk", "asked"] 2 ["asked"] (fun us ws => us ++ ws) (fun vs zs => vs ++ zs) := by
    refine ⟨fun s us ws X2 h1 h2 => ?_, fun r rz => r.append rz⟩
    match us, ws, h1, h2 with
    | [u1, u2], [w1], _, _ => exact kw_att X2 lT
  refine ⟨PySem.W.fnOf "law" "law" (defArgs s_law) (defBody s_law) (defScope s_law) .none kV9 dc9 pm9 an9 cd9 ct9, fun s v => .of_eq rfl, fun base _ _ => ?_⟩
  have C0 : Cal l.prog w K mg base 1 "is_whole" (sp_is_whole K) := cal_mk (ok_is_whole F0 T) g0 k0 b0
  have C1 : Cal l.prog w K mg base 2 "is_whole_within" (sp_is_whole_within K) := cal_mk (ok_is_whole_within F1 T C0) g1 k1 b1
  have C2 : Cal l.prog w K mg base 1 "is_kind" (sp_is_kind K) := cal_mk (ok_is_kind F2 T TD) g2 k2 b2
  have C3 : Cal l.prog w K mg base 1 "_law_bag" (sp_law_bag K) := cal_mk (ok_law_bag F3 T) g3 k3 b3
  have C4 : Cal l.prog w K mg base 1 "_law_take" sp_law_take := cal_mk (ok_law_take F4) g4 k4 b4
  have C5 : Cal l.prog w K mg base 5 "_law_like" (sp_law_like K 4) := cal_mk (ok_law_like F5 T g5 k5 b5 4 (by decide)) g5 k5 b5
  have C6 : Cal l.prog w K mg base 1 "_law_due" sp_att := cal_mk (ok_law_due F6 T) g6 k6 b6
  have C7 : Cal l.prog w K mg base 2 "_law_odd" (sp_law_odd K) := cal_mk (ok_law_odd F7 T C4) g7 k7 b7
  have GX : FnOk l.prog w K mg base (L2.CX l.prog w) 3 fA _ ["kind", "risk", "asked"] (sp_attX K C) := ok_attX FA T BXX (ok_init FI T BXX) bI C2 C1
  have GA : FnOk l.prog w K mg base CX0 3 fA _ ["kind", "risk", "asked"] sp_att := ok_att FA T TD C2 C1
  have C8 : Cal l.prog w K mg base 4 "_law_refused" (sp_law_refused K) := cal_mk (ok_law_refused F8 T BXX BYY GX gA kA bA2 hA2) g8 k8 b8
  exact ok_law F9 T C3 C4 C6 C7 C8 C5 (cal_mk GA gA kA bA3) GA gA kA bA2 hA2 kbA
end My

set_option Elab.async false
set_option linter.all false
open PySem PySem.W PyProof.Rows
set_option maxRecDepth 100000 in
set_option maxHeartbeats 0 in
theorem PySem.Challenge.cw_whistleboard_k19_attendance_holds : PySem.Challenge.rw_whistleboard_k19_attendance.Holds := by
  w_on; o_law; k_head; (case hw => w_witness2)
  k_fill
  refine L2.walk_ofK (l := PySem.Challenge.rw_whistleboard_k19_attendance) (n := 63) (k := 6) (x := "_law_script") (CX := L2.CX0) (sp := My.sp_law) rfl (by decide) rfl ⟨rfl, by decide, by decide⟩ (fun w h Y => PySem.W.kIn_of Y) ?F (fun _ _ a ns hl _ hS => ⟨a, ns, rfl, hS, hl, fun _ => rfl⟩) (fun _ _ _ _ h => h)
  case F =>
    intro w mg fa h KX G hmg
    refine' My.all_mk KX G hmg ?a0 ?l0 ?c0 ?k0 ?a1 ?l1 ?c1 ?k1 ?a2 ?l2 ?c2 ?k2 ?a3 ?l3 ?c3 ?k3 ?a4 ?l4 ?c4 ?k4 ?a5 ?l5 ?c5 ?k5 ?a6 ?l6 ?c6 ?k6 ?a7 ?l7 ?c7 ?k7 ?a8 ?l8 ?c8 ?k8 ?a9 ?l9 ?c9 ?k9 ?z_len ?z_abs ?z_all ?z_str ?z_int ?z_isinstance ?z_range ?z_max ?z_min ?z_bool ?z_list ?z_tuple ?z_zip ?z_LookupError ?z_KeyError ?z_IndexError ?z_ValueError ?g_MOST_RISK ?g_RISK_OF_ONE_MORE ?gDUE ?lDUE ?sDUE ?hDUE ?lD0 ?lD1 ?lD2 ?lD3 ?lD4 ?lD5 ?aA ?lA ?cA ?kA ?lT ?gB ?clB ?veB ?ovB ?saB ?kB ?bB ?tB ?noB ?iB ?tIB ?vVB ?lI ?cI ?kI ?e1 ?e2 ?e4 ?e5 ?e6 ?e7 ?e8 ?sB ?kt0 ?kt1 ?kt2 ?kt3
    (case a0 => k_is)
    (case l0 => k_is)
    (case c0 => k_is)
    (case k0 => k_is)
    (case a1 => k_is)
    (case l1 => k_is)
    (case c1 => k_is)
    (case k1 => k_is)
    (case a2 => k_is)
    (case l2 => k_is)
    (case c2 => k_is)
    (case k2 => k_is)
    (case a3 => k_is)
    (case l3 => k_is)
    (case c3 => k_is)
    (case k3 => k_is)
    (case a4 => k_is)
    (case l4 => k_is)
    (case c4 => k_is)
    (case k4 => k_is)
    (case a5 => k_is)
    (case l5 => k_is)
    (case c5 => k_is)
    (case k5 => k_is)
    (case a6 => k_is)
    (case l6 => k_is)
    (case c6 => k_is)
    (case k6 => k_is)
    (case a7 => k_is)
    (case l7 => k_is)
    (case c7 => k_is)
    (case k7 => k_is)
    (case a8 => k_is)
    (case l8 => k_is)
    (case c8 => k_is)
    (case k8 => k_is)
    (case a9 => k_is)
    (case l9 => k_is)
    (case c9 => k_is)
    (case k9 => k_is)
    (case z_len => k_is)
    (case z_abs => k_is)
    (case z_all => k_is)
    (case z_str => k_is)
    (case z_int => k_is)
    (case z_isinstance => k_is)
    (case z_range => k_is)
    (case z_max => k_is)
    (case z_min => k_is)
    (case z_bool => k_is)
    (case z_list => k_is)
    (case z_tuple => k_is)
    (case z_zip => k_is)
    (case z_LookupError => k_is)
    (case z_KeyError => k_is)
    (case z_IndexError => k_is)
    (case z_ValueError => k_is)
    (case g_MOST_RISK => k_is)
    (case g_RISK_OF_ONE_MORE => k_is)
    (case gDUE => k_is)
    (case lDUE => k_is)
    (case sDUE => first | rfl | decide +kernel)
    (case hDUE => exact ⟨⟨⟨_, _, rfl, rfl⟩, ⟨_, _, rfl, rfl⟩, ⟨_, _, rfl, rfl⟩, ⟨_, _, rfl, rfl⟩, ⟨_, _, rfl, rfl⟩, ⟨_, _, rfl, rfl⟩, trivial⟩, rfl⟩)
    (case lD0 => k_is)
    (case lD1 => k_is)
    (case lD2 => k_is)
    (case lD3 => k_is)
    (case lD4 => k_is)
    (case lD5 => k_is)
    (case aA => k_is)
    (case lA => k_is)
    (case cA => k_is)
    (case kA => k_is)
    (case lT => k_is)
    (case gB => k_is)
    (case clB => first | k_is | rfl)
    (case veB => first | rfl | decide +kernel)
    (case ovB => first | k_is | rfl | decide +kernel)
    (case saB => k_is)
    (case kB => k_is)
    (case bB => k_is)
    (case tB => k_is)
    (case noB => k_is)
    (case iB => k_is)
    (case tIB => k_is)
    (case vVB => first | k_is | rfl)
    (case lI => k_is)
    (case cI => k_is)
    (case kI => k_is)
    (case e1 => k_is)
    (case e2 => k_is)
    (case e4 => k_is)
    (case e5 => k_is)
    (case e6 => k_is)
    (case e7 => k_is)
    (case e8 => k_is)
    (case sB => first | k_is | rfl | decide +kernel)
    (case kt0 => first | k_is | rfl | decide +kernel)
    (case kt1 => first | k_is | rfl | decide +kernel)
    (case kt2 => first | k_is | rfl | decide +kernel)
    (case kt3 => first | k_is | rfl | decide +kernel)
