import PyProof.Rows.All
import Wide.All
import OpenK.AllK
import Wide.FinOn
import PySem.Challenge.RW_whistleboard_k06_no_places
import HandS.Head0
import HandS.Head1
import HandS.Head2
import HandS.HeadEnd
import HandS.HeadHook1
import HandS.HeadHook2
import HandS.HeadHook3
import HandS.HeadWalk
import HandS.Words
import HandS.ExcInit
import KE.KExcInit
import HandS.ForMost
import HandS.ForExc
import HandS.Flow
import HandS.IsInst
import HandS.More
import HandS.Walk
import HandS.Zip
import HandS.Defaults
import HandS.CallSlots
import HandS.MakeKw
import HandS.FStr
import HandS.Lambda
import HandS.TupAny
import HandS.Deep
import KE.GoesEnum
import KE.GoesMore
import KE.SortData
import HandS.SetKeys
import HandS.SetBool
import HandS.MakeKwOnly
import HandS.Style
import HandS.SetFor
import PyProof.Rows.IntBool
import HandS.Text
import HandS.Strs
import HandS.RaiseMore
import KE.IntTextLaws
import HandS.OwnEq
import KE.KFmtOwn
import PyProof.InstNe
import PyProof.NeKinds
import PyProof.P3Eq
import KE.DataMinMax
import KE.KEqDict
import HandS.DictComp
import HandS.TryOnly
import KE.GoesZip
import HandS.Iter
import OpenK.KOps
import HandS.HotCalls
import HandS.ExcField
import HandS.ExcIs
import KE.KExcIs
import HandS.EndTab
import KE.KNest
import KE.KDictSum
import HandS.Exc
import PyProof.ExcBaseAll.LookupError
import PyProof.Rows.FactsExc_KeyError
import HandS.ExcOwn
import KE.GoesRev
import HandS.Sort
import KE.KSorted
import HandS.TryMany
import KE.KTryMore
import PyProof.Rows.StrCase
import KE.KDflt
set_option Elab.async false
set_option linter.all false
set_option maxRecDepth 100000
set_option maxHeartbeats 4000000
namespace DL
open PySem PySem.Spec PyProof.Rows L2
abbrev Tk0 := PySem.W.Frag → Bool
abbrev AlX : Type := Bool × List He.FnW × List (Option (List (Option (Str × Int))))
def fnsA (K : PySem.W.Frag) : List He.DefD → List He.FnW
  | [] => []
  | d :: r => He.fnW K d.at_ :: fnsA K r
def fnsB : List He.DefD → List He.FnW
  | [] => []
  | d :: r => He.DefD.val d :: fnsB r
def dicA (K : PySem.W.Frag) : List (Str × List Str) → List (Option (List (Option (Str × Int))))
  | [] => []
  | x :: r => He.dicW K (He.ga K x.1) :: dicA K r
def dicB (P : Params) : List (Str × List Str) → List (Option (List (Option (Str × Int))))
  | [] => []
  | x :: r => some (He.keysIn P x.2) :: dicB P r
theorem fnsA_at {K : PySem.W.Frag} : ∀ {fn : List He.DefD} {i : Nat} {d : He.DefD}, fn[i]? = some d → (fnsA K fn)[i]? = some (He.fnW K d.at_)
  | d0 :: r, 0, d, h => by cases h; rfl
  | d0 :: r, i + 1, d, h => fnsA_at (fn := r) h
theorem fnsB_at : ∀ {fn : List He.DefD} {i : Nat} {d : He.DefD}, fn[i]? = some d → (fnsB fn)[i]? = some (He.DefD.val d)
  | d0 :: r, 0, d, h => by cases h; rfl
  | d0 :: r, i + 1, d, h => fnsB_at (fn := r) h
def allA (K : PySem.W.Frag) : List Tk0 → Bool
  | [] => true
  | f :: r => match f K with
    | true => allA K r
    | false => false
theorem allA_at {K : PySem.W.Frag} : ∀ {fa : List Tk0}, allA K fa = true → ∀ {i : Nat} {f : Tk0}, fa[i]? = some f → f K = true
  | f0 :: r, h, i, f, e => by
    have h : (match f0 K with
      | true => allA K r
      | false => false) = true := h
    cases c : f0 K with
    | false => rw [c] at h; cases h
    | true =>
      rw [c] at h
      cases i with
      | zero => cases e; exact c
      | succ i => exact allA_at (fa := r) h e
def okA (K : PySem.W.Frag) : List He.DefD → Bool
  | [] => true
  | d :: r => match He.DefD.ok K d with
    | true => okA K r
    | false => false
theorem okA_at {K : PySem.W.Frag} : ∀ {fn : List He.DefD}, okA K fn = true → ∀ {i : Nat} {d : He.DefD}, fn[i]? = some d → He.DefD.ok K d = true
  | d0 :: r, h, i, d, e => by
    have h : (match He.DefD.ok K d0 with
      | true => okA K r
      | false => false) = true := h
    cases c : He.DefD.ok K d0 with
    | false => rw [c] at h; cases h
    | true =>
      rw [c] at h
      cases i with
      | zero => cases e; exact c
      | succ i => exact okA_at (fn := r) h e
def obsX (fa : List Tk0) (fn : List He.DefD) (ds : List (Str × List Str)) (K : PySem.W.Frag) : AlX := (allA K fa && okA K fn, fnsA K fn, dicA K ds)
def valX (fn : List He.DefD) (ds : List (Str × List Str)) (w : World) : AlX := (true, fnsB fn, dicB w.params ds)
def SaysX (fa : List Tk0) (fn : List He.DefD) (ds : List (Str × List Str)) (w : World) (K : PySem.W.Frag) : Prop := obsX fa fn ds K = valX fn ds w
def reachK {β : Type} (g : Addr → Option Obj) (k : PySem.W.Frag → β) : Nat → List Addr → PySem.W.BT → PySem.W.Frag → β
  | 0, _, _, acc => k acc
  | n + 1, todo, vis, acc => match todo with
    | [] => k acc
    | a :: r => match (vis.get a).isSome with
      | true => reachK g k n r vis acc
      | false => match g a with
        | none => reachK g k n r vis acc
        | some o => reachK g k n (He.refsD o ++ r) (vis.ins a o) ((a, o) :: acc)
theorem reachK_ok {β : Type} {g : Addr → Option Obj} {k : PySem.W.Frag → β} : ∀ {n : Nat} {todo : List Addr} {vis : PySem.W.BT} {acc : PySem.W.Frag}, (∀ q ∈ acc, g q.1 = some q.2) → ∃ K : PySem.W.Frag, (∀ q ∈ K, g q.1 = some q.2) ∧ reachK g k n todo vis acc = k K
  | 0, _, _, acc, h => ⟨acc, h, rfl⟩
  | n + 1, [], _, acc, h => ⟨acc, h, rfl⟩
  | n + 1, a :: r, vis, acc, h => by
    unfold reachK
    dsimp only
    cases (vis.get a).isSome with
    | true => exact reachK_ok (n := n) h
    | false =>
      dsimp only
      cases e : g a with
      | none => exact reachK_ok (n := n) h
      | some o =>
        refine reachK_ok (n := n) fun q hq => ?_
        rcases List.mem_cons.mp hq with rfl | hq
        · exact e
        · exact h q hq
theorem frag_mem {K : PySem.W.Frag} {a : Addr} {o : Obj} (h : K.lookup a = some o) : (a, o) ∈ K := by
  induction K with
  | nil => cases h
  | cons p K ih =>
    obtain ⟨b, u⟩ := p
    rw [List.lookup_cons] at h
    split at h
    · rename_i c
      rw [beq_iff_eq.mp c, Option.some.inj h]
      exact List.mem_cons_self
    · exact List.mem_cons_of_mem _ (ih h)
section
variable {fa : List Tk0} {fn : List He.DefD} {ds : List (Str × List Str)} {w : World} {K : PySem.W.Frag} (c : SaysX fa fn ds w K)
include c
theorem SaysX.fact (i : Nat) {f : Tk0} (h : fa[i]? = some f := by rfl) : f K = true := by
  have h1 : (allA K fa && okA K fn) = true := congrArg (fun z : AlX => z.1) c
  exact allA_at (Bool.and_eq_true_iff.mp h1).1 h
theorem SaysX.def_ (i : Nat) {d : He.DefD} (h : fn[i]? = some d := by rfl) : ∃ fd, FunD K d.name d.qual d.params d.body d.scope (d.dvs K) (d.kws K) (He.fAd K d.at_) fd := by
  have h1 : (allA K fa && okA K fn) = true := congrArg (fun z : AlX => z.1) c
  have h2 : (fnsA K fn)[i]? = (fnsB fn)[i]? := congrArg (fun z : AlX => z.2.1[i]?) c
  rw [fnsA_at h, fnsB_at h] at h2
  exact He.DefD.funD (Option.some.inj h2) (okA_at (Bool.and_eq_true_iff.mp h1).2 h)
end
theorem fun_of {K : PySem.W.Frag} {x qual : Str} {st : Stmt} {f : Addr} {fd : FuncData} (F : FunD K x qual (defArgs st) (defBody st) (defScope st) [] [] f fd) : Fun K x qual st f fd := by
  obtain ⟨⟨oc, od, dV, kV, doc, pm, an, cdv, ct, osl, e, l, cd, hd, _⟩, kp⟩ := F
  rcases hd with ⟨_, rfl⟩ | ⟨h, _⟩
  · exact ⟨⟨oc, od, kV, doc, pm, an, cdv, ct, osl, e, l, cd⟩, kp⟩
  · exact absurd rfl h
inductive CvX where
  | non
  | bl (b : Bool)
  | int (i : Int)
  | str (x : Str)
  | tup (xs : List CvX)
def svX (x : Str) : Bool := x.cps.all (fun c => decide (c < 1114112)) && decide (x.length ≤ sizeLine)
mutual
def cvXB (K : PySem.W.Frag) : CvX → Value → Bool
  | .non, u => (match u with
    | .none => true
    | _ => false)
  | .bl b, u => (match u with
    | .bool c => c == b
    | _ => false)
  | .int i, u => (match u with
    | .int j _ => decide (j = i)
    | _ => false)
  | .str x, u => (match u with
    | .str y _ => decide (y = x) && svX x
    | _ => false)
  | .tup xs, u => (match u with
    | .ref t => (match K.lookup t with
      | some ⟨.type c, _, .seq its _, _⟩ => decide (c = "tuple") && (decide (its.size ≤ sizeLine) && cvXBs K xs its.toList)
      | _ => false)
    | _ => false)
def cvXBs (K : PySem.W.Frag) : List CvX → List Value → Bool
  | [], us => (match us with
    | [] => true
    | _ => false)
  | c :: cs, us => (match us with
    | u :: us => cvXB K c u && cvXBs K cs us
    | [] => false)
end
def gwXB (K : PySem.W.Frag) (x : Str) (c : CvX) : Bool := match PySem.W.nsIn K mainGlobals x with
  | some (some u) => cvXB K c u
  | _ => false
def clsXB (K : PySem.W.Frag) (C : Addr) (bt : List Value) (new : String) : Bool := PySem.W.excInitIn K C bt new && (PySem.W.clsIn K C).any fun cd => cd.hasDict
theorem clsXB_ok {K : PySem.W.Frag} {C : Addr} {bt : List Value} {new : String} (h : clsXB K C bt new = true) :
    ∃ nm q N bs bm sn sub ab col dd k0 k1 k2 k3 k5, K.lookup C = some (excClassObj nm q C N bs bm true sn sub ab col dd k0 k1 k2 k3 k5 new) ∧ PySem.W.excTail bt bm = true := by
  obtain ⟨h1, h2⟩ := Bool.and_eq_true_iff.mp h
  unfold PySem.W.excInitIn at h1
  unfold PySem.W.clsIn at h2
  split at h1
  · rename_i dd cd sl ho
    rw [ho] at h2
    cases cd with
    | mk nm bs mro ns qn hd sn sub ab col del =>
      simp only [Option.any_some] at h2
      split at h1
      · rename_i C' bm k0 k1 k2 k3 n k5 hm hs
        simp only [Bool.and_eq_true, beq_iff_eq, Bool.not_eq_true'] at h1
        obtain ⟨⟨⟨e1, e2⟩, e3⟩, e4⟩ := h1
        dsimp only at hm e3 h2
        subst e1 e2 e3 h2 hm
        obtain ⟨sa⟩ := sl
        simp only at hs
        subst hs
        exact ⟨nm, qn, ns, bs, bm, sn, sub, ab, col, dd, k0, k1, k2, k3, k5, ho, e4⟩
      · cases h1
  · cases h1
def vVB (K : PySem.W.Frag) (b : String) (z : String) : Bool := match PySem.W.findCls K (.type b) (.type "type") "__init__" with
  | some (.val (.builtin y)) => decide (y = z)
  | _ => false
theorem vVB_ok {K : PySem.W.Frag} {b z : String} (h : vVB K b z = true) : PySem.W.findCls K (.type b) (.type "type") "__init__" = some (.val (.builtin z)) := by
  unfold vVB at h
  split at h
  · rename_i y e
    rw [e, (of_decide_eq_true h : y = z)]
  · cases h
theorem decX {p : Prop} [Decidable p] (h : decide p = true) : p := of_decide_eq_true h
def ccT (K : PySem.W.Frag) (x : Str) : Addr := match PySem.W.tabIn K x with
  | some (c, _) => c
  | none => 0
def ttT (K : PySem.W.Frag) (x : Str) : Addr := match PySem.W.tabIn K x with
  | some (_, p) => p
  | none => 0
def dropFr {β : Type} (a : Nat) (k : PySem.W.Frag → β) : PySem.W.Frag → PySem.W.Frag → β
  | [], acc => k acc
  | q :: r, acc => match Nat.beq q.1 a with
    | true => dropFr a k r acc
    | false => dropFr a k r (q :: acc)
theorem dropFr_ok {β : Type} {a : Nat} {k : PySem.W.Frag → β} : ∀ {K acc : PySem.W.Frag}, ∃ K' : PySem.W.Frag, (∀ q ∈ K', q ∈ K ∨ q ∈ acc) ∧ dropFr a k K acc = k K'
  | [], acc => ⟨acc, fun _ h => .inr h, rfl⟩
  | q :: r, acc => by
    unfold dropFr
    cases Nat.beq q.1 a with
    | true =>
      obtain ⟨K', h1, h2⟩ := dropFr_ok (a := a) (k := k) (K := r) (acc := acc)
      exact ⟨K', fun z hz => (h1 z hz).imp (List.mem_cons_of_mem _) id, h2⟩
    | false =>
      obtain ⟨K', h1, h2⟩ := dropFr_ok (a := a) (k := k) (K := r) (acc := q :: acc)
      refine ⟨K', fun z hz => ?_, h2⟩
      rcases h1 z hz with h | h
      · exact .inl (List.mem_cons_of_mem _ h)
      · rcases List.mem_cons.mp h with rfl | h
        · exact .inl List.mem_cons_self
        · exact .inr h
def firstN {β : Type} (a : Nat) (k : Nat → β) : β := match a with
  | 0 => k 0
  | n + 1 => k (n + 1)
theorem firstN_eq {β : Type} {a : Nat} {k : Nat → β} : firstN a k = k a := by cases a <;> rfl
def cutT {β : Type} (k : PySem.W.Frag → β) : List Str → PySem.W.Frag → β
  | [], K => k K
  | x :: r, K => firstN (ttT K x) fun a => dropFr a (fun K' => cutT k r K') K []
theorem cutT_ok {β : Type} {k : PySem.W.Frag → β} : ∀ {ts : List Str} {K : PySem.W.Frag}, ∃ K' : PySem.W.Frag, (∀ q ∈ K', q ∈ K) ∧ cutT k ts K = k K'
  | [], K => ⟨K, fun _ h => h, rfl⟩
  | x :: r, K => by
    unfold cutT
    rw [firstN_eq]
    obtain ⟨K1, h1, h2⟩ := dropFr_ok (a := ttT K x) (k := fun K' => cutT k r K') (K := K) (acc := [])
    obtain ⟨K2, h3, h4⟩ := cutT_ok (k := k) (ts := r) (K := K1)
    refine ⟨K2, fun q hq => ?_, h2.trans h4⟩
    rcases h1 q (h3 q hq) with h | h
    · exact h
    · exact (List.not_mem_nil h).elim
def obsTG (ts : List Str) (fa : List Tk0) (fn : List He.DefD) (ds : List (Str × List Str)) (g : Addr → Option Obj) : AlX := reachK g (cutT (obsX fa fn ds) ts) 20000 [mainGlobals] .nil []
def hookT (ts : List Str) (fa : List Tk0) (fn : List He.DefD) (ds : List (Str × List Str)) : PySem.W.Hook where
  α := AlX
  obs := fun s => obsTG ts fa fn ds s.heap.get?
  val := valX fn ds
  says := fun w h => ∃ K : PySem.W.Frag, K.In h ∧ SaysX fa fn ds w K
  of := fun w s e => by
    obtain ⟨K, i, q⟩ := reachK_ok (g := s.heap.get?) (k := cutT (obsX fa fn ds) ts) (n := 20000) (todo := [mainGlobals]) (vis := .nil) (acc := []) (fun _ h => (List.not_mem_nil h).elim)
    obtain ⟨K', j, q'⟩ := cutT_ok (k := obsX fa fn ds) (ts := ts) (K := K)
    exact ⟨K', fun a o h => i _ (j _ (frag_mem h)), (q.trans q').symm.trans e⟩
  keeps := fun _ _ _ ⟨K, i, c⟩ k => ⟨K, PySem.W.Frag.In.keeps i k, c⟩
theorem obsTG_eq {ts : List Str} {fa : List Tk0} {fn : List He.DefD} {ds : List (Str × List Str)} (s : PySem.W.SharedT) : obsTG ts fa fn ds (HandSHeadRun.getT s) = (hookT ts fa fn ds).obs s.abs := by
  have e : HandSHeadRun.getT s = s.abs.heap.get? := funext (HandSHeadRun.getT_eq s)
  rw [e]; rfl
theorem reachK_all {β : Type} {g : Addr → Option Obj} : ∀ {n : Nat} {todo : List Addr} {vis : PySem.W.BT} {acc : PySem.W.Frag}, ∃ K : PySem.W.Frag, ∀ k : PySem.W.Frag → β, reachK g k n todo vis acc = k K
  | 0, _, _, acc => ⟨acc, fun _ => rfl⟩
  | n + 1, [], _, acc => ⟨acc, fun _ => rfl⟩
  | n + 1, a :: r, vis, acc => by
    unfold reachK
    dsimp only
    cases (vis.get a).isSome with
    | true => exact reachK_all (n := n)
    | false =>
      dsimp only
      cases e : g a with
      | none => exact reachK_all (n := n)
      | some o => exact reachK_all (n := n)
theorem dropFr_all {β : Type} {a : Nat} : ∀ {K acc : PySem.W.Frag}, ∃ K' : PySem.W.Frag, ∀ k : PySem.W.Frag → β, dropFr a k K acc = k K'
  | [], acc => ⟨acc, fun _ => rfl⟩
  | q :: r, acc => by
    unfold dropFr
    cases Nat.beq q.1 a with
    | true => exact dropFr_all (K := r)
    | false => exact dropFr_all (K := r)
theorem cutT_all {β : Type} : ∀ {ts : List Str} {K : PySem.W.Frag}, ∃ K' : PySem.W.Frag, ∀ k : PySem.W.Frag → β, cutT k ts K = k K'
  | [], K => ⟨K, fun _ => rfl⟩
  | x :: r, K => by
    obtain ⟨K1, h1⟩ := dropFr_all (β := β) (a := ttT K x) (K := K) (acc := [])
    obtain ⟨K2, h2⟩ := cutT_all (β := β) (ts := r) (K := K1)
    exact ⟨K2, fun k => (by
      unfold cutT
      rw [firstN_eq]
      exact (h1 _).trans (h2 k))⟩
theorem obsTG_all {ts : List Str} {g : Addr → Option Obj} : ∃ K : PySem.W.Frag, ∀ (fa : List Tk0) (fn : List He.DefD) (ds : List (Str × List Str)), obsTG ts fa fn ds g = obsX fa fn ds K := by
  obtain ⟨K1, h1⟩ := reachK_all (β := AlX) (g := g) (n := 20000) (todo := [mainGlobals]) (vis := .nil) (acc := [])
  obtain ⟨K2, h2⟩ := cutT_all (β := AlX) (ts := ts) (K := K1)
  exact ⟨K2, fun fa fn ds => (h1 _).trans (h2 _)⟩
theorem allA_app {K : PySem.W.Frag} : ∀ {fa fb : List Tk0}, allA K fa = true → allA K fb = true → allA K (fa ++ fb) = true
  | [], fb, _, h => h
  | f :: r, fb, h1, h => by
    have h1 : (match f K with
      | true => allA K r
      | false => false) = true := h1
    show (match f K with
      | true => allA K (r ++ fb)
      | false => false) = true
    cases c : f K with
    | false => rw [c] at h1; cases h1
    | true => rw [c] at h1; exact allA_app (fa := r) h1 h
theorem okA_app {K : PySem.W.Frag} : ∀ {fa fb : List He.DefD}, okA K fa = true → okA K fb = true → okA K (fa ++ fb) = true
  | [], fb, _, h => h
  | f :: r, fb, h1, h => by
    have h1 : (match He.DefD.ok K f with
      | true => okA K r
      | false => false) = true := h1
    show (match He.DefD.ok K f with
      | true => okA K (r ++ fb)
      | false => false) = true
    cases c : He.DefD.ok K f with
    | false => rw [c] at h1; cases h1
    | true => rw [c] at h1; exact okA_app (fa := r) h1 h
theorem fnsA_app {K : PySem.W.Frag} : ∀ {a b : List He.DefD}, fnsA K (a ++ b) = fnsA K a ++ fnsA K b
  | [], _ => rfl
  | d :: r, b => congrArg (He.fnW K d.at_ :: ·) (fnsA_app (a := r))
theorem fnsB_app : ∀ {a b : List He.DefD}, fnsB (a ++ b) = fnsB a ++ fnsB b
  | [], _ => rfl
  | d :: r, b => congrArg (He.DefD.val d :: ·) (fnsB_app (a := r))
theorem dicA_app {K : PySem.W.Frag} : ∀ {a b : List (Str × List Str)}, dicA K (a ++ b) = dicA K a ++ dicA K b
  | [], _ => rfl
  | x :: r, b => congrArg (He.dicW K (He.ga K x.1) :: ·) (dicA_app (a := r))
theorem dicB_app {P : Params} : ∀ {a b : List (Str × List Str)}, dicB P (a ++ b) = dicB P a ++ dicB P b
  | [], _ => rfl
  | x :: r, b => congrArg (some (He.keysIn P x.2) :: ·) (dicB_app (a := r))
theorem obsTG_app {ts : List Str} {fa fb : List Tk0} {fn fm : List He.DefD} {ds dt : List (Str × List Str)} {w : World} {g : Addr → Option Obj} (h1 : obsTG ts fa fn ds g = valX fn ds w) (h2 : obsTG ts fb fm dt g = valX fm dt w) : obsTG ts (fa ++ fb) (fn ++ fm) (ds ++ dt) g = valX (fn ++ fm) (ds ++ dt) w := by
  obtain ⟨K, e⟩ := obsTG_all (ts := ts) (g := g)
  rw [e] at h1 h2 ⊢
  have a1 : (allA K fa && okA K fn) = true := congrArg (fun z : AlX => z.1) h1
  have a2 : (allA K fb && okA K fm) = true := congrArg (fun z : AlX => z.1) h2
  have b1 : fnsA K fn = fnsB fn := congrArg (fun z : AlX => z.2.1) h1
  have b2 : fnsA K fm = fnsB fm := congrArg (fun z : AlX => z.2.1) h2
  have c1 : dicA K ds = dicB w.params ds := congrArg (fun z : AlX => z.2.2) h1
  have c2 : dicA K dt = dicB w.params dt := congrArg (fun z : AlX => z.2.2) h2
  have d1 := Bool.and_eq_true_iff.mp a1
  have d2 := Bool.and_eq_true_iff.mp a2
  show ((allA K (fa ++ fb) && okA K (fn ++ fm)), (fnsA K (fn ++ fm), dicA K (ds ++ dt))) = (true, (fnsB (fn ++ fm), dicB w.params (ds ++ dt)))
  rw [fnsA_app, fnsB_app, dicA_app, dicB_app, b1, b2, c1, c2, allA_app d1.1 d2.1, okA_app d1.2 d2.2]
  rfl
def RunPart (r : PySem.W.OpenRow) (M : Nat) (ts : List Str) (fa : List Tk0) (fn : List He.DefD) (ds : List (Str × List Str)) (w : World) : Prop :=
  ∀ os : OsState, (HandSHeadRun.endF (HandSHeadRun.stepQ (HandSHeadRun.denQ HandSHeadRun.tabQ) r.prog w) M r.prog w os).map (fun s => obsTG ts fa fn ds (HandSHeadRun.getT s)) = some (valX fn ds w)
abbrev RunAll (r : PySem.W.OpenRow) (q : Program) (M : Nat) (loose : List PySem.Str) (ts : List Str) (fa : List Tk0) (fn : List He.DefD) (ds : List (Str × List Str)) (w : World) : Prop :=
  HandSHeadRun.RunEq r q (hookT ts fa fn ds) (fun s => obsTG ts fa fn ds (HandSHeadRun.getT s)) M loose w
theorem run_app {r : PySem.W.OpenRow} {q : Program} {M : Nat} {loose : List PySem.Str} {ts : List Str} {fa fb : List Tk0} {fn fm : List He.DefD} {ds dt : List (Str × List Str)} {w : World}
    (A : RunAll r q M loose ts fb fm dt w) (B : RunPart r M ts fa fn ds w) : RunAll r q M loose ts (fa ++ fb) (fn ++ fm) (ds ++ dt) w := fun os => by
  have a := A os
  have b := B os
  revert a b
  cases HandSHeadRun.endF (HandSHeadRun.stepQ (HandSHeadRun.denQ HandSHeadRun.tabQ) r.prog w) M r.prog w os with
  | none => intro a _; cases a
  | some s =>
    intro a b
    have a := Option.some.inj a
    have b : obsTG ts fa fn ds (HandSHeadRun.getT s) = valX fn ds w := Option.some.inj b
    have c : obsTG ts fb fm dt (HandSHeadRun.getT s) = valX fm dt w := congrArg (fun z => z.2.2) a
    refine congrArg some ?_
    rw [Prod.ext_iff, Prod.ext_iff] at a ⊢
    exact ⟨a.1, a.2.1, obsTG_app b c⟩
end DL
set_option maxHeartbeats 0
namespace DL
open PySem PySem.Spec PyProof.Rows L2
def topS0 (i : Nat) : Stmt := PySem.Challenge.pw_whistleboard_k06_no_places.main.body.getD i (.Pass ⟨0, 0, 0, 0⟩)
noncomputable def d_NoPlace__init_ : He.DefD := ⟨("NoPlace", some "__init__"), "__init__", "NoPlace.__init__", defArgs (inClass (topS0 4) 0), defBody (inClass (topS0 4) 0), defScope (inClass (topS0 4) 0), [], []⟩
noncomputable def d_law_bag : He.DefD := ⟨("_law_bag", none), "_law_bag", "_law_bag", defArgs (topS0 46), defBody (topS0 46), defScope (topS0 46), [], []⟩
noncomputable def d_law_take : He.DefD := ⟨("_law_take", none), "_law_take", "_law_take", defArgs (topS0 47), defBody (topS0 47), defScope (topS0 47), [], []⟩
noncomputable def d_law_names : He.DefD := ⟨("_law_names", none), "_law_names", "_law_names", defArgs (topS0 48), defBody (topS0 48), defScope (topS0 48), [], []⟩
noncomputable def d_law_ground : He.DefD := ⟨("_law_ground", none), "_law_ground", "_law_ground", defArgs (topS0 49), defBody (topS0 49), defScope (topS0 49), [], []⟩
noncomputable def d_is_tuple_within : He.DefD := ⟨("is_tuple_within", none), "is_tuple_within", "is_tuple_within", defArgs (topS0 25), defBody (topS0 25), defScope (topS0 25), [], []⟩
noncomputable def d_check_size : He.DefD := ⟨("check_size", none), "check_size", "check_size", defArgs (topS0 42), defBody (topS0 42), defScope (topS0 42), [], []⟩
noncomputable def d_is_name : He.DefD := ⟨("is_name", none), "is_name", "is_name", defArgs (topS0 24), defBody (topS0 24), defScope (topS0 24), [], []⟩
noncomputable def d_is_whole : He.DefD := ⟨("is_whole", none), "is_whole", "is_whole", defArgs (topS0 22), defBody (topS0 22), defScope (topS0 22), [], []⟩
noncomputable def d_is_whole_within : He.DefD := ⟨("is_whole_within", none), "is_whole_within", "is_whole_within", defArgs (topS0 23), defBody (topS0 23), defScope (topS0 23), [], []⟩
noncomputable def d_is_place_with_risk : He.DefD := ⟨("is_place_with_risk", none), "is_place_with_risk", "is_place_with_risk", defArgs (topS0 43), defBody (topS0 43), defScope (topS0 43), [], []⟩
noncomputable def d_checked_risks : He.DefD := ⟨("checked_risks", none), "checked_risks", "checked_risks", defArgs (topS0 39), defBody (topS0 39), defScope (topS0 39), [], []⟩
noncomputable def d_is_place_among : He.DefD := ⟨("is_place_among", none), "is_place_among", "is_place_among", defArgs (topS0 38), defBody (topS0 38), defScope (topS0 38), [], []⟩
noncomputable def d_is_road_among : He.DefD := ⟨("is_road_among", none), "is_road_among", "is_road_among", defArgs (topS0 44), defBody (topS0 44), defScope (topS0 44), [], []⟩
noncomputable def d_ends_of : He.DefD := ⟨("ends_of", none), "ends_of", "ends_of", defArgs (topS0 37), defBody (topS0 37), defScope (topS0 37), [], []⟩
noncomputable def d_check_roads : He.DefD := ⟨("check_roads", none), "check_roads", "check_roads", defArgs (topS0 40), defBody (topS0 40), defScope (topS0 40), [], []⟩
noncomputable def d_check_stations : He.DefD := ⟨("check_stations", none), "check_stations", "check_stations", defArgs (topS0 41), defBody (topS0 41), defScope (topS0 41), [], []⟩
noncomputable def d_Ground__init_ : He.DefD := ⟨("Ground", some "__init__"), "__init__", "Ground.__init__", defArgs (inClass (topS0 34) 0), defBody (inClass (topS0 34) 0), defScope (inClass (topS0 34) 0), [], []⟩
noncomputable def d_law_odd : He.DefD := ⟨("_law_odd", none), "_law_odd", "_law_odd", defArgs (topS0 51), defBody (topS0 51), defScope (topS0 51), [], []⟩
noncomputable def d_law_kind : He.DefD := ⟨("_law_kind", none), "_law_kind", "_law_kind", defArgs (topS0 50), defBody (topS0 50), defScope (topS0 50), [], []⟩
noncomputable def d_law_told : He.DefD := ⟨("_law_told", none), "_law_told", "_law_told", defArgs (topS0 52), defBody (topS0 52), defScope (topS0 52), [], []⟩
noncomputable def d_Ground_check_place : He.DefD := ⟨("Ground", some "check_place"), "check_place", "Ground.check_place", defArgs (inClass (topS0 34) 10), defBody (inClass (topS0 34) 10), defScope (inClass (topS0 34) 10), [], []⟩
noncomputable def d_least_minutes : He.DefD := ⟨("least_minutes", none), "least_minutes", "least_minutes", defArgs (topS0 35), defBody (topS0 35), defScope (topS0 35), [], []⟩
noncomputable def d_Ground_links : He.DefD := ⟨("Ground", some "links"), "links", "Ground.links", defArgs (inClass (topS0 34) 11), defBody (inClass (topS0 34) 11), defScope (inClass (topS0 34) 11), [], []⟩
noncomputable def d_Ground_minutes : He.DefD := ⟨("Ground", some "minutes"), "minutes", "Ground.minutes", defArgs (inClass (topS0 34) 5), defBody (inClass (topS0 34) 5), defScope (inClass (topS0 34) 5), [.int 0, .non], []⟩
noncomputable def d_Ground_road : He.DefD := ⟨("Ground", some "road"), "road", "Ground.road", defArgs (inClass (topS0 34) 6), defBody (inClass (topS0 34) 6), defScope (inClass (topS0 34) 6), [.int 0, .non], []⟩
noncomputable def d_Ground_risk : He.DefD := ⟨("Ground", some "risk"), "risk", "Ground.risk", defArgs (inClass (topS0 34) 9), defBody (inClass (topS0 34) 9), defScope (inClass (topS0 34) 9), [], []⟩
noncomputable def d_Ground_station_of : He.DefD := ⟨("Ground", some "station_of"), "station_of", "Ground.station_of", defArgs (inClass (topS0 34) 7), defBody (inClass (topS0 34) 7), defScope (inClass (topS0 34) 7), [.int 0, .non], []⟩
noncomputable def d_law_is : He.DefD := ⟨("_law_is", none), "_law_is", "_law_is", defArgs (topS0 53), defBody (topS0 53), defScope (topS0 53), [], []⟩
noncomputable def d_law : He.DefD := ⟨("law", none), "law", "law", defArgs (topS0 54), defBody (topS0 54), defScope (topS0 54), [], []⟩
noncomputable def tests0 : List Tk0 := [
  fun K => decide (PySem.W.nsIn K mainGlobals "NoPlace" = some (some (.ref (He.ga K "NoPlace")))),
  fun K => clsXB K (He.ga K "NoPlace") [.type "KeyError", .type "LookupError", .type "Exception", .type "BaseException", .type "object"] "LookupError.__new__",
  fun K => PySem.W.excOver K (He.ga K "NoPlace") [.type "KeyError", .type "LookupError", .type "Exception", .type "BaseException", .type "object"],
  fun K => decide (PySem.W.findIn K (.ref (He.ga K "NoPlace")) "__setattr__" = some (some (.builtin "object.__setattr__"))),
  fun K => PySem.W.keepIn K (.ref (He.ga K "NoPlace")),
  fun K => decide (PySem.W.subIn K (.ref (He.ga K "NoPlace")) (.type "BaseException") = some true),
  fun K => decide (PySem.W.typeIn K (.ref (He.ga K "NoPlace")) = some (.type "type")),
  fun K => decide (PySem.W.findIn K (.ref (He.ga K "NoPlace")) "place" = some none),
  fun K => PySem.W.hasDictIn K (He.ga K "NoPlace"),
  fun K => decide (PySem.W.subIn K (.ref (He.ga K "NoPlace")) (.ref (He.ga K "NoPlace")) = some true),
  fun K => decide (PySem.W.findIn K (.ref (He.ga K "NoPlace")) "__init__" = some (some (.ref (He.fAd K ("NoPlace", some "__init__"))))),
  fun K => decide (PySem.W.typeIn K (.ref (He.fAd K ("NoPlace", some "__init__"))) = some (.type "function")),
  fun K => vVB K "KeyError" "KeyError.__init__",
  fun K => decide (PySem.W.nsIn K mainGlobals "BadTime" = some (some (.ref (He.ga K "BadTime")))),
  fun K => decide (PySem.W.nsIn K mainGlobals "NoGround" = some (some (.ref (He.ga K "NoGround")))),
  fun K => decide (PySem.W.nsIn K mainGlobals "NoProof" = some (some (.ref (He.ga K "NoProof")))),
  fun K => decide (PySem.W.nsIn K mainGlobals "NoKind" = some (some (.ref (He.ga K "NoKind")))),
  fun K => decide (PySem.W.nsIn K mainGlobals "BadText" = some (some (.ref (He.ga K "BadText")))),
  fun K => decide (PySem.W.nsIn K mainGlobals "NoDeed" = some (some (.ref (He.ga K "NoDeed")))),
  fun K => decide (PySem.W.nsIn K mainGlobals "NoRow" = some (some (.ref (He.ga K "NoRow")))),
  fun K => decide (PySem.W.nsIn K mainGlobals "TooMany" = some (some (.ref (He.ga K "TooMany")))),
  fun K => decide (PySem.W.nsIn K mainGlobals "NotDone" = some (some (.ref (He.ga K "NotDone")))),
  fun K => decide (PySem.W.nsIn K mainGlobals "NoBook" = some (some (.ref (He.ga K "NoBook")))),
  fun K => decide (PySem.W.nsIn K mainGlobals "NoCall" = some (some (.ref (He.ga K "NoCall")))),
  fun K => decide (PySem.W.nsIn K mainGlobals "NoEngine" = some (some (.ref (He.ga K "NoEngine")))),
  fun K => decide (PySem.W.nsIn K mainGlobals "NoEngines" = some (some (.ref (He.ga K "NoEngines")))),
  fun K => decide (PySem.W.nsIn K mainGlobals "NoText" = some (some (.ref (He.ga K "NoText")))),
  fun K => decide (PySem.W.nsIn K mainGlobals "Nothing" = some (some (.ref (He.ga K "Nothing")))),
  fun K => decide (PySem.W.nsIn K mainGlobals "NoSaying" = some (some (.ref (He.ga K "NoSaying")))),
  fun K => decide (PySem.W.kitOne K (.ref (He.ga K "NoPlace")) (.ref (He.ga K "BadTime")) = some false)]
noncomputable def tests1 : List Tk0 := [
  fun K => decide (PySem.W.kitOne K (.ref (He.ga K "NoPlace")) (.ref (He.ga K "NoGround")) = some false),
  fun K => decide (PySem.W.kitOne K (.ref (He.ga K "NoPlace")) (.ref (He.ga K "NoPlace")) = some true),
  fun K => decide (PySem.W.kitOne K (.ref (He.ga K "NoPlace")) (.ref (He.ga K "NoProof")) = some false),
  fun K => decide (PySem.W.kitOne K (.ref (He.ga K "NoPlace")) (.ref (He.ga K "NoKind")) = some false),
  fun K => decide (PySem.W.kitOne K (.ref (He.ga K "NoPlace")) (.ref (He.ga K "BadText")) = some false),
  fun K => decide (PySem.W.kitOne K (.ref (He.ga K "NoPlace")) (.ref (He.ga K "NoDeed")) = some false),
  fun K => decide (PySem.W.kitOne K (.ref (He.ga K "NoPlace")) (.ref (He.ga K "NoRow")) = some false),
  fun K => decide (PySem.W.kitOne K (.ref (He.ga K "NoPlace")) (.ref (He.ga K "TooMany")) = some false),
  fun K => decide (PySem.W.kitOne K (.ref (He.ga K "NoPlace")) (.ref (He.ga K "NotDone")) = some false),
  fun K => decide (PySem.W.kitOne K (.ref (He.ga K "NoPlace")) (.ref (He.ga K "NoBook")) = some false),
  fun K => decide (PySem.W.kitOne K (.ref (He.ga K "NoPlace")) (.ref (He.ga K "NoCall")) = some false),
  fun K => decide (PySem.W.kitOne K (.ref (He.ga K "NoPlace")) (.ref (He.ga K "NoEngine")) = some false),
  fun K => decide (PySem.W.kitOne K (.ref (He.ga K "NoPlace")) (.ref (He.ga K "NoEngines")) = some false),
  fun K => decide (PySem.W.kitOne K (.ref (He.ga K "NoPlace")) (.ref (He.ga K "NoText")) = some false),
  fun K => decide (PySem.W.kitOne K (.ref (He.ga K "NoPlace")) (.ref (He.ga K "Nothing")) = some false),
  fun K => decide (PySem.W.kitOne K (.ref (He.ga K "NoPlace")) (.ref (He.ga K "NoSaying")) = some false),
  fun K => decide (PySem.W.kitOne K (.ref (He.ga K "NoPlace")) (.type "KeyError") = some true),
  fun K => decide (PySem.W.findIn K (.ref (He.ga K "NoPlace")) "__getattribute__" = some (some (.builtin "BaseException.__getattribute__"))),
  fun K => decide (PySem.W.findIn K (.ref (He.ga K "NoPlace")) "__getattr__" = some none),
  fun K => decide (PySem.W.findIn K (.ref (He.ga K "NoPlace")) "__class__" = some (some (.builtin "object.__class__"))),
  fun K => decide (PySem.W.mroIn K (He.ga K "NoPlace") (.type "object") = some true),
  fun K => decide (PySem.W.nsIn K mainGlobals "Ground" = some (some (.ref (He.ga K "Ground")))),
  fun K => PySem.W.plainGet K (He.ga K "Ground") Str.empty,
  fun K => PySem.W.hasDictIn K (He.ga K "Ground"),
  fun K => PySem.W.plainOver K (He.ga K "Ground"),
  fun K => decide (PySem.W.findIn K (.ref (He.ga K "Ground")) "__setattr__" = some (some (.builtin "object.__setattr__"))),
  fun K => decide (PySem.W.findIn K (.ref (He.ga K "Ground")) "risks" = some none),
  fun K => decide (PySem.W.findIn K (.ref (He.ga K "Ground")) "places" = some none),
  fun K => decide (PySem.W.findIn K (.ref (He.ga K "Ground")) "roads" = some none),
  fun K => decide (PySem.W.findIn K (.ref (He.ga K "Ground")) "stations" = some none)]
noncomputable def tests2 : List Tk0 := [
  fun K => decide (PySem.W.findIn K (.ref (He.ga K "Ground")) "sorted_places" = some none),
  fun K => decide (PySem.W.findIn K (.ref (He.ga K "Ground")) "sorted_roads" = some none),
  fun K => decide (PySem.W.findIn K (.ref (He.ga K "Ground")) "sorted_stations" = some none),
  fun K => PySem.W.makesIn K (He.ga K "Ground"),
  fun K => decide (PySem.W.findIn K (.ref (He.ga K "Ground")) "__init__" = some (some (.ref (He.fAd K ("Ground", some "__init__"))))),
  fun K => PySem.W.isFn K (.ref (He.fAd K ("Ground", some "__init__"))),
  fun K => PySem.W.keepIn K (.ref (He.ga K "Ground")),
  fun K => decide (PySem.W.nsIn K mainGlobals "_law_bag" = some (some (.ref (He.fAd K ("_law_bag", none))))),
  fun K => decide (PySem.W.nsIn K mainGlobals "_law_take" = some (some (.ref (He.fAd K ("_law_take", none))))),
  fun K => decide (PySem.W.nsIn K mainGlobals "_law_names" = some (some (.ref (He.fAd K ("_law_names", none))))),
  fun K => decide (PySem.W.nsIn K mainGlobals "_law_ground" = some (some (.ref (He.fAd K ("_law_ground", none))))),
  fun K => decide (PySem.W.nsIn K mainGlobals "is_tuple_within" = some (some (.ref (He.fAd K ("is_tuple_within", none))))),
  fun K => decide (PySem.W.nsIn K mainGlobals "check_size" = some (some (.ref (He.fAd K ("check_size", none))))),
  fun K => decide (PySem.W.nsIn K mainGlobals "is_name" = some (some (.ref (He.fAd K ("is_name", none))))),
  fun K => decide (PySem.W.nsIn K mainGlobals "is_whole" = some (some (.ref (He.fAd K ("is_whole", none))))),
  fun K => decide (PySem.W.nsIn K mainGlobals "is_whole_within" = some (some (.ref (He.fAd K ("is_whole_within", none))))),
  fun K => decide (PySem.W.nsIn K mainGlobals "is_place_with_risk" = some (some (.ref (He.fAd K ("is_place_with_risk", none))))),
  fun K => decide (PySem.W.nsIn K mainGlobals "checked_risks" = some (some (.ref (He.fAd K ("checked_risks", none))))),
  fun K => decide (PySem.W.nsIn K mainGlobals "is_place_among" = some (some (.ref (He.fAd K ("is_place_among", none))))),
  fun K => decide (PySem.W.nsIn K mainGlobals "is_road_among" = some (some (.ref (He.fAd K ("is_road_among", none))))),
  fun K => decide (PySem.W.nsIn K mainGlobals "ends_of" = some (some (.ref (He.fAd K ("ends_of", none))))),
  fun K => decide (PySem.W.nsIn K mainGlobals "check_roads" = some (some (.ref (He.fAd K ("check_roads", none))))),
  fun K => decide (PySem.W.nsIn K mainGlobals "check_stations" = some (some (.ref (He.fAd K ("check_stations", none))))),
  fun K => decide (PySem.W.nsIn K mainGlobals "_law_odd" = some (some (.ref (He.fAd K ("_law_odd", none))))),
  fun K => decide (PySem.W.nsIn K mainGlobals "_law_kind" = some (some (.ref (He.fAd K ("_law_kind", none))))),
  fun K => decide (PySem.W.nsIn K mainGlobals "_law_told" = some (some (.ref (He.fAd K ("_law_told", none))))),
  fun K => decide (PySem.W.findIn K (.ref (He.ga K "Ground")) "check_place" = some (some (.ref (He.fAd K ("Ground", some "check_place"))))),
  fun K => PySem.W.isFn K (.ref (He.fAd K ("Ground", some "check_place"))),
  fun K => decide (PySem.W.nsIn K mainGlobals "least_minutes" = some (some (.ref (He.fAd K ("least_minutes", none))))),
  fun K => decide (PySem.W.findIn K (.ref (He.ga K "Ground")) "links" = some (some (.ref (He.fAd K ("Ground", some "links")))))]
noncomputable def tests3 : List Tk0 := [
  fun K => PySem.W.isFn K (.ref (He.fAd K ("Ground", some "links"))),
  fun K => decide (PySem.W.findIn K (.ref (He.ga K "Ground")) "minutes" = some (some (.ref (He.fAd K ("Ground", some "minutes"))))),
  fun K => PySem.W.isFn K (.ref (He.fAd K ("Ground", some "minutes"))),
  fun K => decide (PySem.W.findIn K (.ref (He.ga K "Ground")) "road" = some (some (.ref (He.fAd K ("Ground", some "road"))))),
  fun K => PySem.W.isFn K (.ref (He.fAd K ("Ground", some "road"))),
  fun K => decide (PySem.W.findIn K (.ref (He.ga K "Ground")) "risk" = some (some (.ref (He.fAd K ("Ground", some "risk"))))),
  fun K => PySem.W.isFn K (.ref (He.fAd K ("Ground", some "risk"))),
  fun K => decide (PySem.W.findIn K (.ref (He.ga K "Ground")) "station_of" = some (some (.ref (He.fAd K ("Ground", some "station_of"))))),
  fun K => PySem.W.isFn K (.ref (He.fAd K ("Ground", some "station_of"))),
  fun K => decide (PySem.W.nsIn K mainGlobals "_law_is" = some (some (.ref (He.fAd K ("_law_is", none))))),
  fun K => decide (PySem.W.nsIn K mainGlobals "law" = some (some (.ref (He.fAd K ("law", none))))),
  fun K => decide (PySem.W.tabIn K "law" = some ((ccT K "law"), (ttT K "law"))),
  fun K => (K.lookup (ttT K "law")).isNone,
  fun K => decide (PySem.W.specialIn K (.builtin "object.__class__") "__get__" = some (some (.builtin "getset_descriptor.__get__"))),
  fun K => decide (PySem.W.takesIn K (.builtin "object.__class__") = some true),
  fun K => decide (PySem.W.findIn K (.ref (He.ga K "Ground")) "__class__" = some (some (.builtin "object.__class__"))),
  fun K => decide (PySem.W.mroIn K (He.ga K "Ground") (.type "object") = some true),
  fun K => decide (PySem.W.kitOne K (.ref (He.ga K "Ground")) (.ref (He.ga K "Ground")) = some true),
  fun K => decide (PySem.W.findIn K (.ref (He.ga K "Ground")) "__ne__" = some (some (.builtin "object.__ne__"))),
  fun K => decide (PySem.W.kitOne K (.type "NoneType") (.ref (He.ga K "Ground")) = some false),
  fun K => PySem.W.notFirst K (He.ga K "Ground") (.type "NoneType"),
  fun K => decide (PySem.W.kitOne K (.type "bool") (.ref (He.ga K "Ground")) = some false),
  fun K => PySem.W.notFirst K (He.ga K "Ground") (.type "bool"),
  fun K => decide (PySem.W.kitOne K (.type "tuple") (.ref (He.ga K "Ground")) = some false),
  fun K => PySem.W.notFirst K (He.ga K "Ground") (.type "tuple"),
  fun K => decide (PySem.W.kitOne K (.type "str") (.ref (He.ga K "Ground")) = some false),
  fun K => PySem.W.notFirst K (He.ga K "Ground") (.type "str"),
  fun K => decide (PySem.W.kitOne K (.type "int") (.ref (He.ga K "Ground")) = some false),
  fun K => PySem.W.notFirst K (He.ga K "Ground") (.type "int"),
  fun K => decide (PySem.W.kitOne K (.type "list") (.ref (He.ga K "Ground")) = some false)]
noncomputable def tests4 : List Tk0 := [
  fun K => PySem.W.notFirst K (He.ga K "Ground") (.type "list"),
  fun K => decide (PySem.W.nsIn K mainGlobals "len" = some none),
  fun K => decide (PySem.W.nsIn K mainGlobals "abs" = some none),
  fun K => decide (PySem.W.nsIn K mainGlobals "all" = some none),
  fun K => decide (PySem.W.nsIn K mainGlobals "any" = some none),
  fun K => decide (PySem.W.nsIn K mainGlobals "str" = some none),
  fun K => decide (PySem.W.nsIn K mainGlobals "int" = some none),
  fun K => decide (PySem.W.nsIn K mainGlobals "isinstance" = some none),
  fun K => decide (PySem.W.nsIn K mainGlobals "range" = some none),
  fun K => decide (PySem.W.nsIn K mainGlobals "max" = some none),
  fun K => decide (PySem.W.nsIn K mainGlobals "min" = some none),
  fun K => decide (PySem.W.nsIn K mainGlobals "bool" = some none),
  fun K => decide (PySem.W.nsIn K mainGlobals "list" = some none),
  fun K => decide (PySem.W.nsIn K mainGlobals "tuple" = some none),
  fun K => decide (PySem.W.nsIn K mainGlobals "zip" = some none),
  fun K => decide (PySem.W.nsIn K mainGlobals "enumerate" = some none),
  fun K => decide (PySem.W.nsIn K mainGlobals "sorted" = some none),
  fun K => decide (PySem.W.nsIn K mainGlobals "dict" = some none),
  fun K => decide (PySem.W.nsIn K mainGlobals "KeyError" = some none),
  fun K => gwXB K "LETTERS" (.str "abcdefghijklmnopqrstuvwxyz"),
  fun K => gwXB K "LONGEST_NAME" (.int 8),
  fun K => gwXB K "SLOW_HOURS" (.tup [.int 7, .int 8, .int 16, .int 17]),
  fun K => gwXB K "MOST_PLACES" (.int 40),
  fun K => gwXB K "MOST_ROADS" (.int 80),
  fun K => gwXB K "MOST_STATIONS" (.int 12),
  fun K => gwXB K "MOST_RISK" (.int 4),
  fun K => gwXB K "MOST_MINUTES" (.int 60),
  fun K => gwXB K "MOST_SLOW" (.int 60)]
noncomputable def fa0 : List Tk0 := tests0 ++ (tests1 ++ (tests2 ++ (tests3 ++ (tests4))))
noncomputable def fa : List Tk0 := fa0 ++ ([] ++ ([]))
noncomputable def fn0 : List He.DefD := [d_NoPlace__init_, d_law_bag, d_law_take, d_law_names, d_law_ground, d_is_tuple_within, d_check_size, d_is_name, d_is_whole, d_is_whole_within, d_is_place_with_risk, d_checked_risks, d_is_place_among, d_is_road_among, d_ends_of, d_check_roads, d_check_stations, d_Ground__init_, d_law_odd, d_law_kind, d_law_told, d_Ground_check_place, d_least_minutes, d_Ground_links, d_Ground_minutes, d_Ground_road, d_Ground_risk, d_Ground_station_of, d_law_is, d_law]
noncomputable def ds0 : List (Str × List Str) := []
noncomputable def fn : List He.DefD := [] ++ (fn0 ++ [])
noncomputable def ds : List (Str × List Str) := [] ++ (ds0 ++ [])
abbrev R : PySem.W.OpenRow := PySem.W.OpenLaw.row PySem.Challenge.rw_whistleboard_k06_no_places
abbrev qv : Program := PySem.W.view R.prog [54]
def loose : List PySem.Str := (["_wall", "BadTime", "NoGround", "NoPlace", "NoProof", "NoKind", "BadText", "NoDeed", "NoRow", "TooMany", "NotDone", "NoBook", "NoCall", "NoEngine", "NoEngines", "NoText", "Nothing", "NoSaying", "LETTERS", "LONGEST_NAME", "is_whole", "is_whole_within", "is_name", "is_tuple_within", "SLOW_HOURS", "MOST_PLACES", "MOST_ROADS", "MOST_STATIONS", "MOST_RISK", "MOST_MINUTES"] : List PySem.Str) ++ (["MOST_SLOW", "Ground", "least_minutes", "shortest_walk", "ends_of", "is_place_among", "checked_risks", "check_roads", "check_stations", "check_size", "is_place_with_risk", "is_road_among", "_law_bag", "_law_take", "_law_names", "_law_ground", "_law_kind", "_law_odd", "_law_told", "_law_is"] : List PySem.Str)
noncomputable abbrev hk : PySem.W.Hook := hookT ["law"] fa fn ds
noncomputable def ob (s : PySem.W.SharedT) : AlX := obsTG ["law"] fa fn ds (HandSHeadRun.getT s)
theorem ob_eq (s : PySem.W.SharedT) : ob s = hk.obs s.abs := obsTG_eq s
theorem run0_false (w : World) : RunAll R qv 40000 loose ["law"] [] [] [] (w.withFollow "special-get-raises" false) := by
  intro os
  kernel_rfl
theorem run0_true (w : World) : RunAll R qv 40000 loose ["law"] [] [] [] (w.withFollow "special-get-raises" true) := by
  intro os
  kernel_rfl
theorem run0 (w : World) : RunAll R qv 40000 loose ["law"] [] [] [] w := PySem.W.byRow2 "special-get-raises" (P := fun w => RunAll R qv 40000 loose ["law"] [] [] [] w) run0_false run0_true w
theorem run1_false (w : World) : RunPart R 40000 ["law"] [] fn0 ds0 (w.withFollow "special-get-raises" false) := by
  intro os
  kernel_rfl
theorem run1_true (w : World) : RunPart R 40000 ["law"] [] fn0 ds0 (w.withFollow "special-get-raises" true) := by
  intro os
  kernel_rfl
theorem run1 (w : World) : RunPart R 40000 ["law"] [] fn0 ds0 w := PySem.W.byRow2 "special-get-raises" (P := fun w => RunPart R 40000 ["law"] [] fn0 ds0 w) run1_false run1_true w
theorem run2_false (w : World) : RunPart R 40000 ["law"] fa0 [] [] (w.withFollow "special-get-raises" false) := by
  intro os
  kernel_rfl
theorem run2_true (w : World) : RunPart R 40000 ["law"] fa0 [] [] (w.withFollow "special-get-raises" true) := by
  intro os
  kernel_rfl
theorem run2 (w : World) : RunPart R 40000 ["law"] fa0 [] [] w := PySem.W.byRow2 "special-get-raises" (P := fun w => RunPart R 40000 ["law"] fa0 [] [] w) run2_false run2_true w
theorem run (w : World) : HandSHeadRun.RunEq R qv hk ob 40000 loose w := (run_app (fa := fa0) (fn := []) (ds := []) (run_app (fa := []) (fn := fn0) (ds := ds0) (run0 w) (run1 w)) (run2 w))
end DL
set_option maxHeartbeats 4000000
namespace DL
open PySem PySem.Spec PyProof.Rows L2
inductive W where
  | non | bl (b : Bool) | int (i : Int) | str (x : Str) | ty (n : String)
  | tup (xs : List W) | lst (xs : List W) | scr (ns : List Int)
  | dct (ks : List Key) (xs : List W) | ins (C : Addr) (ns : List Str) (xs : List W)
  | ref (a : Addr)
  | exc (a : Addr) (d : Option Addr) (ns : List Str) (xs : List W)
  | lam (f c : Addr) (q : Str) (vs : List V) (xs : List W)
  | dctT (ks : List (List Key)) (xs : List W)
inductive WO where
  | lst (xs : List W) | dK (kvs : List (Key × W)) | dT (kvs : List (List Key × W)) | ins (C dx : Addr) (fs : List (Str × W)) | own (x : Addr) | tup (xs : List W) | tab (q : Str) | tabF (ps : Array Value)
abbrev Sto := Addr → Option WO
def up (S : Sto) (a : Addr) (o : WO) : Sto := fun b => if b = a then some o else S b
theorem up_same {S : Sto} {a : Addr} {o : WO} : up S a o a = some o := by unfold up; rw [if_pos rfl]
theorem up_ne {S : Sto} {a b : Addr} {o : WO} (h : b ≠ a) : up S a o b = S b := by unfold up; rw [if_neg h]
theorem up_up {S : Sto} {a : Addr} {o u : WO} : up (up S a o) a u = up S a u := by
  funext b; unfold up; split <;> rfl
def del (S : Sto) (a : Addr) : Sto := fun b => if b = a then none else S b
theorem del_same {S : Sto} {a : Addr} : del S a a = none := by unfold del; rw [if_pos rfl]
theorem del_ne {S : Sto} {a b : Addr} (h : b ≠ a) : del S a b = S b := by unfold del; rw [if_neg h]
theorem del_new {S : Sto} {a : Addr} {o : WO} (h : S a = none) : del (up S a o) a = S := by
  funext b
  by_cases e : b = a
  · subst e; rw [del_same, h]
  · rw [del_ne e, up_ne e]
def svb (x : Str) : Bool := x.cps.all (fun c => decide (c < 1114112)) && decide (x.length ≤ sizeLine)
abbrev sv (x : Str) : Prop := svb x = true
theorem sv_iff {x : Str} : sv x ↔ (∀ c ∈ x.cps.toList, c < 1114112) ∧ x.length ≤ sizeLine := by
  unfold sv svb
  rw [Bool.and_eq_true, ← Array.all_toList, List.all_eq_true]
  constructor
  · intro h; exact ⟨fun c hc => of_decide_eq_true (h.1 c hc), of_decide_eq_true h.2⟩
  · intro h; exact ⟨fun c hc => decide_eq_true (h.1 c hc), decide_eq_true h.2⟩
def ScrAt (K : PySem.W.Frag) (S : Sto) (H : Hp) (a : Addr) (ns : List Int) : Prop := ((H a = some (.lst (ns.map V.int)) ∨ ∃ o, H a = some (.frz o (.lst (ns.map V.int)))) ∧ S a = none) ∨ ∃ (o : Obj) (its : Array Value) (n : Nat), K.lookup a = some o ∧ o.cls = .type "list" ∧ o.dict = none ∧ o.data = .seq its n ∧ its.size ≤ sizeLine ∧ Vals (ns.map V.int) its.toList
mutual
inductive RW (K : PySem.W.Frag) (S : Sto) (H : Hp) : W → V → Prop
  | non : RW K S H .non .non
  | bl (b : Bool) : RW K S H (.bl b) (.bl b)
  | int (i : Int) : RW K S H (.int i) (.int i)
  | str (x : Str) (ok : sv x) : RW K S H (.str x) (.str x)
  | ty (n : String) : RW K S H (.ty n) (.ty n)
  | tup {a : Addr} {ws : List W} {vs : List V} (h : H a = some (.tup vs)) (n : S a = none) (r : RWs K S H ws vs) : RW K S H (.tup ws) (.ref a)
  | tupK {a : Addr} {ws : List W} {vs : List V} (h : ∃ (o : Obj) (its : Array Value) (n : Nat), K.lookup a = some o ∧ o.cls = .type "tuple" ∧ o.data = .seq its n ∧ its.size ≤ sizeLine ∧ Vals vs its.toList) (r : RWs K S H ws vs) : RW K S H (.tup ws) (.ref a)
  | lst {a : Addr} {ws : List W} {vs : List V} (h : H a = some (.lst vs)) (n : S a = none) (r : RWs K S H ws vs) : RW K S H (.lst ws) (.ref a)
  | scr {a : Addr} {ns : List Int} (h : ScrAt K S H a ns) : RW K S H (.scr ns) (.ref a)
  | dct {a : Addr} {ks : List Key} {ws : List W} {vs : List V} (h : Rd H a (.dK (ks.zip vs))) (n : S a = none) (e : ks.length = vs.length) (r : RWs K S H ws vs) : RW K S H (.dct ks ws) (.ref a)
  | ins {a C dx : Addr} {ns : List Str} {ws : List W} {vs : List V} (h : H a = some (.ins C dx (ns.zip vs))) (o : H dx = some (.own a)) (n : S a = none) (m : S dx = none) (e : ns.length = vs.length) (r : RWs K S H ws vs) : RW K S H (.ins C ns ws) (.ref a)
  | ref (a : Addr) : RW K S H (.ref a) (.ref a)
  | excN (a : Addr) : RW K S H (.exc a none [] []) (.ref a)
  | exc {a d : Addr} {ns : List Str} {ws : List W} {vs : List V} (h : H d = some (.xd (ns.zip vs))) (n : S d = none) (e : ns.length = vs.length) (r : RWs K S H ws vs) : RW K S H (.exc a (some d) ns ws) (.ref a)
  | lam {f c : Addr} {q : Str} {vs : List V} {ws : List W} (h : H c = some (LamX.CodeO c q)) (n : S c = none) (r : RWs K S H ws vs) : RW K S H (.lam f c q vs ws) (.ref f)
  | dctT {a : Addr} {ks : List (List Key)} {ws : List W} {vs : List V} (h : H a = some (.dT (ks.zip vs))) (n : S a = none) (e : ks.length = vs.length) (r : RWs K S H ws vs) : RW K S H (.dctT ks ws) (.ref a)
inductive RWs (K : PySem.W.Frag) (S : Sto) (H : Hp) : List W → List V → Prop
  | nil : RWs K S H [] []
  | cons {w : W} {v : V} {ws : List W} {vs : List V} (h : RW K S H w v) (t : RWs K S H ws vs) : RWs K S H (w :: ws) (v :: vs)
end
abbrev RWp {κ : Type} (K : PySem.W.Frag) (S : Sto) (H : Hp) : List (κ × W) → List (κ × V) → Prop := Paired fun p q => p.1 = q.1 ∧ RW K S H p.2 q.2
structure Nx (S : Sto) (H : Hp) (S' : Sto) (H' : Hp) : Prop where
  keep : ∀ b o, H b = some o → S b = none → H' b = some o
  dom : ∀ b o, H b = some o → S b = none → S' b = none
theorem Nx.refl {S : Sto} {H : Hp} : Nx S H S H := ⟨fun _ _ h _ => h, fun _ _ _ h => h⟩
theorem Nx.trans {S S1 S2 : Sto} {H H1 H2 : Hp} (a : Nx S H S1 H1) (b : Nx S1 H1 S2 H2) : Nx S H S2 H2 :=
  ⟨fun x o h n => b.keep x o (a.keep x o h n) (a.dom x o h n), fun x o h n => b.dom x o (a.keep x o h n) (a.dom x o h n)⟩
section
variable {K : PySem.W.Frag} {S S' : Sto} {H H' : Hp}
mutual
theorem RW.mono (x : Nx S H S' H') : ∀ {w : W} {v : V}, RW K S H w v → RW K S' H' w v
  | _, _, .non => .non
  | _, _, .bl b => .bl b
  | _, _, .int i => .int i
  | _, _, .str y ok => .str y ok
  | _, _, .ty n => .ty n
  | _, _, .tup h n r => .tup (x.keep _ _ h n) (x.dom _ _ h n) (RWs.mono x r)
  | _, _, .tupK h r => .tupK h (RWs.mono x r)
  | _, _, .lst h n r => .lst (x.keep _ _ h n) (x.dom _ _ h n) (RWs.mono x r)
  | _, _, .scr h => .scr (h.elim (fun ⟨z, n⟩ => .inl ⟨z.elim (fun z => .inl (x.keep _ _ z n)) fun ⟨o, z⟩ => .inr ⟨o, x.keep _ _ z n⟩, z.elim (fun z => x.dom _ _ z n) fun ⟨o, z⟩ => x.dom _ _ z n⟩) .inr)
  | _, _, .dct h n e r => .dct (h.elim (fun z => .inl (x.keep _ _ z n)) fun ⟨o, z⟩ => .inr ⟨o, x.keep _ _ z n⟩) (h.elim (fun z => x.dom _ _ z n) fun ⟨o, z⟩ => x.dom _ _ z n) e (RWs.mono x r)
  | _, _, .ins h o n m e r => .ins (x.keep _ _ h n) (x.keep _ _ o m) (x.dom _ _ h n) (x.dom _ _ o m) e (RWs.mono x r)
  | _, _, .ref a => .ref a
  | _, _, .excN a => .excN a
  | _, _, .exc h n e r => .exc (x.keep _ _ h n) (x.dom _ _ h n) e (RWs.mono x r)
  | _, _, .lam h n r => .lam (x.keep _ _ h n) (x.dom _ _ h n) (RWs.mono x r)
  | _, _, .dctT h n e r => .dctT (x.keep _ _ h n) (x.dom _ _ h n) e (RWs.mono x r)
theorem RWs.mono (x : Nx S H S' H') : ∀ {ws : List W} {vs : List V}, RWs K S H ws vs → RWs K S' H' ws vs
  | _, _, .nil => .nil
  | _, _, .cons h t => .cons (RW.mono x h) (RWs.mono x t)
end
theorem RWp.mono {κ : Type} (x : Nx S H S' H') {fs : List (κ × W)} {gs : List (κ × V)} (h : RWp K S H fs gs) : RWp K S' H' fs gs := Paired.mapP h fun _ _ r => ⟨r.1, r.2.mono x⟩
theorem RWs.len : ∀ {ws : List W} {vs : List V}, RWs K S H ws vs → ws.length = vs.length
  | _, _, .nil => rfl
  | _, _, .cons _ t => congrArg Nat.succ (RWs.len t)
theorem RWs.app : ∀ {ws us : List W} {vs zs : List V}, RWs K S H ws vs → RWs K S H us zs → RWs K S H (ws ++ us) (vs ++ zs)
  | _, _, _, _, .nil, t => t
  | _, _, _, _, .cons h r, t => .cons h (RWs.app r t)
theorem RWs.get : ∀ {ws : List W} {vs : List V} {i : Nat} {w : W}, RWs K S H ws vs → ws[i]? = some w → ∃ v, vs[i]? = some v ∧ RW K S H w v
  | _, _, i, _, .nil, e => by simp at e
  | _, _, 0, _, .cons h _, e => by simp at e; subst e; exact ⟨_, rfl, h⟩
  | _, _, i + 1, w, .cons _ t, e => RWs.get (i := i) t (by simpa using e)
theorem RWs.get' : ∀ {ws : List W} {vs : List V} {i : Nat} {v : V}, RWs K S H ws vs → vs[i]? = some v → ∃ w, ws[i]? = some w ∧ RW K S H w v
  | _, _, i, _, .nil, e => by simp at e
  | _, _, 0, _, .cons h _, e => by simp at e; subst e; exact ⟨_, rfl, h⟩
  | _, _, i + 1, w, .cons _ t, e => RWs.get' (i := i) t (by simpa using e)
theorem RWs.set {w : W} {v : V} (h : RW K S H w v) : ∀ {ws : List W} {vs : List V} (i : Nat), RWs K S H ws vs → RWs K S H (ws.set i w) (vs.set i v)
  | _, _, _, .nil => .nil
  | _, _, 0, .cons _ t => .cons h t
  | _, _, i + 1, .cons q t => .cons q (RWs.set h i t)
theorem RWs.drop : ∀ {ws : List W} {vs : List V} (n : Nat), RWs K S H ws vs → RWs K S H (ws.drop n) (vs.drop n)
  | _, _, 0, r => r
  | _, _, _ + 1, .nil => .nil
  | _, _, n + 1, .cons _ t => RWs.drop n t
theorem RWs.take : ∀ {ws : List W} {vs : List V} (n : Nat), RWs K S H ws vs → RWs K S H (ws.take n) (vs.take n)
  | _, _, 0, _ => .nil
  | _, _, _ + 1, .nil => .nil
  | _, _, n + 1, .cons h t => .cons h (RWs.take n t)
theorem RWs.ints (ns : List Int) : RWs K S H (ns.map W.int) (ns.map V.int) := by
  induction ns with
  | nil => exact .nil
  | cons n ns ih => exact .cons (.int n) ih
theorem RWs.bls_inv : ∀ {ns : List Bool} {vs : List V}, RWs K S H (ns.map W.bl) vs → vs = ns.map V.bl
  | [], _, .nil => rfl
  | n :: ns, _, .cons h t => by cases h; rw [RWs.bls_inv t]; rfl
theorem RWs.strs {ns : List Str} (h : ∀ x ∈ ns, sv x) : RWs K S H (ns.map W.str) (ns.map V.str) := by
  induction ns with
  | nil => exact .nil
  | cons n ns ih => exact .cons (.str n (h n (List.mem_cons_self ..))) (ih fun x hx => h x (List.mem_cons_of_mem _ hx))
theorem RWs.strs_inv : ∀ {ns : List Str} {vs : List V}, RWs K S H (ns.map W.str) vs → vs = ns.map V.str
  | [], _, .nil => rfl
  | n :: ns, _, .cons h t => by cases h; rw [RWs.strs_inv t]; rfl
theorem RWp.fst {κ : Type} {fs : List (κ × W)} {gs : List (κ × V)} (r : RWp K S H fs gs) : fs.map (·.1) = gs.map (·.1) := by
  induction r with
  | nil => rfl
  | cons h t ih => simp only [List.map_cons, h.1, ih]
theorem RWp.snd {κ : Type} {fs : List (κ × W)} {gs : List (κ × V)} (r : RWp K S H fs gs) : RWs K S H (fs.map (·.2)) (gs.map (·.2)) := by
  induction r with
  | nil => exact .nil
  | cons h t ih => exact .cons h.2 ih
theorem RWp.len {κ : Type} {fs : List (κ × W)} {gs : List (κ × V)} (r : RWp K S H fs gs) : fs.length = gs.length := Paired.length r
theorem RWp.zip {κ : Type} {ks : List κ} {ws : List W} {vs : List V} (e : ks.length = vs.length) (r : RWs K S H ws vs) : RWp K S H (ks.zip ws) (ks.zip vs) := by
  induction ks generalizing ws vs with
  | nil => exact .nil
  | cons k ks ih =>
    cases r with
    | nil => cases e
    | cons h t => exact .cons ⟨rfl, h⟩ (ih (by simpa using e) t)
theorem RWp.look {κ : Type} [BEq κ] [LawfulBEq κ] {fs : List (κ × W)} {gs : List (κ × V)} {f : κ} {w : W} (r : RWp K S H fs gs) (e : fs.lookup f = some w) : ∃ v, gs.lookup f = some v ∧ RW K S H w v := by
  induction r with
  | nil => cases e
  | @cons p q fs gs h t ih =>
    obtain ⟨p1, p2⟩ := p
    obtain ⟨q1, q2⟩ := q
    obtain ⟨h1, h2⟩ := h
    simp only at h1 h2
    subst h1
    rw [List.lookup_cons] at e ⊢
    cases hb : f == p1 with
    | true => rw [hb] at e; simp only at e ⊢; cases e; exact ⟨_, rfl, h2⟩
    | false => rw [hb] at e; simp only at e ⊢; exact ih e
theorem RWp.lookN {κ : Type} [BEq κ] [LawfulBEq κ] {fs : List (κ × W)} {gs : List (κ × V)} {f : κ} (r : RWp K S H fs gs) (e : fs.lookup f = none) : gs.lookup f = none := by
  induction r with
  | nil => rfl
  | @cons p q fs gs h t ih =>
    obtain ⟨p1, p2⟩ := p
    obtain ⟨q1, q2⟩ := q
    obtain ⟨h1, h2⟩ := h
    simp only at h1 h2
    subst h1
    rw [List.lookup_cons] at e ⊢
    cases hb : f == p1 with
    | true => rw [hb] at e; cases e
    | false => rw [hb] at e; simp only at e ⊢; exact ih e
end
inductive RO (K : PySem.W.Frag) (S : Sto) (H : Hp) (a : Addr) : WO → Prop
  | lst {ws : List W} {vs : List V} (h : H a = some (.lst vs)) (r : RWs K S H ws vs) : RO K S H a (.lst ws)
  | dK {kvs : List (Key × W)} {gs : List (Key × V)} (h : H a = some (.dK gs)) (r : RWp K S H kvs gs) : RO K S H a (.dK kvs)
  | dT {kvs : List (List Key × W)} {gs : List (List Key × V)} (h : H a = some (.dT gs)) (r : RWp K S H kvs gs) : RO K S H a (.dT kvs)
  | ins {C dx : Addr} {fs : List (Str × W)} {gs : List (Str × V)} (h : H a = some (.ins C dx gs)) (m : S dx = some (.own a)) (r : RWp K S H fs gs) : RO K S H a (.ins C dx fs)
  | own {x : Addr} (h : H a = some (.own x)) : RO K S H a (.own x)
  | tup {ws : List W} {vs : List V} (h : H a = some (.tup vs)) (r : RWs K S H ws vs) : RO K S H a (.tup ws)
  | tab {q : Str} {ps : Array Value} (h : H a = some (.tbl ps)) (t : TriplesOk ps.toList) (c : ∀ (pos : Pos) (cv : Value), codeAmong pos ps.toList = some cv → ∃ c, cv = .ref c ∧ H c = some (LamX.CodeO c q) ∧ S c = none) : RO K S H a (.tab q)
  | tabF {ps : Array Value} (h : H a = some (.tbl ps)) : RO K S H a (.tabF ps)
def Rel (K : PySem.W.Frag) (S : Sto) (H : Hp) : Prop := ∀ a o, S a = some o → RO K S H a o
section
variable {K : PySem.W.Frag} {S S' : Sto} {H H' : Hp} {a b : Addr}
theorem Rel.ne (r : Rel K S H) {o : WO} (h : S a = some o) (n : H b = none) : b ≠ a := by
  intro e; subst e
  cases r _ _ h with
  | lst q _ => rw [n] at q; cases q
  | dK q _ => rw [n] at q; cases q
  | dT q _ => rw [n] at q; cases q
  | ins q _ _ => rw [n] at q; cases q
  | own q => rw [n] at q; cases q
  | tup q _ => rw [n] at q; cases q
  | tab q _ _ => rw [n] at q; cases q
  | tabF q => rw [n] at q; cases q
theorem Rel.free (r : Rel K S H) (n : H b = none) : S b = none := by
  cases h : S b with
  | none => rfl
  | some o => exact absurd rfl (r.ne h n)
theorem RO.mono {o : WO} (x : Nx S H S' H') (h : RO K S H a o) (ha : H' a = H a) (hd : ∀ d, S d = some (.own a) → S' d = some (.own a)) : RO K S' H' a o := by
  cases h with
  | lst h r => exact .lst (ha.trans h) (r.mono x)
  | dK h r => exact .dK (ha.trans h) (RWp.mono x r)
  | dT h r => exact .dT (ha.trans h) (RWp.mono x r)
  | ins h m r => exact .ins (ha.trans h) (hd _ m) (RWp.mono x r)
  | own h => exact .own (ha.trans h)
  | tup h r => exact .tup (ha.trans h) (r.mono x)
  | tab h t c => exact .tab (ha.trans h) t fun pos cv hc => let ⟨c, e1, e2, e3⟩ := c pos cv hc; ⟨c, e1, x.keep _ _ e2 e3, x.dom _ _ e2 e3⟩
  | tabF h => exact .tabF (ha.trans h)
theorem Nx.new {o : HO} (n : H a = none) : Nx S H S (upd H a o) := ⟨fun b u h _ => by rw [upd_ne (ne_of_none h n)]; exact h, fun _ _ _ h => h⟩
theorem Rel.new {o : HO} (r : Rel K S H) (n : H a = none) : Rel K S (upd H a o) := fun b u h => (r b u h).mono (Nx.new n) (upd_ne fun e => (r.ne h n) e.symm) fun _ h => h
theorem Nx.newS {o : HO} {u : WO} (n : H a = none) : Nx S H (up S a u) (upd H a o) := ⟨fun b u h _ => by rw [upd_ne (ne_of_none h n)]; exact h, fun b _ h q => by rw [up_ne (ne_of_none h n)]; exact q⟩
theorem Rel.newS {o : HO} {u : WO} (r : Rel K S H) (n : H a = none) (h : RO K (up S a u) (upd H a o) a u) : Rel K (up S a u) (upd H a o) := fun b u' q => by
  by_cases e : b = a
  · subst e; rw [up_same] at q; cases q; exact h
  · rw [up_ne e] at q
    refine (r b u' q).mono (Nx.newS n) (upd_ne e) fun d hd => ?_
    rw [up_ne fun e => r.ne hd n e.symm]
    exact hd
theorem Nx.wr {o : HO} {u u' : WO} (h : S a = some u) : Nx S H (up S a u') (upd H a o) :=
  ⟨fun b _ hb q => by rw [upd_ne fun e => by subst e; rw [h] at q; cases q]; exact hb, fun b _ _ q => by rw [up_ne fun e => by subst e; rw [h] at q; cases q]; exact q⟩
theorem Rel.wr {o : HO} {u u' : WO} (r : Rel K S H) (h : S a = some u) (hn : ∀ x, u ≠ .own x) (q : RO K (up S a u') (upd H a o) a u') : Rel K (up S a u') (upd H a o) := fun b v hb => by
  by_cases e : b = a
  · subst e; rw [up_same] at hb; cases hb; exact q
  · rw [up_ne e] at hb
    refine (r b v hb).mono (Nx.wr h) (upd_ne e) fun d hd => ?_
    rw [up_ne fun e => by subst e; rw [h] at hd; cases hd; exact hn _ rfl]
    exact hd
theorem Nx.forget : Nx S H (del S a) H := ⟨fun _ _ h _ => h, fun b o _ n => by
    by_cases e : b = a
    · subst e; exact del_same
    · rw [del_ne e]; exact n⟩
theorem Rel.forget {o : WO} (r : Rel K S H) (h : S a = some o) (hn : ∀ x, o ≠ .own x) : Rel K (del S a) H := fun b u hb => by
  have hne : b ≠ a := fun e => by subst e; rw [del_same] at hb; cases hb
  rw [del_ne hne] at hb
  refine (r b u hb).mono Nx.forget rfl fun d hd => ?_
  rw [del_ne fun e => by subst e; rw [h] at hd; cases hd; exact hn _ rfl]
  exact hd
end
abbrev XD := Value → Option (List (Str × W)) → List (Option W) → Sto → Prop
structure Om where
  s : List (Option W)
  ex : XD
def Om.set (ω : Om) (i : Nat) (w : Option W) : Om := ⟨ω.s.set i w, ω.ex⟩
abbrev WQ := W → Sto → Prop
abbrev DE' := Om → Sto → WQ → Prop
abbrev DT' := Om → Sto → (Bool → Sto → Prop) → Prop
abbrev DA' := Om → Sto → (List W → Sto → Prop) → Prop
structure Out where
  nx : Om → Sto → Prop
  rt : WQ
  bk : Om → Sto → Prop := fun _ _ => False
  ct : Om → Sto → Prop := fun _ _ => False
abbrev DS' := Out → Om → Sto → Prop
structure RS (K : PySem.W.Frag) (S : Sto) (H : Hp) (σ : L2.St) (ω : List (Option W)) : Prop where
  len : σ.length = ω.length
  at' : ∀ (i : Nat) (w : W), ω[i]? = some (some w) → ∃ v, σ[i]? = some (some v) ∧ RW K S H w v
section
variable {K : PySem.W.Frag} {S S' : Sto} {H H' : Hp} {σ : L2.St} {ω : List (Option W)}
theorem RS.mono (x : Nx S H S' H') (r : RS K S H σ ω) : RS K S' H' σ ω := ⟨r.len, fun i w h => let ⟨v, e, q⟩ := r.at' i w h; ⟨v, e, q.mono x⟩⟩
theorem RS.set {w : W} {v : V} (r : RS K S H σ ω) (h : RW K S H w v) (i : Nat) : RS K S H (σ.set i (some v)) (ω.set i (some w)) := by
  refine ⟨by rw [List.length_set, List.length_set]; exact r.len, fun j u e => ?_⟩
  by_cases hj : i = j
  · subst hj
    rw [List.getElem?_set] at e ⊢
    simp only [if_true] at e ⊢
    by_cases hl : i < ω.length
    · rw [if_pos hl] at e
      cases e
      rw [if_pos (by rw [r.len]; exact hl)]
      exact ⟨v, rfl, h⟩
    · rw [if_neg hl] at e; cases e
  · rw [List.getElem?_set_ne hj] at e ⊢
    exact r.at' j u e
end
def Xr (K : PySem.W.Frag) (S : Sto) (H : Hp) : Option (List (Str × W)) → Option Addr → Prop
  | none, none => True
  | some fs, some d => ∃ gs, H d = some (.xd gs) ∧ S d = none ∧ RWp K S H fs gs
  | _, _ => False
def FinW (K : PySem.W.Frag) (Z : WX) (S : Sto) (H : Hp) (ex : XD) : Prop := ∀ c fs l S' σ' H' d, Nx S H S' H' → Rel K S' H' → RS K S' H' σ' l → Xr K S' H' fs d → ex c fs l S' → Z c d σ' H'
def XF : XD := fun _ _ _ _ => False
abbrev Z0 : WX := fun _ _ _ _ => False
theorem FinW.to {K : PySem.W.Frag} {Z : WX} {S S' : Sto} {H H' : Hp} {ex : XD} (f : FinW K Z S H ex) (x : Nx S H S' H') : FinW K Z S' H' ex := fun c fs l S2 σ2 H2 d y => f c fs l S2 σ2 H2 d (x.trans y)
theorem FinW.zero {K : PySem.W.Frag} {Z : WX} {S : Sto} {H : Hp} : FinW K Z S H XF := fun _ _ _ _ _ _ _ _ _ _ _ h => h.elim
structure At (K : PySem.W.Frag) (Z : WX) (S : Sto) (H : Hp) (σ : L2.St) (ω : Om) : Prop where
  rel : Rel K S H
  rs : RS K S H σ ω.s
  fx : FinW K Z S H ω.ex
theorem At.to {K : PySem.W.Frag} {Z : WX} {S S' : Sto} {H H' : Hp} {σ : L2.St} {ω : Om} (a : At K Z S H σ ω) (x : Nx S H S' H') (r : Rel K S' H') : At K Z S' H' σ ω := ⟨r, a.rs.mono x, a.fx.to x⟩
def Fin (K : PySem.W.Frag) (S : Sto) (H : Hp) (Qd : WQ) (Q : VK) : Prop := ∀ w S' v H', Nx S H S' H' → Rel K S' H' → RW K S' H' w v → Qd w S' → Q v H'
def uE (K : PySem.W.Frag) (Z : WX) (td : DE') : TE := fun σ H Q => ∃ ω S Qd, At K Z S H σ ω ∧ td ω S Qd ∧ Fin K S H Qd Q
def uT (K : PySem.W.Frag) (Z : WX) (td : DT') : TT := fun σ H Q => ∃ (ω : Om) (S : Sto) (Qd : Bool → Sto → Prop), At K Z S H σ ω ∧ td ω S Qd ∧ ∀ b S' H', Nx S H S' H' → Rel K S' H' → Qd b S' → Q b H'
def uA (K : PySem.W.Frag) (Z : WX) (td : DA') : TA := fun σ H Q => ∃ (ω : Om) (S : Sto) (Qd : List W → Sto → Prop), At K Z S H σ ω ∧ td ω S Qd ∧ ∀ ws S' vs H', Nx S H S' H' → Rel K S' H' → RWs K S' H' ws vs → Qd ws S' → Q vs H'
structure FinS (K : PySem.W.Frag) (Z : WX) (S : Sto) (H : Hp) (Dd : Out) (D : Ends) : Prop where
  nx : ∀ ω' S' σ' H', Nx S H S' H' → At K Z S' H' σ' ω' → Dd.nx ω' S' → D.nx σ' H'
  rt : ∀ w S' v H', Nx S H S' H' → Rel K S' H' → RW K S' H' w v → Dd.rt w S' → D.rt v H'
  bk : ∀ ω' S' σ' H', Nx S H S' H' → At K Z S' H' σ' ω' → Dd.bk ω' S' → D.bk σ' H'
  ct : ∀ ω' S' σ' H', Nx S H S' H' → At K Z S' H' σ' ω' → Dd.ct ω' S' → D.ct σ' H'
theorem FinS.to {K : PySem.W.Frag} {Z : WX} {S S' : Sto} {H H' : Hp} {Dd : Out} {D : Ends} (f : FinS K Z S H Dd D) (x : Nx S H S' H') : FinS K Z S' H' Dd D :=
  ⟨fun ω' S2 σ' H2 y => f.nx ω' S2 σ' H2 (x.trans y), fun w S2 v H2 y => f.rt w S2 v H2 (x.trans y), fun ω' S2 σ' H2 y => f.bk ω' S2 σ' H2 (x.trans y), fun ω' S2 σ' H2 y => f.ct ω' S2 σ' H2 (x.trans y)⟩
def uS (K : PySem.W.Frag) (Z : WX) (td : DS') : TS := fun D σ H => ∃ ω S Dd, At K Z S H σ ω ∧ td Dd ω S ∧ FinS K Z S H Dd D
theorem PE.im {X : Cx} {e : Expr} {t t' : TE} (h : PE X e t) (i : ∀ σ H Q, t' σ H Q → t σ H Q) : PE X e t' := ⟨fun pins s σ H Q I q => h.run pins s σ H Q I (i σ H Q q)⟩
theorem PT.im {X : Cx} {e : Expr} {t t' : TT} (h : PT X e t) (i : ∀ σ H Q, t' σ H Q → t σ H Q) : PT X e t' := ⟨fun pins s σ H Q I q => h.run pins s σ H Q I (i σ H Q q)⟩
theorem PW.im {X : Cx} {e : Expr} {t t' : TT} (h : PW X e t) (i : ∀ σ H Q, t' σ H Q → t σ H Q) : PW X e t' := ⟨fun wh pins s σ H Q I q => h.run wh pins s σ H Q I (i σ H Q q)⟩
theorem PA.im {X : Cx} {e : List Expr} {t t' : TA} (h : PA X e t) (i : ∀ σ H Q, t' σ H Q → t σ H Q) : PA X e t' := ⟨fun pos pins s σ H Q I q => h.run pos pins s σ H Q I (i σ H Q q)⟩
theorem PK.im {X : Cx} {e : List Keyword} {t t' : TA} (h : PK X e t) (i : ∀ σ H Q, t' σ H Q → t σ H Q) : PK X e t' := ⟨fun pos pins s σ H Q I q => h.run pos pins s σ H Q I (i σ H Q q)⟩
theorem PS.im {X : Cx} {e : Stmt} {t t' : TS} (h : PS X e t) (i : ∀ D σ H, t' D σ H → t D σ H) : PS X e t' := ⟨fun pins s σ H D I q => h.run pins s σ H D I (i D σ H q)⟩
theorem PSs.im {X : Cx} {e : List Stmt} {t t' : TS} (h : PSs X e t) (i : ∀ D σ H, t' D σ H → t D σ H) : PSs X e t' := ⟨fun pins s σ H D I q => h.run pins s σ H D I (i D σ H q)⟩
abbrev DE (X : Cx) (Z : WX) (e : Expr) (td : DE') : Prop := PE X e (uE X.K Z td)
abbrev DT (X : Cx) (Z : WX) (e : Expr) (td : DT') : Prop := PT X e (uT X.K Z td)
abbrev DWt (X : Cx) (Z : WX) (e : Expr) (td : DT') : Prop := PW X e (uT X.K Z td)
abbrev DA (X : Cx) (Z : WX) (e : List Expr) (td : DA') : Prop := PA X e (uA X.K Z td)
abbrev DKw (X : Cx) (Z : WX) (e : List Keyword) (td : DA') : Prop := PK X e (uA X.K Z td)
abbrev DS (X : Cx) (Z : WX) (e : Stmt) (td : DS') : Prop := PS X e (uS X.K Z td)
abbrev DSs (X : Cx) (Z : WX) (e : List Stmt) (td : DS') : Prop := PSs X e (uS X.K Z td)
theorem sz_of {n : Nat} (h : n ≤ 1000000) : n ≤ sizeLine := Nat.le_trans h (by decide)
theorem sz_lt {n : Nat} (h : n < 1000000) : n < sizeLine := Nat.lt_of_lt_of_le h (by decide)
def view (S : Sto) : W → W
  | .ref a => match S a with
    | some (.lst xs) => .lst xs
    | some (.dK kvs) => .dct (kvs.map (·.1)) (kvs.map (·.2))
    | _ => .ref a
  | w => w
section
variable {K : PySem.W.Frag} {S : Sto} {H : Hp} {w : W} {v : V} {xs : List W}
theorem view_lst (r : Rel K S H) (h : RW K S H w v) (e : view S w = .lst xs) : ∃ a vs, v = .ref a ∧ H a = some (.lst vs) ∧ RWs K S H xs vs := by
  cases h <;> simp only [view] at e <;> try cases e
  case lst a vs h n q => exact ⟨_, _, rfl, h, q⟩
  case ref a =>
    split at e
    · rename_i ys hs
      cases e
      cases r _ _ hs with
      | lst h q => exact ⟨_, _, rfl, h, q⟩
    all_goals cases e
theorem zip_prod {κ : Type} : ∀ kvs : List (κ × W), (kvs.map (·.1)).zip (kvs.map (·.2)) = kvs
  | [] => rfl
  | (k, w) :: t => by rw [List.map_cons, List.map_cons, List.zip_cons_cons, zip_prod t]
theorem view_dct {ks : List Key} (r : Rel K S H) (h : RW K S H w v) (e : view S w = .dct ks xs) : ∃ a gs, v = .ref a ∧ Rd H a (.dK gs) ∧ RWp K S H (ks.zip xs) gs ∧ ks.length = xs.length := by
  cases h <;> simp only [view] at e <;> try cases e
  case dct => exact ⟨_, _, rfl, by assumption, RWp.zip (by assumption) (by assumption), (by assumption : _ = _).trans (RWs.len (by assumption)).symm⟩
  case ref a =>
    split at e
    · cases e
    · rename_i kvs hs
      cases e
      cases r _ _ hs with
      | dK h q => exact ⟨_, _, rfl, .inl h, by rw [zip_prod]; exact q, by simp⟩
    · cases e
theorem view_dctR {a : Addr} {ks : List Key} (r : Rel K S H) (e : view S (.ref a) = .dct ks xs) : ∃ gs, H a = some (.dK gs) ∧ RWp K S H (ks.zip xs) gs ∧ ks.length = xs.length := by
  simp only [view] at e
  split at e
  · cases e
  · rename_i kvs hs
    cases e
    cases r _ _ hs with
    | dK h q => exact ⟨_, h, by rw [zip_prod]; exact q, by simp⟩
  · cases e
theorem view_tup (h : RW K S H w v) (e : view S w = .tup xs) : ∃ a vs, v = .ref a ∧ SqT K H a vs ∧ RWs K S H xs vs := by
  cases h <;> simp only [view] at e <;> try cases e
  case tup a vs h n q => exact ⟨_, _, rfl, .inl (.inl h), q⟩
  case tupK a vs h q => exact ⟨_, _, rfl, .inr h, q⟩
  case ref a => split at e <;> cases e
theorem view_scr {ns : List Int} (h : RW K S H w v) (e : view S w = .scr ns) : ∃ a, v = .ref a ∧ SqL K H a (ns.map V.int) := by
  cases h <;> simp only [view] at e <;> try cases e
  case scr h => exact ⟨_, rfl, h.elim (fun ⟨z, _⟩ => .inl z) .inr⟩
  case ref a => split at e <;> cases e
theorem view_str {x : Str} (h : RW K S H w v) (e : view S w = .str x) : v = .str x ∧ sv x := by
  cases h <;> simp only [view] at e <;> try cases e
  case str ok => exact ⟨rfl, ok⟩
  case ref a => split at e <;> cases e
end
def ζF (i : Nat) : DE' := fun ω S Q => match ω.s[i]? with
  | some (some w) => Q w S
  | _ => False
def dC (w : W) : DE' := fun _ S Q => Q w S
section
variable {X : Cx} {Z : WX}
theorem Fin.one {K : PySem.W.Frag} {S : Sto} {H : Hp} {Qd : WQ} {Q : VK} (f : Fin K S H Qd Q) (r : Rel K S H) {w : W} {v : V} (h : RW K S H w v) (q : Qd w S) : Q v H := f w S v H Nx.refl r h q
theorem dv (i : Nat) {x : Str} {pos : Pos} (hN : X.N[i]? = some x := by rfl) (hv : Vis X.env.scope x := by first | exact Or.inl rfl | exact Or.inr (Or.inl rfl) | exact Or.inr (Or.inr rfl)) (hd : (x == ("__debug__" : Str)) = false := by decide)
    (hcd : (x == ("__classdict__" : Str)) = false := by decide) : DE X Z (.Name x pos) (ζF i) := PE.im (pe_var hN hv hd hcd) fun σ H Q ⟨ω, S, Qd, a, h, f⟩ => by
  unfold ζF at h
  split at h
  · rename_i w e
    obtain ⟨v, ev, r⟩ := a.rs.at' i w e
    exact ⟨v, ev, f.one a.rel r h⟩
  · exact h.elim
theorem de_c {e : Expr} {v : V} {w : W} (h : PE X e (tC v)) (r : ∀ S H, RW X.K S H w v) : DE X Z e (dC w) := PE.im h fun σ H Q ⟨ω, S, Qd, a, q, f⟩ => f.one a.rel (r S H) q
theorem de_int {i : Int} {j pos} : DE X Z (.Constant (.int i) j pos) (dC (.int i)) := de_c pe_int fun _ _ => .int i
theorem de_bl {b : Bool} {j pos} : DE X Z (.Constant (.bool b) j pos) (dC (.bl b)) := de_c pe_bl fun _ _ => .bl b
theorem de_non {j pos} : DE X Z (.Constant .none j pos) (dC .non) := de_c pe_non fun _ _ => .non
theorem de_str {x : Str} {j pos} (ok : sv x := by decide +kernel) : DE X Z (.Constant (.str x) j pos) (dC (.str x)) := de_c pe_str fun _ _ => .str x ok
def GW (K : PySem.W.Frag) (mg : Str → Option Value) (x : Str) (w : W) : Prop := ∃ v u, mg x = some u ∧ RelV v u ∧ ∀ S H, RW K S H w v
theorem de_glob {x : Str} {w : W} {pos : Pos} (g : GW X.K X.mg x w) (hg : Gl X x := by rfl) (hd : (x == ("__debug__" : Str)) = false := by decide) : DE X Z (.Name x pos) (dC w) := by
  obtain ⟨v, u, hm, r, q⟩ := g
  exact de_c (pe_glob hg hm r hd) q
theorem de_ty {x : Str} {n : String} {pos : Pos} (hm : X.mg x = none) (hv : bootBuiltins x = some (.type n) := by decide +kernel) (hg : Gl X x := by rfl) (hn : x ≠ "__name__" := by decide) (hd : (x == ("__debug__" : Str)) = false := by decide) : DE X Z (.Name x pos) (dC (.ty n)) :=
  de_c (pe_bltn (v := .ty n) hg hm hv rfl hn hd) fun _ _ => .ty n
end
abbrev D2 := W → W → Sto → WQ → Prop
def uR (K : PySem.W.Frag) (rd : D2) : R2 := fun x y H Q => ∃ w1 w2 S Qd, Rel K S H ∧ RW K S H w1 x ∧ RW K S H w2 y ∧ rd w1 w2 S Qd ∧ Fin K S H Qd Q
def dOp (rd : D2) (ta tb : DE') : DE' := fun ω S Q => ta ω S fun x S1 => tb ω S1 fun y S2 => rd x y S2 Q
def dUn (rd : W → Sto → WQ → Prop) (ta : DE') : DE' := fun ω S Q => ta ω S fun x S1 => rd x S1 Q
theorem uOp {K : PySem.W.Frag} {rd : D2} {ta tb : DE'} {σ : L2.St} {H : Hp} {Q : VK} (h : uE K Z (dOp rd ta tb) σ H Q) : tOp (uR K rd) (uE K Z ta) (uE K Z tb) σ H Q := by
  obtain ⟨ω, S, Qd, a, h, f⟩ := h
  refine ⟨ω, S, _, a, h, fun w S1 v H1 x1 r1 q1 h1 => ?_⟩
  refine ⟨ω, S1, _, a.to x1 r1, h1, fun w2 S2 v2 H2 x2 r2 q2 h2 => ?_⟩
  exact ⟨w, w2, S2, Qd, r2, q1.mono x2, q2, h2, fun w S' v H' x r q h => f w S' v H' (x1.trans (x2.trans x)) r q h⟩
section
variable {X : Cx} {Z : WX} {a b c : Expr} {ta tb tc : DE'} {pos : Pos} {rd rd' : D2}
abbrev OD (X : Cx) (f : Value → Value → Sem Value) (rd : D2) : Prop := OpR X f (uR X.K rd)
theorem de_op {op : Operator} (ho : OD X (binaryOp op) rd) (ha : DE X Z a ta) (hb : DE X Z b tb) : DE X Z (.BinOp a op b pos) (dOp rd ta tb) := PE.im (pe_op ho ha hb) fun _ _ _ => uOp
theorem de_cmp {op : CmpOp} (ho : OD X (compareOp op) rd) (ha : DE X Z a ta) (hb : DE X Z b tb) (hm : behindInMarks op b = false := by first | exact nomark _ | rfl) : DE X Z (.Compare a [op] [b] pos) (dOp rd ta tb) := PE.im (pe_cmpR ho ha hb hm) fun _ _ _ => uOp
end
def dI (C : Int → Int → Prop) (g : Int → Int → W) : D2 := fun a b S Q => match a, b with
  | .int i, .int j => C i j ∧ Q (g i j) S
  | _, _ => False
def dI0 (g : Int → Int → W) : D2 := fun a b S Q => match a, b with
  | .int i, .int j => Q (g i j) S
  | _, _ => False
theorem OpR.im {X : Cx} {f : Value → Value → Sem Value} {r r' : R2} (h : OpR X f r) (i : ∀ x y H Q, r' x y H Q → r x y H Q) : OpR X f r' := fun pins s σ H x y v u Q I rx ry q => h pins s σ H x y v u Q I rx ry (i _ _ _ _ q)
theorem odI {X : Cx} {f : Value → Value → Sem Value} {C : Int → Int → Prop} {g : Int → Int → V} {gw : Int → Int → W} (h : OpR X f (rI C g)) (hg : ∀ K S H i j, RW K S H (gw i j) (g i j)) : OD X f (dI C gw) := OpR.im h fun x y H Q ⟨w1, w2, S, Qd, r, r1, r2, q, fi⟩ => by
  unfold dI at q
  split at q
  · cases r1; cases r2
    exact ⟨_, _, rfl, rfl, q.1, fi.one r (hg ..) q.2⟩
  · exact q.elim
theorem odI0 {X : Cx} {f : Value → Value → Sem Value} {g : Int → Int → V} {gw : Int → Int → W} (h : OpR X f (rI0 g)) (hg : ∀ K S H i j, RW K S H (gw i j) (g i j)) : OD X f (dI0 gw) := OpR.im h fun x y H Q ⟨w1, w2, S, Qd, r, r1, r2, q, fi⟩ => by
  unfold dI0 at q
  split at q
  · cases r1; cases r2
    exact ⟨_, _, rfl, rfl, fi.one r (hg ..) q⟩
  · exact q.elim
section
variable {X : Cx} {Z : WX}
def ζG : D2 := dI0 fun i j => .int (i - j)
theorem oa_sub : OD X (binaryOp .Sub) ζG := odI0 op_sub fun _ _ _ i j => .int _
def ζH : D2 := dI CMul fun i j => .int (i * j)
theorem oa_mul : OD X (binaryOp .Mult) ζH := odI op_mul fun _ _ _ i j => .int _
def ζI : D2 := dI CDiv fun i j => .int (i / j)
theorem oa_div : OD X (binaryOp .FloorDiv) ζI := odI op_fdiv fun _ _ _ i j => .int _
def ζJ : D2 := dI (fun _ j => 0 < j) fun i j => .int (i % j)
theorem oa_mod : OD X (binaryOp .Mod) ζJ := odI op_mod fun _ _ _ i j => .int _
def ζK : D2 := dI CPow fun i j => .int (i ^ j.toNat)
theorem oa_pow : OD X (binaryOp .Pow) ζK := odI op_pow fun _ _ _ i j => .int _
def ζL : D2 := fun a b S Q => match view S a, view S b with
  | .int i, .int j => Q (.int (i + j)) S
  | .str x, .str y => x.length + y.length ≤ 1000000 ∧ Q (.str (x ++ y)) S
  | .lst xs, .lst ys => xs.length + ys.length ≤ 1000000 ∧ Q (.lst (xs ++ ys)) S
  | .tup xs, .tup ys => xs.length + ys.length ≤ 1000000 ∧ Q (.tup (xs ++ ys)) S
  | _, _ => False
theorem str_app (a b : Str) : (a ++ b).length = a.length + b.length := Array.size_append
theorem sv_app {x y : Str} (hx : sv x) (hy : sv y) (h : x.length + y.length ≤ 1000000) : sv (x ++ y) := by
  rw [sv_iff] at hx hy ⊢
  refine ⟨fun c hc => ?_, by rw [str_app]; exact sz_of h⟩
  have e : (x ++ y).cps.toList = x.cps.toList ++ y.cps.toList := Array.toList_append
  rw [e, List.mem_append] at hc
  exact hc.elim (hx.1 c) (hy.1 c)
theorem view_int {K : PySem.W.Frag} {S : Sto} {H : Hp} {w : W} {v : V} {i : Int} (h : RW K S H w v) (e : view S w = .int i) : v = .int i := by
  cases h <;> simp only [view] at e <;> try cases e
  case int => rfl
  case ref a => split at e <;> cases e
theorem oa_add : OD X (binaryOp .Add) ζL := by
  intro pins s σ H x y v u Q I rx ry ⟨w1, w2, S, Qd, r, r1, r2, q, fi⟩
  unfold ζL at q
  split at q
  · rename_i i j e1 e2
    cases view_int r1 e1; cases view_int r2 e2
    exact op_add pins s σ H _ _ v u Q I rx ry ⟨_, _, rfl, rfl, fi.one r (.int _) q⟩
  · rename_i i j e1 e2
    obtain ⟨rfl, o1⟩ := view_str r1 e1
    obtain ⟨rfl, o2⟩ := view_str r2 e2
    exact op_add_str pins s σ H _ _ v u Q I rx ry ⟨_, _, rfl, rfl, sz_of q.1, fi.one r (.str _ (sv_app o1 o2 q.1)) q.2⟩
  · rename_i i j e1 e2
    obtain ⟨a, vs, rfl, h1, s1⟩ := view_lst r r1 e1
    obtain ⟨b, us, rfl, h2, s2⟩ := view_lst r r2 e2
    exact op_cat pins s σ H _ _ v u Q I rx ry ⟨a, b, vs, us, rfl, rfl, h1, h2, by rw [← s1.len, ← s2.len]; exact sz_of q.1, fun p np => fi _ _ _ _ (Nx.new np) (r.new np) (.lst upd_same (r.free np) ((s1.app s2).mono (Nx.new np))) q.2⟩
  · rename_i i j e1 e2
    obtain ⟨a, vs, rfl, h1, s1⟩ := view_tup r1 e1
    obtain ⟨b, us, rfl, h2, s2⟩ := view_tup r2 e2
    refine op_catA pins s σ H _ _ v u Q I rx ry ⟨a, b, vs, us, rfl, rfl, h1, h2, by rw [← s1.len, ← s2.len]; exact sz_of q.1, fun ev => ?_, fun _ ev => ?_, fun _ _ p np => fi _ _ _ _ (Nx.new np) (r.new np) (.tup upd_same (r.free np) ((s1.app s2).mono (Nx.new np))) q.2⟩
    · subst ev
      cases s1
      refine fi.one r ?_ q.2
      cases r2 <;> simp only [view] at e2 <;> try cases e2
      · rename_i hh nn rr; exact .tup hh nn rr
      · rename_i hh rr; exact .tupK hh rr
      · split at e2 <;> cases e2
    · subst ev
      cases s2
      refine fi.one r ?_ (by simpa using q.2)
      cases r1 <;> simp only [view] at e1 <;> try cases e1
      · rename_i hh nn rr; exact .tup hh nn rr
      · rename_i hh rr; exact .tupK hh rr
      · split at e1 <;> cases e1
  · exact q.elim
def ζM : W → Sto → WQ → Prop := fun a S Q => match a with
  | .int i => Q (.int (-i)) S
  | _ => False
theorem de_neg {a : Expr} {ta : DE'} {pos : Pos} (ha : DE X Z a ta) : DE X Z (.UnaryOp .USub a pos) (dUn ζM ta) := PE.im (pe_un un_neg ha) fun σ H Q h => by
  obtain ⟨ω, S, Qd, a, h, f⟩ := h
  refine ⟨ω, S, _, a, h, fun w S1 v H1 x1 r1 q1 h1 => ?_⟩
  unfold ζM at h1
  split at h1
  · cases q1; exact ⟨_, rfl, f _ _ _ _ x1 r1 (.int _) h1⟩
  · exact h1.elim
end
mutual
def pd : W → PyData
  | .non => .none
  | .bl b => .bool b
  | .int i => .int i
  | .str x => .str x
  | .tup xs => .tuple (pds xs)
  | .lst xs => .list (pds xs)
  | .scr ns => .list (ns.map PyData.int)
  | _ => .none
def pds : List W → List PyData
  | [] => []
  | w :: ws => pd w :: pds ws
end
mutual
def isD : W → Bool
  | .non | .bl _ | .int _ | .str _ | .scr _ => true
  | .tup xs | .lst xs => isDs xs
  | _ => false
def isDs : List W → Bool
  | [] => true
  | w :: ws => isD w && isDs ws
end
mutual
def dep : W → Nat
  | .tup xs | .lst xs => deps xs + 1
  | .scr _ => 1
  | _ => 0
def deps : List W → Nat
  | [] => 0
  | w :: ws => max (dep w) (deps ws)
end
def okD (w : W) : Bool := isD w && decide (dep w ≤ 60)
def weq (a b : W) : Bool := PyData.eqv (pd a) (pd b)
theorem pds_map (ws : List W) : pds ws = ws.map pd := by
  induction ws with
  | nil => rfl
  | cons w ws ih => rw [pds, ih]; rfl
theorem isDs_all (ws : List W) : isDs ws = ws.all isD := by
  induction ws with
  | nil => rfl
  | cons w ws ih => rw [isDs, ih]; rfl
theorem deps_le {ws : List W} {n : Nat} (h : ∀ w ∈ ws, dep w ≤ n) : deps ws ≤ n := by
  induction ws with
  | nil => exact Nat.zero_le _
  | cons w ws ih =>
    rw [deps]
    exact Nat.max_le.mpr ⟨h w (List.mem_cons_self ..), ih fun x hx => h x (List.mem_cons_of_mem _ hx)⟩
def ND (n : Nat) (w : W) : Prop := isD w = true ∧ dep w ≤ n
theorem ND.ok {n : Nat} {w : W} (h : ND n w) (hn : n ≤ 60) : okD w = true := by
  unfold okD
  rw [h.1, decide_eq_true (Nat.le_trans h.2 hn)]
  rfl
theorem ND.lst {n : Nat} {ws : List W} (h : ∀ w ∈ ws, ND n w) : ND (n + 1) (.lst ws) := by
  refine ⟨?_, ?_⟩
  · show isDs ws = true
    rw [isDs_all, List.all_eq_true]
    exact fun x hx => (h x hx).1
  · show deps ws + 1 ≤ n + 1
    exact Nat.succ_le_succ (deps_le fun w hw => (h w hw).2)
theorem ND.tup {n : Nat} {ws : List W} (h : ∀ w ∈ ws, ND n w) : ND (n + 1) (.tup ws) := by
  refine ⟨?_, ?_⟩
  · show isDs ws = true
    rw [isDs_all, List.all_eq_true]
    exact fun x hx => (h x hx).1
  · show deps ws + 1 ≤ n + 1
    exact Nat.succ_le_succ (deps_le fun w hw => (h w hw).2)
theorem ND.int {n : Nat} (i : Int) : ND n (.int i) := ⟨rfl, Nat.zero_le _⟩
section
variable {K : PySem.W.Frag} {S : Sto} {H : Hp}
mutual
theorem RW.dp : ∀ {w : W} {v : V}, RW K S H w v → isD w = true → Dp K H v (pd w) ∧ (pd w).canLay0 = true
  | _, _, .non, _ => ⟨.non, rfl⟩
  | _, _, .bl b, _ => ⟨.bl b, rfl⟩
  | _, _, .int i, _ => ⟨.int i, rfl⟩
  | _, _, .str x ok, _ => ⟨.str x, by
      have h := sv_iff.mp ok
      show x.cps.all (· < 0x110000) = true
      rw [← Array.all_toList, List.all_eq_true]
      exact fun c hc => decide_eq_true (h.1 c hc)⟩
  | _, _, .tup h n r, d => ⟨.tup (.inl (.inl h)) (RWs.dp r d).1, (RWs.dp r d).2⟩
  | _, _, .tupK h r, d => ⟨.tup (.inr h) (RWs.dp r d).1, (RWs.dp r d).2⟩
  | _, _, .lst h n r, d => ⟨.lst (.inl (.inl h)) (RWs.dp r d).1, (RWs.dp r d).2⟩
  | _, _, @RW.scr _ _ _ a ns h, d => ⟨.lst (h.elim (fun ⟨z, _⟩ => .inl z) .inr) (by
      clear h
      induction ns with
      | nil => exact .nil
      | cons i ns ih => exact .cons (.int i) (ih rfl)), by
      show PyData.canLayAll0 (ns.map PyData.int) = true
      clear h
      induction ns with
      | nil => rfl
      | cons i ns ih => rw [List.map_cons, PyData.canLayAll0, ih rfl]; rfl⟩
  | _, _, .ty n, d => nomatch d
  | _, _, .dct .., d => nomatch d
  | _, _, .ins .., d => nomatch d
  | _, _, .ref _, d => nomatch d
  | _, _, .excN _, d => nomatch d
  | _, _, .exc .., d => nomatch d
  | _, _, .lam .., d => nomatch d
  | _, _, .dctT .., d => nomatch d
theorem RWs.dp : ∀ {ws : List W} {vs : List V}, RWs K S H ws vs → isDs ws = true → DpAll K H vs (pds ws) ∧ PyData.canLayAll0 (pds ws) = true
  | _, _, .nil, _ => ⟨.nil, rfl⟩
  | _, _, @RWs.cons _ _ _ w v ws vs h t, d => by
    rw [isDs, Bool.and_eq_true] at d
    have q1 := RW.dp h d.1
    have q2 := RWs.dp t d.2
    refine ⟨.cons q1.1 q2.1, ?_⟩
    rw [pds, PyData.canLayAll0, q1.2, q2.2]
    rfl
end
mutual
theorem depth_pd : ∀ (w : W), (pd w).depth ≤ dep w
  | .non | .bl _ | .int _ | .str _ | .ty _ | .dct _ _ | .ins _ _ _ | .ref _ | .exc _ _ _ _ | .lam _ _ _ _ _ | .dctT _ _ => by simp [pd, PyData.depth]
  | .tup xs => by
    have := depth_pds xs
    show PyData.depthAll (pds xs) + 1 ≤ deps xs + 1
    omega
  | .lst xs => by
    have := depth_pds xs
    show PyData.depthAll (pds xs) + 1 ≤ deps xs + 1
    omega
  | .scr ns => by
    show PyData.depthAll (ns.map PyData.int) + 1 ≤ 1
    have : PyData.depthAll (ns.map PyData.int) = 0 := by
      induction ns with
      | nil => rfl
      | cons n ns ih => rw [List.map_cons, PyData.depthAll, ih]; rfl
    omega
theorem depth_pds : ∀ (ws : List W), PyData.depthAll (pds ws) ≤ deps ws
  | [] => Nat.le_refl _
  | w :: ws => by
    have h1 := depth_pd w
    have h2 := depth_pds ws
    rw [pds, PyData.depthAll, deps]
    omega
end
theorem RW.shaped {w : W} {v : V} (h : RW K S H w v) (d : okD w = true) : Dp K H v (pd w) ∧ SeqAt.shaped (pd w) = true := by
  unfold okD at d
  rw [Bool.and_eq_true] at d
  have q := h.dp d.1
  have := depth_pd w
  have d2 := of_decide_eq_true d.2
  refine ⟨q.1, ?_⟩
  show ((pd w).canLay0 && decide ((pd w).depth ≤ 64)) = true
  rw [q.2, decide_eq_true (by omega : (pd w).depth ≤ 64)]
  rfl
theorem view_dp {w : W} {v : V} (r : Rel K S H) (h : RW K S H w v) (d : okD (view S w) = true) : Dp K H v (pd (view S w)) ∧ SeqAt.shaped (pd (view S w)) = true := by
  cases e : view S w with
  | lst xs =>
    rw [e] at d
    obtain ⟨a, vs, rfl, h1, q⟩ := view_lst r h e
    have z : RW K (fun _ => none) H (.lst xs) (.ref a) → Dp K H (.ref a) (pd (.lst xs)) ∧ SeqAt.shaped (pd (.lst xs)) = true := fun z => z.shaped d
    unfold okD at d
    rw [Bool.and_eq_true] at d
    have q1 := q.dp d.1
    have := depth_pd (.lst xs)
    have d2 := of_decide_eq_true d.2
    refine ⟨.lst (.inl (.inl h1)) q1.1, ?_⟩
    show ((pd (.lst xs)).canLay0 && decide ((pd (.lst xs)).depth ≤ 64)) = true
    rw [show (pd (.lst xs)).canLay0 = true from q1.2, decide_eq_true (by omega : (pd (W.lst xs)).depth ≤ 64)]
    rfl
  | _ =>
    have e2 : view S w = w := by
      cases w with
      | ref a =>
        exfalso
        cases hs : S a with
        | none => simp [view, hs, okD, isD] at d
        | some o =>
          cases o with
          | lst ys => simp [view, hs] at e
          | _ => simp [view, hs, okD, isD] at d
      | _ => rfl
    rw [← e, e2]
    exact h.shaped (by rw [← e2]; exact d)
end
theorem weq_refl {w : W} (h : isD w = true) : weq w w = true := by
  have : ∀ d : PyData, (∀ x, d ≠ .dict x) → True := fun _ _ => trivial
  have key : ∀ w : W, isD w = true → PyData.eqv (pd w) (pd w) = true := by
    intro w
    refine W.rec (motive_1 := fun w => isD w = true → PyData.eqv (pd w) (pd w) = true) (motive_2 := fun ws => isDs ws = true → PyData.eqvAll (pds ws) (pds ws) = true) ?_ ?_ ?_ ?_ ?_ ?_ ?_ ?_ ?_ ?_ ?_ ?_ ?_ ?_ ?_ ?_ w
    · intro _; rfl
    · intro b _; simp [pd, PyData.eqv]
    · intro i _; simp [pd, PyData.eqv]
    · intro x _; simp [pd, PyData.eqv]
    · intro n h; cases h
    · intro xs ih h; rw [pd, PyData.eqv]; exact ih h
    · intro xs ih h; rw [pd, PyData.eqv]; exact ih h
    · intro ns _
      rw [pd, PyData.eqv]
      induction ns with
      | nil => rfl
      | cons n ns ih => rw [List.map_cons, PyData.eqvAll, ih rfl]; simp [PyData.eqv]
    · intro _ _ _ h; cases h
    · intro _ _ _ _ h; cases h
    · intro _ h; cases h
    · intro _ _ _ _ _ h; cases h
    · intro _ _ _ _ _ _ h; cases h
    · intro _ _ _ h; cases h
    · intro _; rfl
    · intro w ws h1 h2 h
      rw [isDs, Bool.and_eq_true] at h
      rw [pds, PyData.eqvAll, h1 h.1, h2 h.2]; rfl
  exact key w h
theorem hu65 {k : Nat} {A : Around} (hr : Room k A) : A.units + 65 < cLine := by have := hr.un; omega
section
variable {X : Cx} {Z : WX} {k : Nat}
def dEq : D2 := fun a b S Q => okD (view S a) = true ∧ okD (view S b) = true ∧ Q (.bl (weq (view S a) (view S b))) S
def dNe : D2 := fun a b S Q => okD (view S a) = true ∧ okD (view S b) = true ∧ Q (.bl (!weq (view S a) (view S b))) S
theorem oc_eq (hr : Room k X.A) : OD X (compareOp .Eq) dEq := OpR.im (op_eqD hr.units) fun x y H Q ⟨w1, w2, S, Qd, r, r1, r2, ⟨d1, d2, q⟩, fi⟩ =>
  ⟨_, _, (view_dp r r1 d1).1, (view_dp r r2 d2).1, (view_dp r r1 d1).2, (view_dp r r2 d2).2, fi.one r (.bl _) q⟩
theorem oc_ne (hr : Room k X.A) : OD X (compareOp .NotEq) dNe := OpR.im (op_neD hr.units) fun x y H Q ⟨w1, w2, S, Qd, r, r1, r2, ⟨d1, d2, q⟩, fi⟩ =>
  ⟨_, _, (view_dp r r1 d1).1, (view_dp r r2 d2).1, (view_dp r r1 d1).2, (view_dp r r2 d2).2, fi.one r (.bl _) q⟩
def wval {κ : Type} [DecidableEq κ] (kvs : List (κ × W)) (k : κ) : Option W := (kvs.find? fun kv => decide (kv.1 = k)).map (·.2)
def wput {κ : Type} [DecidableEq κ] (kvs : List (κ × W)) (k : κ) (v : W) : List (κ × W) := if (kvs.any fun kv => decide (kv.1 = k)) = true then kvs.map (fun kv => if kv.1 = k then (kv.1, v) else kv) else kvs ++ [(k, v)]
def wdrop {κ : Type} [DecidableEq κ] (kvs : List (κ × W)) (k : κ) : List (κ × W) := kvs.filter fun kv => decide (kv.1 ≠ k)
def wkey : W → Option Key
  | .int i => some (.inl i)
  | .str x => some (.inr x)
  | _ => none
theorem wkey_rel {K : PySem.W.Frag} {S : Sto} {H : Hp} {w : W} {v : V} {k : Key} (r : RW K S H w v) (h : wkey w = some k) : v = kV k := by
  cases r <;> simp only [wkey, Option.some.injEq] at h <;> first | (subst h; rfl) | cases h
theorem wval_rel {κ : Type} [DecidableEq κ] {K : PySem.W.Frag} {S : Sto} {H : Hp} {kvs : List (κ × W)} {gs : List (κ × V)} (r : RWp K S H kvs gs) (k : κ) : (∃ w v, wval kvs k = some w ∧ valV gs k = some v ∧ RW K S H w v) ∨ (wval kvs k = none ∧ valV gs k = none) := by
  induction r with
  | nil => exact .inr ⟨rfl, rfl⟩
  | @cons p q kvs gs h t ih =>
    obtain ⟨p1, p2⟩ := p
    obtain ⟨q1, q2⟩ := q
    obtain ⟨h1, h2⟩ := h
    simp only at h1 h2
    subst h1
    by_cases e : p1 = k
    · exact .inl ⟨p2, q2, by simp [wval, List.find?_cons, e], by simp [valV, List.find?_cons, e], h2⟩
    · have e1 : wval ((p1, p2) :: kvs) k = wval kvs k := by simp [wval, List.find?_cons, e]
      have e2 : valV ((p1, q2) :: gs) k = valV gs k := by simp [valV, List.find?_cons, e]
      rw [e1, e2]
      exact ih
def inW (S : Sto) (a b : W) : Option Bool := match view S b with
  | .lst xs => if okD a && okD (.lst xs) then some (xs.any fun y => weq y a) else none
  | .tup xs => if okD a && okD (.tup xs) then some (xs.any fun y => weq y a) else none
  | .str z => match a with
    | .str x => match x.cps.toList with
      | [c] => some (decide (c ∈ z.cps.toList))
      | _ => none
    | _ => none
  | .dct ks ws => match wkey a with
    | some k => some (wval (ks.zip ws) k).isSome
    | none => none
  | _ => none
def dIn : D2 := fun a b S Q => match inW S a b with
  | some r => Q (.bl r) S
  | none => False
def ζi : D2 := fun a b S Q => match inW S a b with
  | some r => Q (.bl (!r)) S
  | none => False
theorem any_pds (xs : List W) (a : W) : ((pds xs).any fun z => PyData.eqv z (pd a)) = xs.any fun y => weq y a := by
  rw [pds_map, List.any_map]
  rfl
theorem oc_in (hr : Room k X.A) : OD X (compareOp .In) dIn := by
  intro pins s σ H x y v u Q I rx ry ⟨w1, w2, S, Qd, r, r1, r2, q, fi⟩
  unfold dIn at q
  split at q
  · rename_i b e
    unfold inW at e
    split at e
    · rename_i xs ev
      split at e
      · rename_i ok
        cases e
        rw [Bool.and_eq_true] at ok
        have d1 := r1.shaped ok.1
        have d2 := view_dp r r2 (by rw [ev]; exact ok.2)
        rw [ev] at d2
        refine op_inD (hu65 hr) pins s σ H x y v u Q I rx ry ⟨_, _, d1.1, d2.1, d1.2, d2.2, ?_⟩
        rw [any_pds]
        exact fi.one r (.bl _) q
      · cases e
    · rename_i xs ev
      split at e
      · rename_i ok
        cases e
        rw [Bool.and_eq_true] at ok
        have d1 := r1.shaped ok.1
        have d2 := view_dp r r2 (by rw [ev]; exact ok.2)
        rw [ev] at d2
        obtain ⟨as, z1⟩ := Dp.reads I _ x v d1.1 rx
        obtain ⟨bs, z2⟩ := Dp.reads I _ y u d2.1 ry
        refine SeqAt.in_tuple_reads z2 z1 (SeqAt.canLay_of_shaped d2.2) (SeqAt.canLay_of_shaped d1.2) (room_in_shaped d1.2 (hu65 hr)) ⟨.bl _, H, I, rfl, ?_⟩
        rw [any_pds]
        exact fi.one r (.bl _) q
      · cases e
    · rename_i z ev
      obtain ⟨rfl, _⟩ := view_str r2 ev
      split at e
      · rename_i x'
        split at e
        · rename_i c ec
          cases e
          cases r1
          refine op_in_sign pins s σ H _ _ v u Q I rx ry ⟨c, z, ?_, rfl, fi.one r (.bl _) q⟩
          have : x' = ⟨#[c]⟩ := by
            obtain ⟨⟨l⟩⟩ := x'
            have : l = [c] := ec
            rw [this]
          rw [this]
        · cases e
      · cases e
    · rename_i ks ws ev
      split at e
      · rename_i k' hk
        cases e
        obtain ⟨a, gs, rfl, h1, rp, _⟩ := view_dct r r2 ev
        obtain rfl := wkey_rel r1 hk
        cases ry
        refine d_in (hu_of hr) I (.inl ⟨gs, k', h1, rfl, rfl⟩) rx fun s' I' => ⟨.bl _, H, I', rfl, ?_⟩
        rcases wval_rel rp k' with ⟨w, z, e1, e2, _⟩ | ⟨e1, e2⟩
        · rw [e2]; rw [e1] at q; exact fi.one r (.bl _) q
        · rw [e2]; rw [e1] at q; exact fi.one r (.bl _) q
      · cases e
    · cases e
  · exact q.elim
theorem oc_notin (hr : Room k X.A) : OD X (compareOp .NotIn) ζi := by
  intro pins s σ H x y v u Q I rx ry ⟨w1, w2, S, Qd, r, r1, r2, q, fi⟩
  unfold ζi at q
  split at q
  · rename_i b e
    unfold inW at e
    split at e
    · rename_i xs ev
      split at e
      · rename_i ok
        cases e
        rw [Bool.and_eq_true] at ok
        have d1 := r1.shaped ok.1
        have d2 := view_dp r r2 (by rw [ev]; exact ok.2)
        rw [ev] at d2
        refine op_notInD (hu65 hr) pins s σ H x y v u Q I rx ry ⟨_, _, d1.1, d2.1, d1.2, d2.2, ?_⟩
        rw [any_pds]
        exact fi.one r (.bl _) q
      · cases e
    · rename_i xs ev
      split at e
      · rename_i ok
        cases e
        rw [Bool.and_eq_true] at ok
        have d1 := r1.shaped ok.1
        have d2 := view_dp r r2 (by rw [ev]; exact ok.2)
        rw [ev] at d2
        obtain ⟨as, z1⟩ := Dp.reads I _ x v d1.1 rx
        obtain ⟨bs, z2⟩ := Dp.reads I _ y u d2.1 ry
        refine SeqAt.notIn_tuple_reads z2 z1 (SeqAt.canLay_of_shaped d2.2) (SeqAt.canLay_of_shaped d1.2) (room_in_shaped d1.2 (hu65 hr)) ⟨.bl _, H, I, rfl, ?_⟩
        rw [any_pds]
        exact fi.one r (.bl _) q
      · cases e
    · rename_i z ev
      obtain ⟨rfl, _⟩ := view_str r2 ev
      split at e
      · rename_i x'
        split at e
        · rename_i c ec
          cases e
          cases r1
          refine op_notIn_sign pins s σ H _ _ v u Q I rx ry ⟨c, z, ?_, rfl, fi.one r (.bl _) q⟩
          have : x' = ⟨#[c]⟩ := by
            obtain ⟨⟨l⟩⟩ := x'
            have : l = [c] := ec
            rw [this]
          rw [this]
        · cases e
      · cases e
    · rename_i ks ws ev
      split at e
      · rename_i k' hk
        cases e
        obtain ⟨a, gs, rfl, h1, rp, _⟩ := view_dct r r2 ev
        obtain rfl := wkey_rel r1 hk
        cases ry
        refine d_notIn (hu_of hr) I (.inl ⟨gs, k', h1, rfl, rfl⟩) rx fun s' I' => ⟨.bl _, H, I', rfl, ?_⟩
        rcases wval_rel rp k' with ⟨w, z, e1, e2, _⟩ | ⟨e1, e2⟩
        · rw [e2]; rw [e1] at q; exact fi.one r (.bl _) q
        · rw [e2]; rw [e1] at q; exact fi.one r (.bl _) q
      · cases e
    · cases e
  · exact q.elim
end
section
variable {X : Cx} {Z : WX} {k : Nat}
def dLt : D2 := fun a b S Q => match a, b with
  | .int i, .int j => Q (.bl (decide (i < j))) S
  | .str x, .str y => Q (.bl (decide (x.cps.toList < y.cps.toList))) S
  | _, _ => False
def dLe : D2 := fun a b S Q => match a, b with
  | .int i, .int j => Q (.bl (decide (i ≤ j))) S
  | .str x, .str y => Q (.bl (!decide (y.cps.toList < x.cps.toList))) S
  | _, _ => False
def dGt : D2 := fun a b S Q => match a, b with
  | .int i, .int j => Q (.bl (decide (j < i))) S
  | .str x, .str y => Q (.bl (decide (y.cps.toList < x.cps.toList))) S
  | _, _ => False
def dGe : D2 := fun a b S Q => match a, b with
  | .int i, .int j => Q (.bl (decide (j ≤ i))) S
  | .str x, .str y => Q (.bl (!decide (x.cps.toList < y.cps.toList))) S
  | _, _ => False
theorem oc_lt : OD X (compareOp .Lt) dLt := by
  intro pins s σ H x y v u Q I rx ry ⟨w1, w2, S, Qd, r, r1, r2, q, fi⟩
  unfold dLt at q
  split at q
  · cases r1; cases r2; exact op_lt pins s σ H _ _ v u Q I rx ry ⟨_, _, rfl, rfl, fi.one r (.bl _) q⟩
  · cases r1; cases r2; exact op_lt_str pins s σ H _ _ v u Q I rx ry ⟨_, _, rfl, rfl, fi.one r (.bl _) q⟩
  · exact q.elim
theorem oc_le : OD X (compareOp .LtE) dLe := by
  intro pins s σ H x y v u Q I rx ry ⟨w1, w2, S, Qd, r, r1, r2, q, fi⟩
  unfold dLe at q
  split at q
  · cases r1; cases r2; exact op_le pins s σ H _ _ v u Q I rx ry ⟨_, _, rfl, rfl, fi.one r (.bl _) q⟩
  · cases r1; cases r2; exact op_le_str pins s σ H _ _ v u Q I rx ry ⟨_, _, rfl, rfl, fi.one r (.bl _) q⟩
  · exact q.elim
theorem oc_gt : OD X (compareOp .Gt) dGt := by
  intro pins s σ H x y v u Q I rx ry ⟨w1, w2, S, Qd, r, r1, r2, q, fi⟩
  unfold dGt at q
  split at q
  · cases r1; cases r2; exact op_gt pins s σ H _ _ v u Q I rx ry ⟨_, _, rfl, rfl, fi.one r (.bl _) q⟩
  · cases r1; cases r2; exact op_gt_str pins s σ H _ _ v u Q I rx ry ⟨_, _, rfl, rfl, fi.one r (.bl _) q⟩
  · exact q.elim
theorem oc_ge : OD X (compareOp .GtE) dGe := by
  intro pins s σ H x y v u Q I rx ry ⟨w1, w2, S, Qd, r, r1, r2, q, fi⟩
  unfold dGe at q
  split at q
  · cases r1; cases r2; exact op_ge pins s σ H _ _ v u Q I rx ry ⟨_, _, rfl, rfl, fi.one r (.bl _) q⟩
  · cases r1; cases r2; exact op_ge_str pins s σ H _ _ v u Q I rx ry ⟨_, _, rfl, rfl, fi.one r (.bl _) q⟩
  · exact q.elim
def isN : W → Bool
  | .non => true
  | _ => false
def ζN : D2 := fun a b S Q => match b with
  | .non => Q (.bl (isN a)) S
  | _ => False
theorem isN_rel {K : PySem.W.Frag} {S : Sto} {H : Hp} {w : W} {v : V} (r : RW K S H w v) : decide (v = .non) = isN w := by
  cases r <;> simp [isN]
theorem oc_is : OD X (compareOp .Is) ζN := OpR.im op_isN fun x y H Q ⟨w1, w2, S, Qd, r, r1, r2, q, fi⟩ => by
  unfold ζN at q
  split at q
  · cases r2; exact ⟨rfl, by rw [isN_rel r1]; exact fi.one r (.bl _) q⟩
  · exact q.elim
end
def tru (S : Sto) (w : W) : Option Bool := match view S w with
  | .non => some false
  | .bl b => some b
  | .int i => some (i != 0)
  | .str x => some ((x.length : Int) != 0)
  | .lst xs => some (!xs.isEmpty)
  | .tup xs => some (!xs.isEmpty)
  | .dct ks _ => match w with
    | .ref _ => some (!ks.isEmpty)
    | _ => none
  | _ => none
theorem tru_rel {K : PySem.W.Frag} {S : Sto} {H : Hp} {w : W} {v : V} {b : Bool} (r : Rel K S H) (h : RW K S H w v) (e : tru S w = some b) : TruV K v H b := by
  unfold tru at e
  split at e
  · rename_i ev; cases e
    cases h <;> simp only [view] at ev <;> first | rfl | (split at ev <;> cases ev) | cases ev
  · rename_i b' ev; cases e
    cases h <;> simp only [view] at ev <;> first | (cases ev; rfl) | cases ev | (split at ev <;> cases ev)
  · rename_i i ev; cases e
    cases view_int h ev; rfl
  · rename_i x ev; cases e
    obtain ⟨rfl, ok⟩ := view_str h ev
    exact ⟨(sv_iff.mp ok).2, rfl⟩
  · rename_i xs ev; cases e
    obtain ⟨a, vs, rfl, h1, q⟩ := view_lst r h ev
    refine .inl ⟨vs, .inl (.inl h1), ?_⟩
    cases q <;> rfl
  · rename_i xs ev; cases e
    obtain ⟨a, vs, rfl, h1, q⟩ := view_tup h ev
    refine .inr (.inl ⟨vs, h1, ?_⟩)
    cases q <;> rfl
  · rename_i ks ws ev
    split at e
    case h_2 => cases e
    rename_i ad
    cases e
    cases h
    obtain ⟨gs, h1, q, el⟩ := view_dctR r ev
    refine .inr (.inr ⟨gs, h1, ?_⟩)
    cases ks with
    | nil => cases q; rfl
    | cons k ks => cases ws with
      | nil => cases el
      | cons w ws => cases q; rfl
  · cases e
def ζO (ta : DE') : DT' := fun ω S Q => ta ω S fun w S1 => match tru S1 w with
  | some b => Q b S1
  | none => False
def ζj (ta : DE') : DT' := fun ω S Q => ta ω S fun w S1 => match w with
  | .bl b => Q b S1
  | _ => False
section
variable {X : Cx} {Z : WX} {a b c : Expr} {ta tb tc : DE'} {pos : Pos} {rd rd' : D2} {t u : DT'} {rest : List Expr}
theorem dt_tru (ha : DE X Z a ta) (he : ∀ whole, isTrue a X.env whole = (do let v ← whole; standAt a.pos; holding [v] (truthy v)) := by intro _; rfl) : DT X Z a (ζO ta) := PT.im (pt_truth ha he) fun σ H Q ⟨ω, S, Qd, a, h, f⟩ => by
  refine ⟨ω, S, _, a, h, fun w S1 v H1 x1 r1 q1 h1 => ?_⟩
  split at h1
  · rename_i b e; exact ⟨b, tru_rel r1 q1 e, f b S1 H1 x1 r1 h1⟩
  · exact h1.elim
theorem uTest {K : PySem.W.Frag} {te : TE} (ht : ∀ σ H Q, uE K Z ta σ H Q → te σ H Q) {σ : L2.St} {H : Hp} {Q : Bool → Hp → Prop} (h : uT K Z (ζj ta) σ H Q) : tTest te σ H Q := by
  obtain ⟨ω, S, Qd, a, h, f⟩ := h
  refine ht _ _ _ ⟨ω, S, _, a, h, fun w S1 v H1 x1 r1 q1 h1 => ?_⟩
  split at h1
  · cases q1; exact ⟨_, rfl, f _ _ _ x1 r1 h1⟩
  · exact h1.elim
theorem dt_cmp {op : CmpOp} (ho : OD X (compareOp op) rd) (ha : DE X Z a ta) (hb : DE X Z b tb) (hm : behindInMarks op b = false := by first | exact nomark _ | rfl) : DT X Z (.Compare a [op] [b] pos) (ζj (dOp rd ta tb)) :=
  PT.im (pt_cmpR ho ha hb hm) fun _ _ _ h => uTest (fun _ _ _ => uOp) h
def ζc (rd rd' : D2) (ta tb tc : DE') : DE' := fun ω S Q => ta ω S fun x S1 => tb ω S1 fun y S2 => rd x y S2 fun z S3 => match z with
  | .bl true => tc ω S3 fun w S4 => rd' y w S4 Q
  | .bl false => Q (.bl false) S3
  | _ => False
theorem uChain {K : PySem.W.Frag} {σ : L2.St} {H : Hp} {Q : VK} (h : uE K Z (ζc rd rd' ta tb tc) σ H Q) : tChain (uR K rd) (uR K rd') (uE K Z ta) (uE K Z tb) (uE K Z tc) σ H Q := by
  obtain ⟨ω, S, Qd, a, h, f⟩ := h
  refine ⟨ω, S, _, a, h, fun w S1 v H1 x1 r1 q1 h1 => ?_⟩
  refine ⟨ω, S1, _, a.to x1 r1, h1, fun w2 S2 v2 H2 x2 r2 q2 h2 => ?_⟩
  refine ⟨w, w2, S2, _, r2, q1.mono x2, q2, h2, fun w3 S3 v3 H3 x3 r3 q3 h3 => ?_⟩
  split at h3
  · cases q3
    refine ⟨true, rfl, ?_⟩
    rw [if_pos rfl]
    refine ⟨ω, S3, _, a.to (x1.trans (x2.trans x3)) r3, h3, fun w4 S4 v4 H4 x4 r4 q4 h4 => ?_⟩
    exact ⟨w2, w4, S4, Qd, r4, q2.mono (x3.trans x4), q4, h4, fun w S' v H' x r q h => f w S' v H' (x1.trans (x2.trans (x3.trans (x4.trans x)))) r q h⟩
  · cases q3
    refine ⟨false, rfl, ?_⟩
    rw [if_neg Bool.false_ne_true]
    exact f _ _ _ _ (x1.trans (x2.trans x3)) r3 (.bl _) h3
  · exact h3.elim
theorem de_chain {op op' : CmpOp} (ho : OD X (compareOp op) rd) (ho' : OD X (compareOp op') rd') (ha : DE X Z a ta) (hb : DE X Z b tb) (hc : DE X Z c tc) (hm : lastMarks [op, op'] [b, c] = false := by with_unfolding_all rfl) :
    DE X Z (.Compare a [op, op'] [b, c] pos) (ζc rd rd' ta tb tc) := PE.im (pe_chain ho ho' ha hb hc hm) fun _ _ _ => uChain
theorem dt_chain {op op' : CmpOp} (ho : OD X (compareOp op) rd) (ho' : OD X (compareOp op') rd') (ha : DE X Z a ta) (hb : DE X Z b tb) (hc : DE X Z c tc) (hm : lastMarks [op, op'] [b, c] = false := by with_unfolding_all rfl) :
    DT X Z (.Compare a [op, op'] [b, c] pos) (ζj (ζc rd rd' ta tb tc)) := PT.im (pt_chain ho ho' ha hb hc hm) fun _ _ _ h => uTest (fun _ _ _ => uChain) h
def ζP (t u : DT') : DT' := fun ω S Q => t ω S fun c S1 => if c = true then u ω S1 Q else Q false S1
def dOr (t u : DT') : DT' := fun ω S Q => t ω S fun c S1 => if c = true then Q true S1 else u ω S1 Q
def ζQ (t : DT') : DT' := fun ω S Q => t ω S fun c S1 => Q (!c) S1
theorem dw_and1 (ha : DT X Z a t) : DWt X Z (.BoolOp .And [a] pos) t := pw_and1 ha
theorem dw_or1 (ha : DT X Z a t) : DWt X Z (.BoolOp .Or [a] pos) t := pw_or1 ha
theorem dw_and (ha : DT X Z a t) (hb : DWt X Z (.BoolOp .And (b :: rest) pos) u) : DWt X Z (.BoolOp .And (a :: b :: rest) pos) (ζP t u) := PW.im (pw_and ha hb) fun σ H Q ⟨ω, S, Qd, a, h, f⟩ => by
  refine ⟨ω, S, _, a, h, fun b S1 H1 x1 r1 h1 => ?_⟩
  cases b with
  | true =>
    rw [if_pos rfl] at h1 ⊢
    exact ⟨ω, S1, Qd, a.to x1 r1, h1, fun b S2 H2 x2 => f b S2 H2 (x1.trans x2)⟩
  | false =>
    rw [if_neg Bool.false_ne_true] at h1 ⊢
    exact f _ _ _ x1 r1 h1
theorem dw_or (ha : DT X Z a t) (hb : DWt X Z (.BoolOp .Or (b :: rest) pos) u) : DWt X Z (.BoolOp .Or (a :: b :: rest) pos) (dOr t u) := PW.im (pw_or ha hb) fun σ H Q ⟨ω, S, Qd, a, h, f⟩ => by
  refine ⟨ω, S, _, a, h, fun b S1 H1 x1 r1 h1 => ?_⟩
  cases b with
  | false =>
    rw [if_neg Bool.false_ne_true] at h1 ⊢
    exact ⟨ω, S1, Qd, a.to x1 r1, h1, fun b S2 H2 x2 => f b S2 H2 (x1.trans x2)⟩
  | true =>
    rw [if_pos rfl] at h1 ⊢
    exact f _ _ _ x1 r1 h1
theorem dt_not (ha : DT X Z a t) : DT X Z (.UnaryOp .Not a pos) (ζQ t) := PT.im (pt_not ha) fun σ H Q ⟨ω, S, Qd, a, h, f⟩ => ⟨ω, S, _, a, h, fun b S1 H1 x1 r1 h1 => f _ _ _ x1 r1 h1⟩
def ζk (ta tb : DE') : DE' := fun ω S Q => ta ω S fun x S1 => match tru S1 x with
  | some true => tb ω S1 Q
  | some false => Q x S1
  | none => False
def ζl (ta : DE') : DE' := fun ω S Q => ta ω S fun x S1 => match tru S1 x with
  | some b => Q (.bl (!b)) S1
  | none => False
theorem de_one {op} (h : DE X Z a ta) : DE X Z (.BoolOp op [a] pos) ta := pe_one h
theorem de_and (ha : DE X Z a ta) (hb : DE X Z (.BoolOp .And (b :: rest) pos) tb) : DE X Z (.BoolOp .And (a :: b :: rest) pos) (ζk ta tb) := PE.im (pe_andT ha hb) fun σ H Q ⟨ω, S, Qd, a, h, f⟩ => by
  refine ⟨ω, S, _, a, h, fun w S1 v H1 x1 r1 q1 h1 => ?_⟩
  split at h1
  · rename_i e
    exact ⟨true, tru_rel r1 q1 e, by rw [if_pos rfl]; exact ⟨ω, S1, Qd, a.to x1 r1, h1, fun w S' v H' x r q h => f w S' v H' (x1.trans x) r q h⟩⟩
  · rename_i e
    exact ⟨false, tru_rel r1 q1 e, by rw [if_neg Bool.false_ne_true]; exact f _ _ _ _ x1 r1 q1 h1⟩
  · exact h1.elim
theorem de_not (ha : DE X Z a ta) : DE X Z (.UnaryOp .Not a pos) (ζl ta) := PE.im (pe_notT ha) fun σ H Q ⟨ω, S, Qd, a, h, f⟩ => by
  refine ⟨ω, S, _, a, h, fun w S1 v H1 x1 r1 q1 h1 => ?_⟩
  split at h1
  · rename_i b e; exact ⟨b, tru_rel r1 q1 e, f _ _ _ _ x1 r1 (.bl _) h1⟩
  · exact h1.elim
def dIf (t : DT') (ta tb : DE') : DE' := fun ω S Q => t ω S fun c S1 => if c = true then ta ω S1 Q else tb ω S1 Q
theorem de_if (hc : DT X Z c t) (ha : DE X Z a ta) (hb : DE X Z b tb) : DE X Z (.IfExp c a b pos) (dIf t ta tb) := PE.im (pe_ifExp hc ha hb) fun σ H Q ⟨ω, S, Qd, a, h, f⟩ => by
  refine ⟨ω, S, _, a, h, fun b S1 H1 x1 r1 h1 => ?_⟩
  cases b with
  | false =>
    rw [if_neg Bool.false_ne_true] at h1 ⊢
    exact ⟨ω, S1, Qd, a.to x1 r1, h1, fun w S' v H' x r q h => f w S' v H' (x1.trans x) r q h⟩
  | true =>
    rw [if_pos rfl] at h1 ⊢
    exact ⟨ω, S1, Qd, a.to x1 r1, h1, fun w S' v H' x r q h => f w S' v H' (x1.trans x) r q h⟩
end
def ζR : DA' := fun _ S Q => Q [] S
def ζm (ta : DE') (tr : DA') : DA' := fun ω S Q => ta ω S fun x S1 => tr ω S1 fun xs S2 => Q (x :: xs) S2
abbrev DC' := List W → Sto → WQ → Prop
def uC (K : PySem.W.Frag) (rd : DC') : List V → Hp → VK → Prop := fun xs H Q => ∃ ws S Qd, Rel K S H ∧ RWs K S H ws xs ∧ rd ws S Qd ∧ Fin K S H Qd Q
def dCB (rd : DC') (t : DA') : DE' := fun ω S Q => t ω S fun ws S1 => rd ws S1 Q
section
variable {X : Cx} {Z : WX} {e : Expr} {es : List Expr} {te : DE'} {t : DA'} {pos : Pos} {rd : DC'}
theorem da_nil : DA X Z [] ζR := PA.im pa_nil fun σ H Q ⟨ω, S, Qd, a, h, f⟩ => f _ _ _ _ Nx.refl a.rel .nil h
theorem uCons {K : PySem.W.Frag} {σ : L2.St} {H : Hp} {Q : List V → Hp → Prop} (h : uA K Z (ζm te t) σ H Q) : tCons (uE K Z te) (uA K Z t) σ H Q := by
  obtain ⟨ω, S, Qd, a, h, f⟩ := h
  refine ⟨ω, S, _, a, h, fun w S1 v H1 x1 r1 q1 h1 => ?_⟩
  exact ⟨ω, S1, _, a.to x1 r1, h1, fun ws S2 vs H2 x2 r2 q2 h2 => f _ _ _ _ (x1.trans x2) r2 (.cons (q1.mono x2) q2) h2⟩
theorem da_cons (ha : DE X Z e te) (hr : DA X Z es t) (hs : starEach (e :: es) X.env = (false, eval e X.env) :: starEach es X.env := by rfl) : DA X Z (e :: es) (ζm te t) := PA.im (pa_cons ha hr hs) fun _ _ _ => uCons
theorem dk_nil : DKw X Z [] ζR := PK.im pk_nil fun σ H Q ⟨ω, S, Qd, a, h, f⟩ => f _ _ _ _ Nx.refl a.rel .nil h
theorem dk_cons {kws : List Keyword} {nm : Option Str} {kpos : Pos} (ha : DE X Z e te) (hr : DKw X Z kws t) : DKw X Z (⟨nm, e, kpos⟩ :: kws) (ζm te t) := PK.im (pk_cons ha hr) fun _ _ _ => uCons
def ζS (t : DA') : DE' := fun ω S Q => t ω S fun ws S1 => ws.length ≤ 1000000 ∧ Q (.tup ws) S1
def ζT (t : DA') : DE' := fun ω S Q => t ω S fun ws S1 => ws.length ≤ 1000000 ∧ Q (.lst ws) S1
def ζn (t : DA') : DE' := fun ω S Q => t ω S fun ws S1 => ws.length ≤ 1000000 ∧ ∀ p, S1 p = none → Q (.ref p) (up S1 p (.lst ws))
theorem de_tup {x1} (h : DA X Z es t) : DE X Z (.Tuple es x1 pos) (ζS t) := PE.im (pe_tup h) fun σ H Q ⟨ω, S, Qd, a, h, f⟩ => by
  refine ⟨ω, S, _, a, h, fun ws S1 vs H1 x1 r1 q1 h1 => ⟨by rw [← q1.len]; exact sz_of h1.1, fun p np => ?_⟩⟩
  exact f _ _ _ _ (x1.trans (Nx.new np)) (r1.new np) (.tup upd_same (r1.free np) (q1.mono (Nx.new np))) h1.2
theorem de_lst (h : DA X Z es t) : DE X Z (.List es pos) (ζT t) := PE.im (pe_lst h) fun σ H Q ⟨ω, S, Qd, a, h, f⟩ => by
  refine ⟨ω, S, _, a, h, fun ws S1 vs H1 x1 r1 q1 h1 => ⟨by rw [← q1.len]; exact sz_of h1.1, fun p np => ?_⟩⟩
  exact f _ _ _ _ (x1.trans (Nx.new np)) (r1.new np) (.lst upd_same (r1.free np) (q1.mono (Nx.new np))) h1.2
theorem de_lstM (h : DA X Z es t) : DE X Z (.List es pos) (ζn t) := PE.im (pe_lst h) fun σ H Q ⟨ω, S, Qd, a, h, f⟩ => by
  refine ⟨ω, S, _, a, h, fun ws S1 vs H1 x1 r1 q1 h1 => ⟨by rw [← q1.len]; exact sz_of h1.1, fun p np => ?_⟩⟩
  exact f _ _ _ _ (x1.trans (Nx.newS np)) (r1.newS np (.lst upd_same (q1.mono (Nx.newS np)))) (.ref p) (h1.2 p (r1.free np))
abbrev CD (X : Cx) (f : Value) (rd : DC') : Prop := CallR X f (uC X.K rd)
theorem CallR.im {X : Cx} {f : Value} {r r' : List V → Hp → VK → Prop} (h : CallR X f r) (i : ∀ xs H Q, r' xs H Q → r xs H Q) : CallR X f r' := fun pins s σ H xs us Q I rx q => h pins s σ H xs us Q I rx (i _ _ _ q)
theorem uCB {K : PySem.W.Frag} {σ : L2.St} {H : Hp} {Q : VK} (h : uE K Z (dCB rd t) σ H Q) : tCB (uC K rd) (uA K Z t) σ H Q := by
  obtain ⟨ω, S, Qd, a, h, f⟩ := h
  exact ⟨ω, S, _, a, h, fun ws S1 vs H1 x1 r1 q1 h1 => ⟨ws, S1, Qd, r1, q1, h1, fun w S' v H' x r q h => f w S' v H' (x1.trans x) r q h⟩⟩
variable {x : Str} {p : Pos} {id : String}
theorem de_callB (hc : CD X (.builtin id) rd) (hm : X.mg x = none) (ha : DA X Z (e :: es) t) (hv : bootBuiltins x = some (.builtin id) := by decide +kernel) (hg : Gl X x := by rfl) (hn : x ≠ "__name__" := by decide) (hdb : (x == ("__debug__" : Str)) = false := by decide)
    (he : starEach (e :: es) X.env = (false, eval e X.env) :: starEach es X.env := by rfl) (hpl : (backTo pos (starEach es X.env)).any (·.1) = false := by rfl) : DE X Z (.Call (.Name x p) (e :: es) [] pos) (dCB rd t) := PE.im (pe_callB hc hg hm hv ha hn hdb he hpl) fun _ _ _ => uCB
theorem de_callTy (hc : CD X (.type id) rd) (hm : X.mg x = none) (ha : DA X Z (e :: es) t) (hv : bootBuiltins x = some (.type id) := by decide +kernel) (hg : Gl X x := by rfl) (hn : x ≠ "__name__" := by decide) (hdb : (x == ("__debug__" : Str)) = false := by decide)
    (he : starEach (e :: es) X.env = (false, eval e X.env) :: starEach es X.env := by rfl) (hpl : (backTo pos (starEach es X.env)).any (·.1) = false := by rfl) : DE X Z (.Call (.Name x p) (e :: es) [] pos) (dCB rd t) := PE.im (pe_callTy hc hg hm hv ha hn hdb he hpl) fun _ _ _ => uCB
end
section
variable {X : Cx} {Z : WX}
theorem RWs.one {K : PySem.W.Frag} {S : Sto} {H : Hp} {w : W} {vs : List V} (h : RWs K S H [w] vs) : ∃ v, vs = [v] ∧ RW K S H w v := by
  cases h with | cons h t => cases t; exact ⟨_, rfl, h⟩
theorem RWs.two {K : PySem.W.Frag} {S : Sto} {H : Hp} {w w' : W} {vs : List V} (h : RWs K S H [w, w'] vs) : ∃ v v', vs = [v, v'] ∧ RW K S H w v ∧ RW K S H w' v' := by
  cases h with | cons h t => cases t with | cons h' t => cases t; exact ⟨_, _, rfl, h, h'⟩
def ζU : DC' := fun ws S Q => match ws with
  | [w] => match view S w with
    | .lst xs => Q (.int xs.length) S
    | .tup xs => Q (.int xs.length) S
    | .scr ns => Q (.int ns.length) S
    | .str x => Q (.int x.length) S
    | .dct ks _ => Q (.int ks.length) S
    | _ => False
  | _ => False
theorem cd_len : CD X (.builtin "len") ζU := by
  intro pins s σ H xs us Q I rx ⟨ws, S, Qd, r, rs, q, fi⟩
  unfold ζU at q
  split at q
  · obtain ⟨v, rfl, r1⟩ := rs.one
    split at q
    · rename_i ys e
      obtain ⟨a, vs, rfl, h1, q1⟩ := view_lst r r1 e
      rw [q1.len] at q
      exact call_len_seq pins s σ H _ us Q I rx ⟨a, vs, rfl, .inl (.inl (.inl h1)), fi.one r (.int _) q⟩
    · rename_i ys e
      obtain ⟨a, vs, rfl, h1, q1⟩ := view_tup r1 e
      rw [q1.len] at q
      exact call_len_seq pins s σ H _ us Q I rx ⟨a, vs, rfl, .inr h1, fi.one r (.int _) q⟩
    · rename_i ys e
      obtain ⟨a, rfl, h1⟩ := view_scr r1 e
      exact call_len_seq pins s σ H _ us Q I rx ⟨a, _, rfl, .inl h1, fi.one r (.int _) (by rw [List.length_map]; exact q)⟩
    · rename_i ys e
      obtain ⟨rfl, ok⟩ := view_str r1 e
      exact call_len_str pins s σ H _ us Q I rx ⟨_, rfl, (sv_iff.mp ok).2, fi.one r (.int _) q⟩
    · rename_i ks ys e
      obtain ⟨a, gs, rfl, h1, q1, el⟩ := view_dct r r1 e
      have : gs.length = ks.length := by rw [← RWp.len q1, List.length_zip]; omega
      obtain ⟨u, rfl, ru⟩ := vals1 rx
      cases ru
      exact d_len I h1 fun t s' I' => ⟨.int gs.length, H, I', ⟨t, rfl⟩, fi.one r (.int _) (by rw [this]; exact q)⟩
    · exact q.elim
  · exact q.elim
def ζV : DC' := fun ws S Q => match ws with
  | [.int i] => Q (.int (if i < 0 then -i else i)) S
  | _ => False
theorem cd_abs : CD X (.builtin "abs") ζV := CallR.im call_abs fun xs H Q ⟨ws, S, Qd, r, rs, q, fi⟩ => by
  unfold ζV at q
  split at q
  · obtain ⟨v, rfl, r1⟩ := rs.one; cases r1; exact ⟨_, rfl, fi.one r (.int _) q⟩
  · exact q.elim
def ζo : DC' := fun ws S Q => match ws with
  | [.int i, .int j] => Q (.int (if j > i then j else i)) S
  | _ => False
theorem cd_max2 (hc : X.calm = true := by rfl) : CD X (.builtin "max") ζo := CallR.im (call_max2 hc) fun xs H Q ⟨ws, S, Qd, r, rs, q, fi⟩ => by
  unfold ζo at q
  split at q
  · obtain ⟨v, v', rfl, r1, r2⟩ := rs.two; cases r1; cases r2; exact ⟨_, _, rfl, fi.one r (.int _) q⟩
  · exact q.elim
def ζp : DC' := fun ws S Q => match ws with
  | [.int i, .int j] => Q (.int (if j < i then j else i)) S
  | _ => False
theorem cd_min2 (hc : X.calm = true := by rfl) : CD X (.builtin "min") ζp := CallR.im (call_min2 hc) fun xs H Q ⟨ws, S, Qd, r, rs, q, fi⟩ => by
  unfold ζp at q
  split at q
  · obtain ⟨v, v', rfl, r1, r2⟩ := rs.two; cases r1; cases r2; exact ⟨_, _, rfl, fi.one r (.int _) q⟩
  · exact q.elim
def bls : List W → Option (List Bool)
  | [] => some []
  | .bl b :: ws => (bls ws).map (b :: ·)
  | _ => none
theorem bls_eq : ∀ {ws : List W} {bs : List Bool}, bls ws = some bs → ws = bs.map W.bl
  | [], bs, h => by cases h; rfl
  | w :: ws, bs, h => by
    cases w <;> simp only [bls] at h <;> try cases h
    rename_i b
    cases e : bls ws with
    | none => rw [e] at h; cases h
    | some cs => rw [e] at h; cases h; rw [bls_eq e]; rfl
theorem bls_map (bs : List Bool) : bls (bs.map W.bl) = some bs := by
  induction bs with
  | nil => rfl
  | cons b bs ih => rw [List.map_cons, bls, ih]; rfl
def ζW : DC' := fun ws S Q => match ws with
  | [w] => match view S w with
    | .lst xs => match bls xs with
      | some bs => Q (.bl (bs.all id)) S
      | none => False
    | _ => False
  | _ => False
theorem cd_all (hc : X.calm = true := by rfl) : CD X (.builtin "all") ζW := CallR.im (cr_all hc) fun xs H Q ⟨ws, S, Qd, r, rs, q, fi⟩ => by
  unfold ζW at q
  split at q
  · obtain ⟨v, rfl, r1⟩ := rs.one
    split at q
    · rename_i ys e
      obtain ⟨a, vs, rfl, h1, q1⟩ := view_lst r r1 e
      split at q
      · rename_i bs eb
        rw [bls_eq eb] at q1
        rw [q1.bls_inv] at h1
        exact ⟨a, bs, rfl, .inl (.inl h1), fi.one r (.bl _) q⟩
      · exact q.elim
    · exact q.elim
  · exact q.elim
def ζb : DC' := fun ws S Q => match ws with
  | [w] => match view S w with
    | .lst xs => Q (.lst xs) S
    | .tup xs => Q (.lst xs) S
    | _ => False
  | _ => False
def ζa : DC' := fun ws S Q => match ws with
  | [w] => match view S w with
    | .lst xs => ∀ p, S p = none → Q (.ref p) (up S p (.lst xs))
    | .tup xs => ∀ p, S p = none → Q (.ref p) (up S p (.lst xs))
    | _ => False
  | _ => False
def ζd : DC' := fun ws S Q => match ws with
  | [w] => match view S w with
    | .lst xs => Q (.tup xs) S
    | .tup xs => Q (.tup xs) S
    | _ => False
  | _ => False
theorem cd_listM : CD X (.type "list") ζa := CallR.im call_list_of fun xs H Q ⟨ws, S, Qd, r, rs, q, fi⟩ => by
  unfold ζa at q
  split at q
  · obtain ⟨v, rfl, r1⟩ := rs.one
    split at q
    · rename_i ys e
      obtain ⟨a, vs, rfl, h1, q1⟩ := view_lst r r1 e
      exact ⟨a, vs, rfl, .inl (.inl (.inl h1)), fun p np => fi _ _ _ _ (Nx.newS np) (r.newS np (.lst upd_same (q1.mono (Nx.newS np)))) (.ref p) (q p (r.free np))⟩
    · rename_i ys e
      obtain ⟨a, vs, rfl, h1, q1⟩ := view_tup r1 e
      exact ⟨a, vs, rfl, .inr h1, fun p np => fi _ _ _ _ (Nx.newS np) (r.newS np (.lst upd_same (q1.mono (Nx.newS np)))) (.ref p) (q p (r.free np))⟩
    · exact q.elim
  · exact q.elim
theorem view_tup_self {K : PySem.W.Frag} {S : Sto} {H : Hp} {w : W} {v : V} {xs : List W} (h : RW K S H w v) (e : view S w = .tup xs) : RW K S H (.tup xs) v := by
  cases h <;> simp only [view] at e <;> try cases e
  case tup => exact .tup (by assumption) (by assumption) (by assumption)
  case tupK => exact .tupK (by assumption) (by assumption)
  case ref a => split at e <;> cases e
theorem cd_tuple : CD X (.type "tuple") ζd := CallR.im call_tuple_of fun xs H Q ⟨ws, S, Qd, r, rs, q, fi⟩ => by
  unfold ζd at q
  split at q
  · obtain ⟨v, rfl, r1⟩ := rs.one
    split at q
    · rename_i ys e
      obtain ⟨a, vs, rfl, h1, q1⟩ := view_lst r r1 e
      exact ⟨a, vs, rfl, .inl ⟨.inl (.inl h1), fun p np => fi _ _ _ _ (Nx.new np) (r.new np) (.tup upd_same (r.free np) (q1.mono (Nx.new np))) q⟩⟩
    · rename_i ys e
      have r2 := view_tup_self r1 e
      obtain ⟨a, vs, rfl, h1, q1⟩ := view_tup r1 e
      exact ⟨a, vs, rfl, .inr ⟨h1, fi.one r r2 q⟩⟩
    · exact q.elim
  · exact q.elim
end
def ζq : DS' := fun D ω S => D.nx ω S
def ζX (t u : DS') : DS' := fun D ω S => t { D with nx := u D } ω S
def ζr (te : DE') : DS' := fun D ω S => te ω S fun _ S1 => D.nx ω S1
def ζY (te : DE') : DS' := fun D ω S => te ω S D.rt
def ζZ (c : DT') (t u : DS') : DS' := fun D ω S => c ω S fun b S1 => if b = true then t D ω S1 else u D ω S1
def ξa (i : Nat) (te : DE') : DS' := fun D ω S => te ω S fun w S1 => D.nx (ω.set i (some w)) S1
section
variable {X : Cx} {Z : WX} {st : Stmt} {rest : List Stmt} {t u : DS'} {e : Expr} {te : DE'} {pos : Pos}
theorem dss_nil : DSs X Z [] ζq := PSs.im pss_nil fun D σ H ⟨ω, S, Dd, a, h, f⟩ => f.nx _ _ _ _ Nx.refl a h
theorem dss_one (h1 : DS X Z st t) : DSs X Z [st] t := pss_one h1
theorem dss_cons (h1 : DS X Z st t) (h2 : DSs X Z rest u) : DSs X Z (st :: rest) (ζX t u) := PSs.im (pss_cons h1 h2) fun D σ H ⟨ω, S, Dd, a, h, f⟩ =>
  ⟨ω, S, { Dd with nx := u Dd }, a, h, ⟨fun ω' S' σ' H' x a' h' => ⟨ω', S', Dd, a', h', f.to x⟩, f.rt, f.bk, f.ct⟩⟩
theorem ds_expr (he : DE X Z e te) (hs : swapsWith e none pos.line X.env = pure false := by rfl) : DS X Z (.Expr e pos) (ζr te) := PS.im (ps_expr he hs) fun D σ H ⟨ω, S, Dd, a, h, f⟩ =>
  ⟨ω, S, _, a, h, fun w S1 v H1 x1 r1 q1 h1 => f.nx _ _ _ _ x1 (a.to x1 r1) h1⟩
theorem ds_ret (he : DE X Z e te) : DS X Z (.Return (some e) pos) (ζY te) := PS.im (ps_ret he) fun D σ H ⟨ω, S, Dd, a, h, f⟩ => ⟨ω, S, _, a, h, f.rt⟩
theorem ds_if {c : Expr} {a b : List Stmt} {tc : DT'} (hc : DT X Z c tc) (ha : DSs X Z a t) (hb : DSs X Z b u) : DS X Z (.If c a b pos) (ζZ tc t u) := PS.im (ps_if hc ha hb) fun D σ H ⟨ω, S, Dd, a, h, f⟩ => by
  refine ⟨ω, S, _, a, h, fun b S1 H1 x1 r1 h1 => ?_⟩
  cases b with
  | true => rw [if_pos rfl] at h1 ⊢; exact ⟨ω, S1, Dd, a.to x1 r1, h1, f.to x1⟩
  | false => rw [if_neg Bool.false_ne_true] at h1 ⊢; exact ⟨ω, S1, Dd, a.to x1 r1, h1, f.to x1⟩
theorem ds_never : DS X Z st (fun _ _ _ => False) := PS.im ps_never fun D σ H ⟨ω, S, Dd, a, h, f⟩ => h.elim
theorem At.set {K : PySem.W.Frag} {S : Sto} {H : Hp} {σ : L2.St} {ω : Om} {w : W} {v : V} (a : At K Z S H σ ω) (r : RW K S H w v) (i : Nat) : At K Z S H (σ.set i (some v)) (ω.set i (some w)) := ⟨a.rel, a.rs.set r i, a.fx⟩
theorem ds_set {i : Nat} {x : Str} {pos' : Pos} (hN : X.N.Nodup) (he : DE X Z e te) (hi : X.N[i]? = some x := by rfl) (hx : Loc X.env.scope x := by first | exact .inl rfl | exact .inr rfl) (hs : swapsWith e (some (.Name x pos')) pos.line X.env = pure false := by rfl)
    (hf : X.fn x = true ∨ X.env.scope.names.lookup x = some .local := by first | exact .inl rfl | exact .inr rfl | assumption) : DS X Z (.Assign [.Name x pos'] e pos) (ξa i te) := PS.im (ps_set hN hi hx he hs hf) fun D σ H ⟨ω, S, Dd, a, h, f⟩ =>
  ⟨ω, S, _, a, h, fun w S1 v H1 x1 r1 q1 h1 => f.nx _ _ _ _ x1 ((a.to x1 r1).set q1 i) h1⟩
end
inductive Tg where
  | nm (i : Nat)
  | tp (ts : List Tg)
mutual
def gOf (K : PySem.W.Frag) : Tg → TG
  | .nm i => gName i
  | .tp ts => gTup K ts.length (gsOf K ts)
def gsOf (K : PySem.W.Frag) : List Tg → TGs
  | [] => gNil
  | t :: ts => gCons (gOf K t) (gsOf K ts)
end
mutual
def ζt : Tg → W → Om → Option Om
  | .nm i, w, ω => some (ω.set i (some w))
  | .tp ts, .tup ws, ω => ζe ts ws ω
  | .tp _, _, _ => none
def ζe : List Tg → List W → Om → Option Om
  | [], [], ω => some ω
  | t :: ts, w :: ws, ω => match ζt t w ω with
    | some ω' => ζe ts ws ω'
    | none => none
  | _, _, _ => none
end
mutual
def tix : Tg → List Nat
  | .nm i => [i]
  | .tp ts => tixs ts
def tixs : List Tg → List Nat
  | [] => []
  | t :: ts => tix t ++ tixs ts
end
theorem wipe_set {σ : L2.St} {i : Nat} {x : Option V} : ∀ {vs : List Nat}, i ∈ vs → wipe (σ.set i x) vs = wipe σ vs
  | v :: vs, h => by
    unfold wipe
    by_cases hm : i ∈ vs
    · rw [wipe_set hm]
    · have e : i = v := by
        rcases List.mem_cons.mp h with h | h
        · exact h
        · exact absurd h hm
      subst e
      clear h
      have : ∀ (us : List Nat), i ∉ us → wipe (σ.set i x) us = (wipe σ us).set i x := by
        intro us
        induction us with
        | nil => intro _; rfl
        | cons u us ih =>
          intro hu
          unfold wipe
          rw [ih (fun z => hu (List.mem_cons_of_mem _ z)), List.set_comm]
          exact fun e => hu (by rw [e]; exact List.mem_cons_self ..)
      rw [this vs hm, List.set_set]
section
variable {K : PySem.W.Frag} {S : Sto} {H : Hp}
mutual
theorem tbind_ok : ∀ {t : Tg} {w : W} {v : V} {σ : L2.St} {ω ω' : Om}, ζt t w ω = some ω' → At K Z S H σ ω → RW K S H w v →
    ∃ σ', At K Z S H σ' ω' ∧ (∀ vs, (∀ i ∈ tix t, i ∈ vs) → wipe σ' vs = wipe σ vs) ∧ ∀ Q : L2.St → Hp → Prop, Q σ' H → gOf K t v σ H Q
  | .nm i, w, v, σ, ω, ω', h, a, r => by
    cases h
    exact ⟨_, a.set r i, fun vs hv => wipe_set (hv i (List.mem_singleton.mpr rfl)), fun Q q => q⟩
  | .tp ts, w, v, σ, ω, ω', h, a, r => by
    cases w with
    | tup ws =>
      have h' : ζe ts ws ω = some ω' := h
      obtain ⟨ad, vs, rfl, sq, rs⟩ := view_tup (xs := ws) r rfl
      obtain ⟨σ', a', hw, hq⟩ := tbinds_ok h' a rs
      refine ⟨σ', a', hw, fun Q q => ⟨ad, vs, rfl, sq, ?_, hq Q q⟩⟩
      rw [← rs.len]
      exact tbinds_len h'
    | _ => cases h
theorem tbinds_ok : ∀ {ts : List Tg} {ws : List W} {us : List V} {σ : L2.St} {ω ω' : Om}, ζe ts ws ω = some ω' → At K Z S H σ ω → RWs K S H ws us →
    ∃ σ', At K Z S H σ' ω' ∧ (∀ vs, (∀ i ∈ tixs ts, i ∈ vs) → wipe σ' vs = wipe σ vs) ∧ ∀ Q : L2.St → Hp → Prop, Q σ' H → gsOf K ts us σ H Q
  | [], ws, us, σ, ω, ω', h, a, r => by
    cases ws with
    | nil =>
      cases h
      cases r
      exact ⟨σ, a, fun _ _ => rfl, fun Q q => ⟨rfl, q⟩⟩
    | cons w ws => cases h
  | t :: ts, ws, us, σ, ω, ω', h, a, r => by
    cases ws with
    | nil => cases h
    | cons w ws =>
      cases r with
      | cons r rs =>
        unfold ζe at h
        split at h
        · rename_i ω1 e1
          obtain ⟨σ1, a1, w1, q1⟩ := tbind_ok e1 a r
          obtain ⟨σ2, a2, w2, q2⟩ := tbinds_ok h a1 rs
          refine ⟨σ2, a2, fun vs hv => ?_, fun Q q => ⟨_, _, rfl, q1 _ (q2 Q q)⟩⟩
          rw [w2 vs fun i hi => hv i (List.mem_append_right _ hi), w1 vs fun i hi => hv i (List.mem_append_left _ hi)]
        · cases h
theorem tbinds_len : ∀ {ts : List Tg} {ws : List W} {ω ω' : Om}, ζe ts ws ω = some ω' → ws.length = ts.length
  | [], ws, ω, ω', h => by
    cases ws with
    | nil => rfl
    | cons w ws => cases h
  | t :: ts, ws, ω, ω', h => by
    cases ws with
    | nil => cases h
    | cons w ws =>
      unfold ζe at h
      split at h
      · exact congrArg Nat.succ (tbinds_len h)
      · cases h
end
end
def ζs (T : Tg) (te : DE') : DS' := fun D ω S => te ω S fun w S1 => match ζt T w ω with
  | some ω' => D.nx ω' S1
  | none => False
section
variable {X : Cx} {Z : WX} {e tg : Expr} {te : DE'} {pos : Pos} {T : Tg}
theorem dg_nm {i : Nat} {x : Str} (hN : X.N.Nodup) (hi : X.N[i]? = some x := by rfl) (hx : Loc X.env.scope x := by first | exact .inl rfl | exact .inr rfl) (hf : X.fn x = true ∨ X.env.scope.names.lookup x = some .local := by first | exact .inl rfl | exact .inr rfl | assumption) : PG X (.Name x pos) (gOf X.K (.nm i)) := pg_name hN hi hx hf
theorem dgs_nil : PGs X [] (gsOf X.K []) := pgs_nil
theorem dgs_cons {es : List Expr} {ts : List Tg} (h1 : PG X e (gOf X.K T)) (h2 : PGs X es (gsOf X.K ts)) (hs : (assignEach (e :: es) X.env).map (·.2) = assign e X.env :: (assignEach es X.env).map (·.2) := by rfl) : PGs X (e :: es) (gsOf X.K (T :: ts)) := pgs_cons h1 h2 hs
theorem dg_tp {es : List Expr} {k : Nat} {ts : List Tg} (h : PGs X es (gsOf X.K ts)) (hc : X.calm = true := by rfl) (hn : (assignEach es X.env).length = ts.length := by rfl) (hst : (assignEach es X.env).findIdx? (·.1) = none := by rfl) : PG X (.Tuple es k pos) (gOf X.K (.tp ts)) := pg_tup hc h hn hst
theorem ds_asgT (he : DE X Z e te) (hg : PG X tg (gOf X.K T)) (hs : swapsWithSole [tg] e pos.line X.env = pure false := by rfl) (hw : swappedStores [tg] e X.env = pure none := by rfl) (h1 : (assignEach [tg] X.env).map (·.2) = [assign tg X.env] := by rfl) :
    DS X Z (.Assign [tg] e pos) (ζs T te) := PS.im (ps_asg he hg hs hw h1) fun D σ H ⟨ω, S, Dd, a, h, f⟩ => by
  refine ⟨ω, S, _, a, h, fun w S1 v H1 x1 r1 q1 h1 => ?_⟩
  split at h1
  · rename_i ω' e'
    obtain ⟨σ', a', _, hq⟩ := tbind_ok e' (a.to x1 r1) q1
    exact hq _ (f.nx _ _ _ _ x1 a' h1)
  · exact h1.elim
end
structure Src (K : PySem.W.Frag) (S0 : Sto) (H0 : Hp) (J : It) (xs : List W) (ok : Sto → Prop) : Prop where
  go : ∀ i S H, Nx S0 H0 S H → Rel K S H → ok S → i < xs.length → J.go i H
  yld : ∀ i S H x H', Nx S0 H0 S H → Rel K S H → ok S → i < xs.length → J.yld i H x H' → ∃ w, xs[i]? = some w ∧ Nx S H S H' ∧ Rel K S H' ∧ RW K S H' w x
  stop : ∀ i S H, Nx S0 H0 S H → Rel K S H → ok S → i = xs.length → J.stop i H
abbrev DI' := Om → Sto → (List W → (Sto → Prop) → Sto → Prop) → Prop
def uI (K : PySem.W.Frag) (Z : WX) (di : DI') : TI := fun σ H R => ∃ (ω : Om) (S : Sto) (Qd : List W → (Sto → Prop) → Sto → Prop), At K Z S H σ ω ∧ di ω S Qd ∧ ∀ xs ok S' H' J, Nx S H S' H' → Rel K S' H' → Src K S' H' J xs ok → Qd xs ok S' → R J H'
abbrev DI (X : Cx) (Z : WX) (tg iter : Expr) (di : DI') : Prop := PI X tg iter (uI X.K Z di)
theorem PI.im {X : Cx} {tg e : Expr} {t t' : TI} (h : PI X tg e t) (i : ∀ σ H R, t' σ H R → t σ H R) : PI X tg e t' := ⟨fun pins s σ H R I q => h.run pins s σ H R I (i σ H R q)⟩
def seqW (S : Sto) (w : W) : Option (List W) := match view S w with
  | .lst xs => some xs
  | .tup xs => some xs
  | .scr ns => some (ns.map W.int)
  | .str x => some (x.cps.toList.map fun c => W.str ⟨#[c]⟩)
  | _ => none
def ζD (te : DE') : DI' := fun ω S Q => te ω S fun w S1 => match seqW S1 w with
  | some xs => Q xs (fun S' => seqW S' w = some xs) S1
  | none => False
section
variable {X : Cx} {Z : WX} {tg l : Expr} {te : DE'}
def iAny (K : PySem.W.Frag) (te : TE) : TI := fun σ H R => te σ H fun x H1 => (∃ a xs, x = .ref a ∧ SqL K H1 a xs ∧ R (Itl K a) H1) ∨ (∃ a xs, x = .ref a ∧ SqT K H1 a xs ∧ R (Itt K a) H1) ∨ ∃ z, x = .str z ∧ R (Its z) H1
theorem pi_any {te : TE} (hl : PE X l te) : PI X tg l (iAny X.K te) := by
  refine ⟨fun pins s σ H R I h => ?_⟩
  refine thn (hl.run pins s σ H _ I h) fun v s1 ⟨x, H1, I1, r1, q1⟩ => ?_
  rcases q1 with ⟨a, xs, ex, hq, q⟩ | ⟨a, xs, ex, hq, q⟩ | ⟨z, ex, q⟩
  · subst ex
    cases r1
    obtain ⟨its, rv, p, hz⟩ := I1.list hq
    refine wpAny_pyIter_list p.isList ⟨s1.heap.objs.size, [s1.heap.objs.size], _, _, H1, rfl, I1.kept (t' := s1.toks) fun b o e => Heap.get?_push_of_some _ e, turn_list a _, ⟨_, Heap.get?_push_size _ rfl, rfl, rfl⟩, fun b hb => ?_, q⟩
    obtain rfl : b = s1.heap.objs.size := by simpa using hb
    exact I1.fpOk (Nat.le_refl _) (I1.hok.fresh (Nat.le_refl _))
  · subst ex
    cases r1
    obtain ⟨its, rv, p, hz⟩ := I1.tuple hq
    refine wpAny_pyIter_tuple (show s1.heap.IsTuple a its.toArray from p) ⟨s1.heap.objs.size, [s1.heap.objs.size], _, _, H1, rfl, I1.kept (t' := s1.toks) fun b o e => Heap.get?_push_of_some _ e, turn_tuple a _, ⟨_, Heap.get?_push_size _ rfl, rfl, rfl⟩, fun b hb => ?_, q⟩
    obtain rfl : b = s1.heap.objs.size := by simpa using hb
    exact I1.fpOk (Nat.le_refl _) (I1.hok.fresh (Nat.le_refl _))
  · subst ex
    obtain ⟨t, rfl⟩ := r1
    cases ha : z.cps.all (· < 128)
    · exact wpAny_pyIter_wide ha (pi_one (tk := s1.toks) I1 _ (turn_str _ z t "str_iterator" (.inr rfl)) ⟨_, Heap.get?_push_size _ rfl, rfl, rfl⟩ q)
    · exact wpAny_pyIter_ascii ha (pi_one (tk := s1.toks) I1 _ (turn_str _ z t "str_ascii_iterator" (.inl rfl)) ⟨_, Heap.get?_push_size _ rfl, rfl, rfl⟩ q)
end
theorem src_l {K : PySem.W.Frag} {S0 : Sto} {H0 : Hp} {a : Addr} {xs : List W} {ok : Sto → Prop} (h : ∀ S H, Nx S0 H0 S H → Rel K S H → ok S → ∃ vs, SqL K H a vs ∧ RWs K S H xs vs) : Src K S0 H0 (Itl K a) xs ok := by
  refine ⟨fun i S H x r o hi => ?_, fun i S H v H' x r o hi y => ?_, fun i S H x r o hi => ?_⟩
  · obtain ⟨vs, sq, rs⟩ := h S H x r o
    have hl := rs.len
    exact ⟨vs, vs[i], sq, by simp [show i < vs.length by omega]⟩
  · obtain ⟨vs, sq, rs⟩ := h S H x r o
    obtain ⟨e, y⟩ := y
    subst e
    obtain ⟨w, ew, rw'⟩ := rs.get' (y vs sq)
    exact ⟨w, ew, Nx.refl, r, rw'⟩
  · obtain ⟨vs, sq, rs⟩ := h S H x r o
    exact ⟨vs, sq, by rw [← rs.len, hi]; exact Nat.le_refl _⟩
theorem src_t {K : PySem.W.Frag} {S0 : Sto} {H0 : Hp} {a : Addr} {xs : List W} {ok : Sto → Prop} (h : ∀ S H, Nx S0 H0 S H → Rel K S H → ok S → ∃ vs, SqT K H a vs ∧ RWs K S H xs vs) : Src K S0 H0 (Itt K a) xs ok := by
  refine ⟨fun i S H x r o hi => ?_, fun i S H v H' x r o hi y => ?_, fun i S H x r o hi => ?_⟩
  · obtain ⟨vs, sq, rs⟩ := h S H x r o
    have hl := rs.len
    exact ⟨vs, vs[i], sq, by simp [show i < vs.length by omega]⟩
  · obtain ⟨vs, sq, rs⟩ := h S H x r o
    obtain ⟨e, y⟩ := y
    subst e
    obtain ⟨w, ew, rw'⟩ := rs.get' (y vs sq)
    exact ⟨w, ew, Nx.refl, r, rw'⟩
  · obtain ⟨vs, sq, rs⟩ := h S H x r o
    exact ⟨vs, sq, by rw [← rs.len, hi]; exact Nat.le_refl _⟩
theorem sv_sign {z : Str} {c : Nat} (h : sv z) (hc : c ∈ z.cps.toList) : sv ⟨#[c]⟩ := by
  rw [sv_iff] at h ⊢
  exact ⟨fun d hd => by simp at hd; rw [hd]; exact h.1 c hc, by show 1 ≤ sizeLine; decide⟩
theorem src_s {K : PySem.W.Frag} {S0 : Sto} {H0 : Hp} {z : Str} {ok : Sto → Prop} (h : sv z) : Src K S0 H0 (Its z) (z.cps.toList.map fun c => W.str ⟨#[c]⟩) ok := by
  have hl : (z.cps.toList.map fun c => W.str ⟨#[c]⟩).length = z.cps.size := by rw [List.length_map, Array.length_toList]
  refine ⟨fun i S H x r o hi => by rw [hl] at hi; exact hi, fun i S H v H' x r o hi y => ?_, fun i S H x r o hi => by rw [hi, hl]; exact Nat.le_refl _⟩
  obtain ⟨e, c, hc, rfl⟩ := y
  subst e
  have hc' : z.cps.toList[i]? = some c := by simpa using hc
  exact ⟨.str ⟨#[c]⟩, by rw [List.getElem?_map, hc']; rfl, Nx.refl, r, .str _ (sv_sign h (List.mem_of_getElem? hc'))⟩
theorem seqW_src {K : PySem.W.Frag} {S0 : Sto} {H0 : Hp} {w : W} {v : V} {xs : List W} (r : Rel K S0 H0) (h : RW K S0 H0 w v) (e : seqW S0 w = some xs) :
    (∃ a vs, v = .ref a ∧ SqL K H0 a vs ∧ RWs K S0 H0 xs vs ∧ ∀ S H, Nx S0 H0 S H → Rel K S H → seqW S w = some xs → ∃ us, SqL K H a us ∧ RWs K S H xs us) ∨
    (∃ a vs, v = .ref a ∧ SqT K H0 a vs ∧ RWs K S0 H0 xs vs ∧ ∀ S H, Nx S0 H0 S H → Rel K S H → seqW S w = some xs → ∃ us, SqT K H a us ∧ RWs K S H xs us) ∨
    ∃ z, v = .str z ∧ sv z ∧ xs = z.cps.toList.map fun c => W.str ⟨#[c]⟩ := by
  cases w with
  | lst ys =>
    obtain rfl : ys = xs := Option.some.inj e
    obtain ⟨a, vs, rfl, h1, q⟩ := view_lst (xs := ys) r h rfl
    refine .inl ⟨a, vs, rfl, .inl (.inl h1), q, fun S H x r' _ => ?_⟩
    obtain ⟨b, us, eb, h2, q2⟩ := view_lst (xs := ys) r' (h.mono x) rfl
    cases eb
    exact ⟨us, .inl (.inl h2), q2⟩
  | tup ys =>
    obtain rfl : ys = xs := Option.some.inj e
    obtain ⟨a, vs, rfl, h1, q⟩ := view_tup (xs := ys) h rfl
    refine .inr (.inl ⟨a, vs, rfl, h1, q, fun S H x r' _ => ?_⟩)
    obtain ⟨b, us, eb, h2, q2⟩ := view_tup (xs := ys) (h.mono x) rfl
    cases eb
    exact ⟨us, h2, q2⟩
  | scr ns =>
    cases e
    obtain ⟨a, rfl, h1⟩ := view_scr (ns := ns) h rfl
    refine .inl ⟨a, _, rfl, h1, RWs.ints ns, fun S H x r' _ => ?_⟩
    obtain ⟨b, eb, h2⟩ := view_scr (ns := ns) (h.mono x) rfl
    cases eb
    exact ⟨_, h2, RWs.ints ns⟩
  | str z =>
    cases e
    obtain ⟨rfl, ok⟩ := view_str (x := z) h rfl
    exact .inr (.inr ⟨z, rfl, ok, rfl⟩)
  | ref a =>
    have key : ∀ S, seqW S (.ref a) = some xs → S a = some (.lst xs) := fun S e => by
      cases hs : S a with
      | none => simp [seqW, view, hs] at e
      | some o =>
        cases o with
        | lst ys => simp [seqW, view, hs] at e; rw [e]
        | _ => simp [seqW, view, hs] at e
    cases h
    have get : ∀ S H, Rel K S H → seqW S (.ref a) = some xs → ∃ us, SqL K H a us ∧ RWs K S H xs us := fun S H r e => by
      cases r _ _ (key S e) with
      | lst h q => exact ⟨_, .inl (.inl h), q⟩
    obtain ⟨vs, sq, q⟩ := get S0 H0 r e
    exact .inl ⟨a, vs, rfl, sq, q, fun S H _ r' e' => get S H r' e'⟩
  | _ => cases e
theorem lst_src {K : PySem.W.Frag} {S0 : Sto} {H0 : Hp} {w : W} {v : V} {xs : List W} (r : Rel K S0 H0) (h : RW K S0 H0 w v) (e : view S0 w = .lst xs) :
    ∃ a vs, v = .ref a ∧ SqL K H0 a vs ∧ ∀ S H, Nx S0 H0 S H → Rel K S H → seqW S w = some xs → ∃ us, SqL K H a us ∧ RWs K S H xs us := by
  obtain ⟨a, vs, rfl, h1, q⟩ := view_lst r h e
  refine ⟨a, vs, rfl, .inl (.inl h1), fun S H x r' e' => ?_⟩
  have e2 : view S w = .lst xs := by
    cases w with
    | lst ys => exact e
    | ref b =>
      cases hs : S b with
      | none => simp [seqW, view, hs] at e'
      | some o =>
        cases o with
        | lst ys => simp [seqW, view, hs] at e'; simp [view, hs, e']
        | _ => simp [seqW, view, hs] at e'
    | _ => cases e
  obtain ⟨b, us, eb, h2, q2⟩ := view_lst r' (h.mono x) e2
  cases eb
  exact ⟨us, .inl (.inl h2), q2⟩
theorem tup_src {K : PySem.W.Frag} {S0 : Sto} {H0 : Hp} {w : W} {v : V} {xs : List W} (h : RW K S0 H0 w v) (e : view S0 w = .tup xs) :
    ∃ a vs, v = .ref a ∧ SqT K H0 a vs ∧ ∀ S H, Nx S0 H0 S H → ∃ us, SqT K H a us ∧ RWs K S H xs us := by
  obtain ⟨a, vs, rfl, h1, q⟩ := view_tup h e
  have h' := view_tup_self h e
  refine ⟨a, vs, rfl, h1, fun S H x => ?_⟩
  obtain ⟨b, us, eb, h2, q2⟩ := view_tup (xs := xs) (h'.mono x) rfl
  cases eb
  exact ⟨us, h2, q2⟩
section
variable {X : Cx} {Z : WX} {tg l : Expr} {te : DE'}
theorem di_seq (hl : DE X Z l te) : DI X Z tg l (ζD te) := PI.im (pi_any hl) fun σ H R ⟨ω, S, Qd, a, h, f⟩ => by
  refine ⟨ω, S, _, a, h, fun w S1 v H1 x1 r1 q1 h1 => ?_⟩
  split at h1
  · rename_i xs e
    rcases seqW_src r1 q1 e with ⟨b, vs, rfl, sq, _, hh⟩ | ⟨b, vs, rfl, sq, _, hh⟩ | ⟨z, rfl, ok, rfl⟩
    · exact .inl ⟨b, vs, rfl, sq, f _ _ _ _ _ x1 r1 (src_l hh) h1⟩
    · exact .inr (.inl ⟨b, vs, rfl, sq, f _ _ _ _ _ x1 r1 (src_t hh) h1⟩)
    · exact .inr (.inr ⟨z, rfl, f _ _ _ _ _ x1 r1 (src_s ok) h1⟩)
  · exact h1.elim
def irange (lo : Int) (n : Nat) : List W := (List.range n).map fun (i : Nat) => W.int (lo + i)
def ζA (t : DA') : DI' := fun ω S Q => t ω S fun ws S1 => match ws with
  | [.int j] => (-(2 ^ 62) ≤ j ∧ j < 2 ^ 62) ∧ Q (irange 0 j.toNat) (fun _ => True) S1
  | _ => False
def ζB (t : DA') : DI' := fun ω S Q => t ω S fun ws S1 => match ws with
  | [.int i, .int j] => (-(2 ^ 62) ≤ i ∧ i < 2 ^ 62 ∧ -(2 ^ 62) ≤ j ∧ j < 2 ^ 62) ∧ Q (irange i (j - i).toNat) (fun _ => True) S1
  | _ => False
theorem src_r {K : PySem.W.Frag} {S0 : Sto} {H0 : Hp} {lo : Int} {n : Nat} : Src K S0 H0 (Itr lo n) (irange lo n) (fun _ => True) := by
  have hl : (irange lo n).length = n := by unfold irange; rw [List.length_map, List.length_range]
  refine ⟨fun i S H x r o hi => by rw [hl] at hi; exact hi, fun i S H v H' x r o hi y => ?_, fun i S H x r o hi => by rw [hi, hl]; exact Nat.le_refl _⟩
  obtain ⟨e, rfl⟩ := y
  subst e
  rw [hl] at hi
  refine ⟨.int (lo + i), ?_, Nx.refl, r, .int _⟩
  unfold irange
  rw [List.getElem?_map, List.getElem?_range hi]
  rfl
theorem di_range1 {a : Expr} {t : DA'} {p pos : Pos} (hm : X.mg "range" = none) (ha : DA X Z [a] t) (hg : Gl X "range" := by rfl) (hs : starEach [a] X.env = [(false, eval a X.env)] := by rfl) : DI X Z tg (.Call (.Name "range" p) [a] [] pos) (ζA t) := PI.im (pi_range1 hg hm ha hs) fun σ H R ⟨ω, S, Qd, a, h, f⟩ => by
  refine ⟨ω, S, _, a, h, fun ws S1 vs H1 x1 r1 q1 h1 => ?_⟩
  split at h1
  · obtain ⟨v, rfl, q⟩ := q1.one
    cases q
    exact ⟨_, rfl, h1.1.1, h1.1.2, f _ _ _ _ _ x1 r1 src_r h1.2⟩
  · exact h1.elim
theorem di_range2 {a b : Expr} {t : DA'} {p pos : Pos} (hm : X.mg "range" = none) (ha : DA X Z [a, b] t) (hg : Gl X "range" := by rfl) (hs : starEach [a, b] X.env = [(false, eval a X.env), (false, eval b X.env)] := by rfl) (hs2 : starEach [b] X.env = [(false, eval b X.env)] := by rfl) :
    DI X Z tg (.Call (.Name "range" p) [a, b] [] pos) (ζB t) := PI.im (pi_range2 hg hm ha hs hs2) fun σ H R ⟨ω, S, Qd, a, h, f⟩ => by
  refine ⟨ω, S, _, a, h, fun ws S1 vs H1 x1 r1 q1 h1 => ?_⟩
  split at h1
  · obtain ⟨v, v', rfl, q, q'⟩ := q1.two
    cases q; cases q'
    exact ⟨_, _, rfl, h1.1, f _ _ _ _ _ x1 r1 src_r h1.2⟩
  · exact h1.elim
def ienum (xs : List W) : List W := (List.range xs.length).zip xs |>.map fun p => W.tup [.int (p.1 : Nat), p.2]
theorem ienum_len (xs : List W) : (ienum xs).length = xs.length := by unfold ienum; simp
theorem ienum_at {xs : List W} {i : Nat} {w : W} (h : xs[i]? = some w) : (ienum xs)[i]? = some (.tup [.int (i : Nat), w]) := by
  unfold ienum
  have hi : i < xs.length := (List.getElem?_eq_some_iff.mp h).1
  have e : ((List.range xs.length).zip xs)[i]? = some (i, w) := List.getElem?_zip_eq_some.mpr ⟨List.getElem?_range hi, h⟩
  rw [List.getElem?_map, e]
  rfl
theorem Rel.newT {K : PySem.W.Frag} {S : Sto} {H : Hp} {a : Addr} {ws : List W} {vs : List V} (r : Rel K S H) (n : H a = none) (q : RWs K S H ws vs) : RW K S (upd H a (.tup vs)) (.tup ws) (.ref a) := .tup upd_same (r.free n) (q.mono (Nx.new n))
theorem src_e {K : PySem.W.Frag} {S0 : Sto} {H0 : Hp} {a : Addr} {xs : List W} {ok : Sto → Prop} (h : ∀ S H, Nx S0 H0 S H → Rel K S H → ok S → ∃ vs, SqL K H a vs ∧ RWs K S H xs vs) : Src K S0 H0 (Ite K a) (ienum xs) ok := by
  refine ⟨fun i S H x r o hi => ?_, fun i S H v H' x r o hi y => ?_, fun i S H x r o hi => ?_⟩
  · obtain ⟨vs, sq, rs⟩ := h S H x r o
    have hl := rs.len
    rw [ienum_len] at hi
    exact ⟨vs, vs[i], sq, by simp [show i < vs.length by omega]⟩
  · obtain ⟨vs, sq, rs⟩ := h S H x r o
    obtain ⟨T, x', rfl, hT, rfl, y⟩ := y
    obtain ⟨w, ew, rw'⟩ := rs.get' (y vs sq)
    exact ⟨_, ienum_at ew, Nx.new hT, r.new hT, r.newT hT (.cons (.int _) (.cons rw' .nil))⟩
  · obtain ⟨vs, sq, rs⟩ := h S H x r o
    exact ⟨vs, sq, by rw [← rs.len, hi, ienum_len]; exact Nat.le_refl _⟩
end
def dFor (di : DI') (T : Tg) (tb : DS') : DS' := fun D ω S => di ω S fun xs ok S1 => ∃ P : Nat → Om → Sto → Prop, P 0 ω S1 ∧ (∀ i ω' S', P i ω' S' → ok S') ∧
  (∀ i w ω' S', xs[i]? = some w → P i ω' S' → ∃ ω2, ζt T w ω' = some ω2 ∧ tb { D with nx := P (i + 1), ct := P (i + 1), bk := D.nx } ω2 S') ∧ ∀ ω' S', P xs.length ω' S' → D.nx ω' S'
def dWhile (c : DT') (tb : DS') : DS' := fun D ω S => ∃ P : Nat → Om → Sto → Prop, (∃ m, P m ω S) ∧ ∀ m ω' S', P m ω' S' →
  c ω' S' fun b S1 => if b = true then ∃ N : Om → Sto → Prop, (∀ ω2 S2, N ω2 S2 → ∃ m', m' < m ∧ P m' ω2 S2) ∧ tb { D with nx := N, ct := N, bk := D.nx } ω' S1 else D.nx ω' S1
section
variable {X : Cx} {Z : WX} {tg iter : Expr} {body : List Stmt} {di : DI'} {T : Tg} {tb : DS'} {pos : Pos}
theorem ds_for (hp : PassesOwn (model X.prog X.w) X.A X.env X.xe) (hi : DI X Z tg iter di) (hg : PG X tg (gOf X.K T)) (hb : DSs X Z body tb) (hc : X.calm = true := by rfl) (hs : ∀ x, foldedSetIterable iter X.env x = pure x := by intro _; rfl) :
    DS X Z (.For tg iter body [] pos) (dFor di T tb) := PS.im (ps_for hp hc hi hg hb hs) fun D σ H ⟨ω, S, Dd, a, h, f⟩ => by
  refine ⟨ω, S, _, a, h, fun xs ok S1 H1 J x1 r1 src ⟨P, p0, pk, ps, pe⟩ => ?_⟩
  refine ⟨fun i m σ' H' => m = xs.length - i ∧ i ≤ xs.length ∧ ∃ ω' S', At X.K Z S' H' σ' ω' ∧ Nx S1 H1 S' H' ∧ P i ω' S', ⟨xs.length, by simp, Nat.zero_le _, ω, S1, a.to x1 r1, Nx.refl, p0⟩, ?_⟩
  rintro i m σ' H' ⟨rfl, hi, ω', S', a', x', p⟩
  by_cases hlt : i < xs.length
  · refine .inr ⟨src.go i S' H' x' a'.rel (pk _ _ _ p) hlt, fun σ2 H2 => ∃ ω2 S2, At X.K Z S2 H2 σ2 ω2 ∧ Nx S1 H1 S2 H2 ∧ P (i + 1) ω2 S2, fun σ2 H2 ⟨ω2, S2, a2, x2, p2⟩ => ⟨xs.length - (i + 1), by omega, rfl, hlt, ω2, S2, a2, x2, p2⟩, fun v H2 y => ?_⟩
    obtain ⟨w, ew, x2, r2, q2⟩ := src.yld i S' H' v H2 x' a'.rel (pk _ _ _ p) hlt y
    obtain ⟨ω2, eb, hb⟩ := ps i w ω' S' ew p
    obtain ⟨σ3, a3, _, hq⟩ := tbind_ok eb (a'.to x2 r2) q2
    refine hq _ ⟨ω2, S', _, a3, hb, ⟨fun ω4 S4 σ4 H4 x4 a4 p4 => ⟨ω4, S4, a4, x'.trans (x2.trans x4), p4⟩, (f.to (x1.trans (x'.trans x2))).rt, fun ω4 S4 σ4 H4 x4 a4 p4 => f.nx _ _ _ _ (x1.trans (x'.trans (x2.trans x4))) a4 p4, fun ω4 S4 σ4 H4 x4 a4 p4 => ⟨ω4, S4, a4, x'.trans (x2.trans x4), p4⟩⟩⟩
  · have e : i = xs.length := by omega
    subst e
    exact .inl ⟨src.stop _ S' H' x' a'.rel (pk _ _ _ p) rfl, f.nx _ _ _ _ (x1.trans x') a' (pe _ _ p)⟩
theorem ds_while {c : Expr} {tc : DT'} (hp : PassesOwn (model X.prog X.w) X.A X.env X.xe) (hc : DT X Z c tc) (hb : DSs X Z body tb) : DS X Z (.While c body [] pos) (dWhile tc tb) := PS.im (ps_while hp hc hb) fun D σ H ⟨ω, S, Dd, a, h, f⟩ => by
  obtain ⟨P, ⟨m0, p0⟩, turn⟩ := h
  refine ⟨fun m σ' H' => ∃ ω' S', At X.K Z S' H' σ' ω' ∧ Nx S H S' H' ∧ P m ω' S', ⟨m0, ω, S, a, Nx.refl, p0⟩, ?_⟩
  rintro m σ' H' ⟨ω', S', a', x', p⟩
  refine ⟨ω', S', _, a', turn m ω' S' p, fun b S1 H1 x1 r1 h1 => ?_⟩
  cases b with
  | true =>
    rw [if_pos rfl] at h1 ⊢
    obtain ⟨N, hN, h1⟩ := h1
    refine ⟨fun σ2 H2 => ∃ ω2 S2, At X.K Z S2 H2 σ2 ω2 ∧ Nx S H S2 H2 ∧ N ω2 S2, fun σ2 H2 ⟨ω2, S2, a2, x2, n2⟩ => ?_, ?_⟩
    · obtain ⟨m', hm, p2⟩ := hN ω2 S2 n2
      exact ⟨m', hm, ω2, S2, a2, x2, p2⟩
    · exact ⟨ω', S1, _, a'.to x1 r1, h1, ⟨fun ω4 S4 σ4 H4 x4 a4 p4 => ⟨ω4, S4, a4, x'.trans (x1.trans x4), p4⟩, (f.to (x'.trans x1)).rt, fun ω4 S4 σ4 H4 x4 a4 p4 => f.nx _ _ _ _ (x'.trans (x1.trans x4)) a4 p4, fun ω4 S4 σ4 H4 x4 a4 p4 => ⟨ω4, S4, a4, x'.trans (x1.trans x4), p4⟩⟩⟩
  | false =>
    rw [if_neg Bool.false_ne_true] at h1 ⊢
    exact f.nx _ _ _ _ (x'.trans x1) (a'.to x1 r1) h1
end
def wps (ω : List (Option W)) : List Nat → List (Option W)
  | [] => ω
  | v :: vs => (wps ω vs).set v none
def wp (ω : Om) (vs : List Nat) : Om := ⟨wps ω.s vs, XF⟩
theorem At.wipe {K : PySem.W.Frag} {S : Sto} {H : Hp} {σ : L2.St} {ω : Om} (a : At K Z S H σ ω) (vs : List Nat) : At K Z0 S H (L2.wipe σ vs) (wp ω vs) := by
  refine ⟨a.rel, ?_, .zero⟩
  show RS K S H (L2.wipe σ vs) (wps ω.s vs)
  have := a.rs
  clear a
  induction vs with
  | nil => exact this
  | cons v vs ih =>
    refine ⟨by rw [L2.wipe, wps, List.length_set, List.length_set]; exact ih.len, fun i w e => ?_⟩
    unfold wps at e
    unfold L2.wipe
    rw [List.getElem?_set] at e
    by_cases hv : v = i
    · rw [if_pos hv] at e
      split at e <;> cases e
    · rw [if_neg hv] at e
      rw [List.getElem?_set_ne hv]
      exact ih.at' i w e
theorem Rel.frz {K : PySem.W.Frag} {S : Sto} {H : Hp} {p : Addr} {ws : List W} (r : Rel K S H) (h : S p = some (.lst ws)) : Nx S H (del S p) H ∧ Rel K (del S p) H ∧ RW K (del S p) H (.lst ws) (.ref p) := by
  have x : Nx S H (del S p) H := ⟨fun _ _ h _ => h, fun b o _ n => by
    by_cases e : b = p
    · subst e; exact del_same
    · rw [del_ne e]; exact n⟩
  refine ⟨x, fun b o hb => ?_, ?_⟩
  · have hn : b ≠ p := fun e => by subst e; rw [del_same] at hb; cases hb
    rw [del_ne hn] at hb
    refine (r b o hb).mono x rfl fun d hd => ?_
    rw [del_ne fun e => by subst e; rw [h] at hd; cases hd]
    exact hd
  · cases r _ _ h with
    | lst h1 q => exact .lst h1 del_same (q.mono x)
def dLc (di : DI') (T : Tg) (tt : DT') (te : DE') (own : List Nat) : DE' := fun ω S Q => di ω S fun xs ok S1 => ∀ p, S1 p = none → ∃ P : Nat → List W → Sto → Prop, P 0 [] (up S1 p (.lst [])) ∧
  (∀ i acc S', P i acc S' → ok S' ∧ S' p = some (.lst acc)) ∧
  (∀ i w acc S', xs[i]? = some w → P i acc S' → ∃ ω2, ζt T w (wp ω own) = some ω2 ∧ tt ω2 S' fun b S3 => if b = true then te ω2 S3 fun v S4 => ∃ acc', S4 p = some (.lst acc') ∧ acc'.length < 1000000 ∧ P (i + 1) (acc' ++ [v]) (up S4 p (.lst (acc' ++ [v]))) else ∃ acc', P (i + 1) acc' S3) ∧
  ∀ acc S', P xs.length acc S' → Q (.lst acc) (del S' p)
def dYes : DT' := fun _ S Q => Q true S
section
variable {X : Cx} {Z : WX} {tg iter elt : Expr} {ifs : List Expr} {di : DI'} {T : Tg} {tt : DT'} {te : DE'} {pos : Pos} {scope : Scope} {own : List (Str × Nat)}
abbrev DTs (X : Cx) (Z : WX) (ifs : List Expr) (t : DT') : Prop := PTs X ifs (uT X.K Z t)
theorem dts_nil : DTs X Z [] dYes := ⟨fun pins s σ H Q I ⟨ω, S, Qd, a, h, f⟩ => (pts_nil (X := X)).run pins s σ H Q I (f _ _ _ Nx.refl a.rel h)⟩
theorem dts_one {c : Expr} {t : DT'} (h : DT X Z c t) : DTs X Z [c] t := pts_one h
theorem uLc {K : PySem.W.Frag} {vs : List Nat} (hT : ∀ i ∈ tix T, i ∈ vs) {σ : L2.St} {H : Hp} {Q : VK} (h : uE K Z (dLc di T tt te vs) σ H Q) : tLc (uI K Z di) (gOf K T) (uT K Z0 tt) (uE K Z0 te) vs σ H Q := by
  obtain ⟨ω, S, Qd, a, h, f⟩ := h
  refine ⟨ω, S, _, a, h, fun xs ok S1 H1 J x1 r1 src hp => fun D nD => ?_⟩
  obtain ⟨P, p0, pk, ps, pe⟩ := hp D (r1.free nD)
  have aw := (a.to x1 r1).wipe vs
  have r2 : Rel K (up S1 D (.lst [])) (upd H1 D (.lst [])) := r1.newS nD (.lst upd_same .nil)
  refine ⟨fun i m H' => m = xs.length - i ∧ i ≤ xs.length ∧ ∃ acc S', Rel K S' H' ∧ Nx S1 H1 S' H' ∧ P i acc S', ⟨xs.length, by simp, Nat.zero_le _, [], _, r2, Nx.newS nD, p0⟩, ?_⟩
  rintro i m H' ⟨rfl, hi, acc, S', r', x', p⟩
  by_cases hlt : i < xs.length
  · refine .inr ⟨src.go i S' H' x' r' (pk _ _ _ p).1 hlt, fun H2 => ∃ acc S2, Rel K S2 H2 ∧ Nx S1 H1 S2 H2 ∧ P (i + 1) acc S2, fun H2 ⟨acc2, S2, r2, x2, p2⟩ => ⟨xs.length - (i + 1), by omega, rfl, hlt, acc2, S2, r2, x2, p2⟩, fun v H2 y => ?_⟩
    obtain ⟨w, ew, x2, r2, q2⟩ := src.yld i S' H' v H2 x' r' (pk _ _ _ p).1 hlt y
    obtain ⟨ω2, eb, hb⟩ := ps i w acc S' ew p
    obtain ⟨σ3, a3, hw, hq⟩ := tbind_ok eb (aw.to (x'.trans x2) r2) q2
    refine hq _ ⟨?_, ω2, S', _, a3, hb, fun b S3 H3 x3 r3 h3 => ?_⟩
    · rw [hw vs hT]
      have : ∀ (σ : L2.St) (us : List Nat), (∀ i ∈ us, i ∈ vs) → L2.wipe (L2.wipe σ us) vs = L2.wipe σ vs := by
        intro σ us
        induction us with
        | nil => intro _; rfl
        | cons u us ih =>
          intro hu
          show L2.wipe ((L2.wipe σ us).set u none) vs = _
          rw [wipe_set (hu u (List.mem_cons_self ..))]
          exact ih fun i hi => hu i (List.mem_cons_of_mem _ hi)
      exact this σ vs fun _ h => h
    · cases b with
      | true =>
        rw [if_pos rfl] at h3 ⊢
        refine ⟨ω2, S3, _, a3.to x3 r3, h3, fun w4 S4 v4 H4 x4 r4 q4 h4 => ?_⟩
        obtain ⟨acc', hs, hl, p5⟩ := h4
        cases r4 _ _ hs with
        | @lst _ vs' hH rs =>
          refine ⟨vs', hH, by rw [← rs.len]; exact sz_lt hl, acc' ++ [w4], _, r4.wr hs (fun _ z => by cases z) (.lst upd_same ((rs.app (.cons q4 .nil)).mono (Nx.wr hs))), x'.trans (x2.trans (x3.trans (x4.trans (Nx.wr hs)))), p5⟩
      | false =>
        rw [if_neg Bool.false_ne_true] at h3 ⊢
        obtain ⟨acc', p5⟩ := h3
        exact ⟨acc', S3, r3, x'.trans (x2.trans x3), p5⟩
  · have e : i = xs.length := by omega
    subst e
    obtain ⟨ok', hs⟩ := pk _ _ _ p
    obtain ⟨xf, rf, qf⟩ := r'.frz hs
    exact .inl ⟨src.stop _ S' H' x' r' ok' rfl, f _ _ _ _ (x1.trans (x'.trans xf)) rf qf (pe _ _ p)⟩
theorem de_lc (hN : X.N.Nodup) (hi : DI X Z tg iter di) (ok : BlkOk X.N X.env.scope scope own)
    (hg : ∀ (s : Shared) (H : Hp) (C : Addr) (cl : List (Str × Addr)) (fp : List Addr), PG (X.blk s H scope (compEnvC scope cl C X.env) fp) tg (gOf X.K T)) (ht : ∀ (s : Shared) (H : Hp) (C : Addr) (cl : List (Str × Addr)) (fp : List Addr), DTs (X.blk s H scope (compEnvC scope cl C X.env) fp) Z0 ifs tt)
    (he : ∀ (s : Shared) (H : Hp) (C : Addr) (cl : List (Str × Addr)) (fp : List Addr), DE (X.blk s H scope (compEnvC scope cl C X.env) fp) Z0 elt te) (hT : ∀ i ∈ tix T, i ∈ own.map (·.2) := by decide) (hc : X.calm = true := by rfl) (hs : ∀ x, foldedSetIterable iter X.env x = pure x := by intro _; rfl) :
    DE X Z (.ListComp elt [⟨tg, iter, ifs, 0⟩] scope pos) (dLc di T tt te (own.map (·.2))) := PE.im (pe_lc hc hN hi ok hg ht he hs) fun _ _ _ => uLc hT
theorem ds_setLc {i : Nat} {y : Str} {py spos : Pos} (hN : X.N.Nodup) (hi : DI X Z tg iter di) (ok : BlkOk X.N X.env.scope scope own)
    (hg : ∀ (s : Shared) (H : Hp) (C : Addr) (cl : List (Str × Addr)) (fp : List Addr), PG (X.blk s H scope (compEnvC scope cl C X.env) fp) tg (gOf X.K T)) (ht : ∀ (s : Shared) (H : Hp) (C : Addr) (cl : List (Str × Addr)) (fp : List Addr), DTs (X.blk s H scope (compEnvC scope cl C X.env) fp) Z0 ifs tt)
    (he : ∀ (s : Shared) (H : Hp) (C : Addr) (cl : List (Str × Addr)) (fp : List Addr), DE (X.blk s H scope (compEnvC scope cl C X.env) fp) Z0 elt te) (hsw : swapsWith (.ListComp elt [⟨tg, iter, ifs, 0⟩] scope pos) (some (.Name y py)) spos.line X.env = pure true) (hT : ∀ i ∈ tix T, i ∈ own.map (·.2) := by decide) (hy : X.N[i]? = some y := by rfl) (hyl : X.env.scope.names.lookup y = some .local := by rfl) (hc : X.calm = true := by rfl) (hs : ∀ x, foldedSetIterable iter X.env x = pure x := by intro _; rfl) :
    DS X Z (.Assign [.Name y py] (.ListComp elt [⟨tg, iter, ifs, 0⟩] scope pos) spos) (ξa i (dLc di T tt te (own.map (·.2)))) := PS.im (ps_setLc hc hN hy hyl hsw hi ok hg ht he hs) fun D σ H ⟨ω, S, Dd, a, h, f⟩ =>
  uLc hT ⟨ω, S, _, a, h, fun w S1 v H1 x1 r1 q1 h1 => f.nx _ _ _ _ x1 ((a.to x1 r1).set q1 i) h1⟩
end
abbrev XW := Value → Option (List (Str × W)) → Sto → Prop
abbrev DSp := List W → Sto → WQ → XW → Prop
def FinX (K : PySem.W.Frag) (S : Sto) (H : Hp) (Ed : XW) (E : XK) : Prop := ∀ c fs S' H' d, Nx S H S' H' → Rel K S' H' → Xr K S' H' fs d → Ed c fs S' → E c d H'
def X0 : XW := fun _ _ _ => False
theorem FinX.zero {K : PySem.W.Frag} {S : Sto} {H : Hp} {E : XK} : FinX K S H X0 E := fun _ _ _ _ _ _ _ _ h => h.elim
def uSp (K : PySem.W.Frag) (dsp : DSp) : Sp := fun vs H Q E => ∃ ws S Qd Ed, Rel K S H ∧ RWs K S H ws vs ∧ dsp ws S Qd Ed ∧ Fin K S H Qd Q ∧ FinX K S H Ed E
def ζh (N : List Str) (ws : List W) : List (Option W) := ws.map some ++ List.replicate (N.length - ws.length) none
theorem RS.start {K : PySem.W.Frag} {S : Sto} {H : Hp} {N : List Str} {ws : List W} {vs : List V} (rs : RWs K S H ws vs) : RS K S H (start N vs) (ζh N ws) := by
  refine ⟨by unfold L2.start ζh; simp [rs.len], fun i w e => ?_⟩
  unfold ζh at e
  unfold L2.start
  have hl := rs.len
  by_cases hi : i < ws.length
  · rw [List.getElem?_append_left (by rw [List.length_map]; exact hi), List.getElem?_map] at e
    rw [List.getElem?_append_left (by rw [List.length_map]; omega), List.getElem?_map]
    cases h : ws[i]? with
    | none => rw [h] at e; cases e
    | some w' =>
      rw [h] at e
      cases e
      obtain ⟨v, ev, rv⟩ := rs.get h
      exact ⟨v, by rw [ev]; rfl, rv⟩
  · rw [List.getElem?_append_right (by rw [List.length_map]; omega)] at e
    have := List.mem_of_getElem? e
    rw [List.mem_replicate] at this
    cases this.2
section
variable {P : Program} {w : World} {K : PySem.W.Frag} {mg : Str → Option Value} {base : Heap}
theorem Fun.okD {x qual : Str} {st : Stmt} {f : Addr} {fd : FuncData} {N ps : List Str} {k : Nat} {dsp : DSp} (F : Fun K x qual st f fd) (sc : FnScope N ps (defScope st)) (td : DS')
    (hb : ∀ (cdv : Value) (A : Around) (outer : List Env) (s : Shared) (H : Hp) (E : XK), Room k (A.deeper (envOfC qual (defScope st) s.heap.objs.size f cdv)) → DSs (cxOf CX0 P w K mg base N qual (defScope st) f cdv A outer s H E).nox Z0 (defBody st) td)
    (len : ∀ ws S Q E, dsp ws S Q E → ws.length = ps.length) (hd : ∀ ws S Q E, dsp ws S Q E → td { nx := fun _ S' => Q .non S', rt := Q } ⟨ζh N ws, XF⟩ S) : FnOk P w K mg base CX0 (k + 1) f fd ps (uSp K dsp) := by
  refine F.ok sc (fun vs H Q E ⟨ws, S, Qd, Ed, r, rs, h, _⟩ => by rw [← rs.len]; exact len _ _ _ _ h) fun cdv A outer s H vs Q E hr ⟨ws, S, Qd, Ed, r, rs, h, f, fx⟩ => ⟨_, hb cdv A outer s H E hr, ?_⟩
  exact ⟨⟨ζh N ws, XF⟩, S, _, ⟨r, RS.start rs, .zero⟩, hd ws S Qd Ed h, ⟨fun ω' S' σ' H' x a q => f _ _ _ _ x a.rel .non q, f, fun _ _ _ _ _ _ q => q.elim, fun _ _ _ _ _ _ q => q.elim⟩⟩
def CalD (P : Program) (w : World) (K : PySem.W.Frag) (mg : Str → Option Value) (base : Heap) (k : Nat) (x : Str) (dsp : DSp) : Prop :=
  ∃ (f : Addr) (fd : FuncData) (ps : List Str), FnOk P w K mg base CX0 k f fd ps (uSp K dsp) ∧ mg x = some (.ref f) ∧ PySem.W.keepIn K (.ref f) = true ∧ Binds K fd ps []
def ζu (dsp : DSp) (t : DA') : DE' := fun ω S Q => t ω S fun ws S1 => dsp ws S1 Q X0
theorem uCall {K : PySem.W.Frag} {Z : WX} {dsp : DSp} {t : DA'} {E : XK} {σ : L2.St} {H : Hp} {Q : VK} (h : uE K Z (ζu dsp t) σ H Q) : tCall (uSp K dsp) [] E (uA K Z t) σ H Q := by
  obtain ⟨ω, S, Qd, a, h, f⟩ := h
  refine ⟨ω, S, _, a, h, fun ws S1 vs H1 x1 r1 q1 h1 => ?_⟩
  show uSp K dsp (vs ++ []) H1 Q E
  rw [List.append_nil]
  exact ⟨ws, S1, Qd, X0, r1, q1, h1, fun w S' v H' x r q h => f w S' v H' (x1.trans x) r q h, .zero⟩
theorem de_call {X : Cx} {Z : WX} {k j : Nat} {x : Str} {dsp : DSp} {p pos : Pos} {e : Expr} {es : List Expr} {t : DA'} (c : CalD X.prog X.w X.K X.mg X.base k x dsp) (hr : Room j X.A) (ha : DA X Z (e :: es) t) (hk : k ≤ j := by decide) (hg : Gl X x := by rfl)
    (hdb : (x == ("__debug__" : Str)) = false := by decide) (he : starEach (e :: es) X.env = (false, eval e X.env) :: starEach es X.env := by rfl) (hpl : (backTo pos (starEach es X.env)).any (·.1) = false := by rfl) :
    DE X Z (.Call (.Name x p) (e :: es) [] pos) (ζu dsp t) := by
  obtain ⟨f, fd, ps, F, hm, kp, b⟩ := c
  exact PE.im (pe_call F (hr.mono hk) hg hm kp b .nil pass0 ha hdb he hpl) fun _ _ _ => uCall
end
section
variable {X : Cx} {pins : List (Addr × Obj)} {σ : L2.St} {H : Hp} {s : Shared} {a : Addr} {b : Bool} {xs ys : List V}
end
def IteT (K : PySem.W.Frag) (a : Addr) : It where
  go := fun i H => ∃ (xs : List V) (x : V), SqT K H a xs ∧ xs[i]? = some x
  yld := fun i H v H' => ∃ T x, v = .ref T ∧ H T = none ∧ H' = upd H T (.tup [.int (i : Nat), x]) ∧ ∀ xs, SqT K H a xs → xs[i]? = some x
  stop := fun i H => ∃ xs : List V, SqT K H a xs ∧ xs.length = i
theorem turn_enT {P : Program} {w : World} {K : PySem.W.Frag} {elts : List Expr} {kk : Nat} {tpos : Pos} (a e it : Addr) :
    Turn P w K (.Tuple elts kk tpos) (IteT K a) [e, it] e (fun i h => (∃ old, IsEnum h e it ((i : Nat) : Int) old) ∧ h.IsTupleIter it a i ∧ e ≠ it ∧ a ≠ it ∧ e ≠ a) where
  mem := List.mem_cons_self ..
  obj := fun i h ⟨⟨old, he⟩, ⟨o, ho, _, hd⟩, _⟩ b hb => by
    rcases List.mem_cons.mp hb with z | hb
    · subst z; exact ⟨_, he, fun _ q => nomatch q⟩
    · cases List.mem_singleton.mp hb
      exact ⟨o, ho, fun v q => by rw [hd] at q; cases q⟩
  keep := fun i h h' ⟨⟨old, he⟩, hi, ns⟩ k => ⟨⟨old, k e (List.mem_cons_self ..) _ he⟩, hi.at fun o q => k it (List.mem_cons_of_mem _ (List.mem_cons_self ..)) o q, ns⟩
  item := fun X hP hw hK hc i pins s σ H E I hf ⟨⟨old, he⟩, hit, hne, hai, hea⟩ ⟨xs, x, hq, hx⟩ => by
    subst hP hw hK
    obtain ⟨its, rv, p, _⟩ := I.tuple hq
    obtain ⟨u, hu, ru⟩ := rv.get hx
    have hlt : i < its.toArray.size := by
      rw [List.size_toArray]
      exact (List.getElem?_eq_some_iff.mp hu).1
    refine wpAny_pyNext_enum_itemD (Draws.tuple (A := X.A.in1) (show X.A.in1.handled = none from I.ok.hd hc) it a hai its.toArray) he ⟨hit, p⟩ hlt hne (fun z => ?_) fun y h' tk py ho st' hT hz hk => ?_
    · rcases List.mem_cons.mp z with z | z
      · exact hne z
      · exact hea (List.mem_singleton.mp z)
    obtain rfl : y = u := by
      have : its[i]? = some y := by simpa using py
      rw [hu] at this
      exact (Option.some.inj this).symm
    refine ⟨_, rfl, wpAny_letOwnedTupleGo_enum (s := { s with heap := h', toks := tk + 1 }) ho fun h2 he2 sb => ?_⟩
    have el : e < s.heap.objs.size := Heap.lt_size he
    have il : it < s.heap.objs.size := let ⟨_, q, _⟩ := hit; Heap.lt_size q
    have hT2 := (sb.2 _ (Nat.ne_of_gt el)).trans hT
    have new : ObjOk X.prog X.w (upd H s.heap.objs.size (.tup [.int (i : Nat), x])) h2 s.heap.objs.size (.tup [.int (i : Nat), x]) :=
      ⟨by show 2 ≤ sizeLine; decide, [.int i tk, y], .cons ⟨_, rfl⟩ (.cons ru .nil), ⟨_, hT2, rfl, _, rfl⟩⟩
    have J := I.turnedNew (t' := tk + 1) (ch := [e, it]) (fun b ob hb q => (sb.2 b fun z => hb (by simp [z])).trans (hk b ob (fun z => hb (by simp [z])) (fun z => hb (by simp [z])) q)) hf (Nat.le_refl _) new
    have ec : ((i + 1 : Nat) : Int) = (i : Int) + 1 := by omega
    refine ⟨.ref s.heap.objs.size, _, J, rfl, ⟨_, x, rfl, I.hok.fresh (Nat.le_refl _), rfl, fun zs hz' => by rw [I.tuple_inj hz' hq]; exact hx⟩, ⟨⟨y, by rw [ec]; exact he2⟩, st'.1.at fun o q => (sb.2 it (Ne.symm hne)).trans q, hne, hai, hea⟩, fun b hb => ?_⟩
    have hb' : b < s.heap.objs.size := by
      rcases List.mem_cons.mp hb with z | z
      · rw [z]; exact el
      · rw [List.mem_singleton.mp z]; exact il
    rw [upd_ne (Nat.ne_of_lt hb')]
    exact (hf b hb).1
  done := fun X hP hw hK hc i pins s σ H E I hf ⟨⟨old, he⟩, hit, hne, hai, hea⟩ ⟨xs, hq, hx⟩ => by
    subst hP hw hK
    obtain ⟨its, rv, p, _⟩ := I.tuple hq
    obtain ⟨f0, f1, f2, f3, f4, f5⟩ := hf it (List.mem_cons_of_mem _ (List.mem_cons_self ..))
    have hl : i = its.toArray.size := by rw [List.size_toArray, ← rv.length]; exact hx.symm
    exact wpAny_pyNext_enum_endD (Draws.tuple (A := X.A.in1) (show X.A.in1.handled = none from I.ok.hd hc) it a hai its.toArray) he ⟨hl ▸ hit, p⟩ fun h' eb => ⟨rfl, I.turned (t' := s.toks) (fun b o hb q => eb b o hb q) f0 f1 f3 f4 f5⟩
  self := fun A i s Q E ⟨⟨_, he⟩, _⟩ h => wpAny_pyIter_enum he h
set_option maxHeartbeats 1000000 in
theorem meets_en1 {v : Value} {o : Obj} {H : Heap → Prop} (B : Begins v o H) :
    Meets (Builtin.«enumerate.__new__» ⟨[.type "enumerate", v], []⟩) (fun _ R s => H s.heap ∧
      R (.ok (.ret (.ref (s.heap.push o).objs.size))) { s with heap := (s.heap.push o).push { cls := .type "enumerate", data := .fields #[.none, .bool false, .ref s.heap.objs.size, rawInt 0, .none, .none] } }) :=
  .of_wp fun prog w A R s ⟨h1, h⟩ => by
    obtain ⟨hp, g, d, tk, os⟩ := s
    have hsub := sub_enumerate
    have q1 : ∀ {A' : Around} {E : Value → Shared → Prop} {Q : Value → Shared → Prop}, Q (.ref hp.objs.size) ⟨hp.push o, g, d, tk, os⟩ → wpAny (model prog w) A' (pyIter v) Q E ⟨hp, g, d, tk, os⟩ := fun q => B.iter prog w _ _ ⟨hp, g, d, tk, os⟩ _ h1 q
    wp_walk using q1
    refine wpAny_stack_any fun st => wpAny_pure ?_
    split
    · rename_i c _ _ _ _ _
      cases (c == Value.type "enumerate") <;> (wp_walk using q1; exact ⟨_, rfl, h⟩)
    · wp_walk using q1
      exact ⟨_, rfl, h⟩
theorem call_en1 {prog : Program} {w : World} {A : Around} {E : Value → Shared → Prop} {s : Shared} {v : Value} {o : Obj} {H : Heap → Prop} {Q : Value → Shared → Prop} (B : Begins v o H) (h1 : H s.heap)
    (h : ∀ h', IsEnum h' (s.heap.objs.size + 1) s.heap.objs.size 0 .none → h'.get? s.heap.objs.size = some o → (∀ b o, s.heap.get? b = some o → h'.get? b = some o) → Q (.ref (s.heap.objs.size + 1)) { s with heap := h' }) :
    wpAny (model prog w) A (call (.type "enumerate") [v]) Q E s := by
  refine callType_new F.called_enumerate (by decide) (F.typeCall_enumerate_1 _) (F.newCall_enumerate_1 _) (fun obj => F.args_object_init_2 obj _) F.entry_enumerate_new (meets_en1 B) ⟨h1, ?_⟩
  have hz : (s.heap.push o).objs.size = s.heap.objs.size + 1 := Heap.size_push ..
  show _ ∧ _
  rw [hz]
  have he : IsEnum ((s.heap.push o).push { cls := .type "enumerate", data := .fields #[.none, .bool false, .ref s.heap.objs.size, rawInt 0, .none, .none] }) (s.heap.objs.size + 1) s.heap.objs.size 0 .none := by
    have q := Heap.get?_push_size (s.heap.push o) (o := { cls := .type "enumerate", data := .fields #[.none, .bool false, .ref s.heap.objs.size, rawInt 0, .none, .none] }) rfl
    rwa [hz] at q
  exact ⟨⟨_, he, rfl⟩, h _ he (Heap.get?_push_of_some _ (Heap.get?_push_size _ B.free)) fun b o x => Heap.get?_push_of_some _ (Heap.get?_push_of_some _ x)⟩
def iEnA (K : PySem.W.Frag) (ta : TA) : TI := fun σ H R => ta σ H fun vs H1 => ∃ a xs, vs = [.ref a] ∧ ((SqL K H1 a xs ∧ R (Ite K a) H1) ∨ (SqT K H1 a xs ∧ R (IteT K a) H1))
theorem pi_enA {X : Cx} {e : Expr} {ta : TA} {p pos tpos : Pos} {elts : List Expr} {kk : Nat} (hg : Gl X "enumerate") (hm : X.mg "enumerate" = none) (ha : PA X [e] ta) (hs : starEach [e] X.env = [(false, eval e X.env)] := by rfl) :
    PI X (.Tuple elts kk tpos) (.Call (.Name "enumerate" p) [e] [] pos) (iEnA X.K ta) := by
  refine ⟨fun pins s σ H R I h => Call_ (ld_blt I hg hm boot_enumerate (PyProof.Rows.callWith_type1 (thn (ha.run pos pins s σ H _ I h) fun us s1 ⟨vs, H1, I1, r1, a, xs, ex, q⟩ => ?_) hs rfl))⟩
  subst ex
  cases r1 with
  | cons r rr =>
    cases rr
    cases r
    have two : ∀ b ∈ [s1.heap.objs.size + 1, s1.heap.objs.size], FpOk X pins H1 b := fun b hb => by
      have hle : s1.heap.objs.size ≤ b := by
        rcases List.mem_cons.mp hb with z | z
        · rw [z]; exact Nat.le_succ _
        · rw [List.mem_singleton.mp z]; exact Nat.le_refl _
      exact I1.fpOk hle (I1.hok.fresh hle)
    rcases q with ⟨hq, q⟩ | ⟨hq, q⟩
    · obtain ⟨its, rv, p', _⟩ := I1.list hq
      refine call_en1 (begins_list a its.toArray) p'.isList fun h' he hi hk => wpAny_pyIter_enum he ?_
      exact ⟨s1.heap.objs.size + 1, [s1.heap.objs.size + 1, s1.heap.objs.size], _, _, H1, rfl, I1.kept (t' := s1.toks) hk, turn_enum a _ _, ⟨⟨_, he⟩, ⟨_, hi, rfl, rfl⟩, Nat.succ_ne_self _⟩, two, q⟩
    · obtain ⟨its, rv, p', _⟩ := I1.tuple hq
      have la : a < s1.heap.objs.size := let ⟨_, z, _⟩ := p'; Heap.lt_size z
      refine call_en1 (begins_tuple a its.toArray) p' fun h' he hi hk => wpAny_pyIter_enum he ?_
      exact ⟨s1.heap.objs.size + 1, [s1.heap.objs.size + 1, s1.heap.objs.size], _, _, H1, rfl, I1.kept (t' := s1.toks) hk, turn_enT a _ _, ⟨⟨_, he⟩, ⟨_, hi, rfl, rfl⟩, Nat.succ_ne_self _, Nat.ne_of_lt la, Nat.ne_of_gt (Nat.lt_succ_of_lt la)⟩, two, q⟩
def ζC (t : DA') : DI' := fun ω S Q => t ω S fun ws S1 => match ws with
  | [w] => match view S1 w with
    | .lst xs => Q (ienum xs) (fun S' => seqW S' w = some xs) S1
    | .tup xs => Q (ienum xs) (fun _ => True) S1
    | _ => False
  | _ => False
theorem src_eT {K : PySem.W.Frag} {S0 : Sto} {H0 : Hp} {a : Addr} {xs : List W} (h : ∀ S H, Nx S0 H0 S H → ∃ vs, SqT K H a vs ∧ RWs K S H xs vs) : Src K S0 H0 (IteT K a) (ienum xs) (fun _ => True) := by
  refine ⟨fun i S H x r o hi => ?_, fun i S H v H' x r o hi y => ?_, fun i S H x r o hi => ?_⟩
  · obtain ⟨vs, sq, rs⟩ := h S H x
    have hl := rs.len
    rw [ienum_len] at hi
    exact ⟨vs, vs[i], sq, by simp [show i < vs.length by omega]⟩
  · obtain ⟨vs, sq, rs⟩ := h S H x
    obtain ⟨T, x', rfl, hT, rfl, y⟩ := y
    obtain ⟨w, ew, rw'⟩ := rs.get' (y vs sq)
    exact ⟨_, ienum_at ew, Nx.new hT, r.new hT, r.newT hT (.cons (.int _) (.cons rw' .nil))⟩
  · obtain ⟨vs, sq, rs⟩ := h S H x
    exact ⟨vs, sq, by rw [hi, ienum_len, rs.len]⟩
theorem di_enA {X : Cx} {Z : WX} {e : Expr} {t : DA'} {p pos tpos : Pos} {elts : List Expr} {kk : Nat} (hm : X.mg "enumerate" = none) (ha : DA X Z [e] t) (hg : Gl X "enumerate" := by rfl) (hs : starEach [e] X.env = [(false, eval e X.env)] := by rfl) :
    DI X Z (.Tuple elts kk tpos) (.Call (.Name "enumerate" p) [e] [] pos) (ζC t) := PI.im (pi_enA hg hm ha hs) fun σ H R ⟨ω, S, Qd, a, h, f⟩ => by
  refine ⟨ω, S, _, a, h, fun ws S1 vs H1 x1 r1 q1 h1 => ?_⟩
  split at h1
  · obtain ⟨v, rfl, q⟩ := q1.one
    split at h1
    · rename_i xs e
      obtain ⟨b, vs, rfl, sq, hh⟩ := lst_src r1 q e
      exact ⟨b, vs, rfl, .inl ⟨sq, f _ _ _ _ _ x1 r1 (src_e hh) h1⟩⟩
    · rename_i xs e
      obtain ⟨b, vs, rfl, sq, hh⟩ := tup_src q e
      exact ⟨b, vs, rfl, .inr ⟨sq, f _ _ _ _ _ x1 r1 (src_eT hh) h1⟩⟩
    · exact h1.elim
  · exact h1.elim
def sq2 (S : Sto) (w : W) : Option (List W) := match view S w with
  | .lst xs => some xs
  | .tup xs => some xs
  | _ => none
theorem RWs.atI {K : PySem.W.Frag} {S : Sto} {H : Hp} {ws : List W} {vs : List V} {i : Int} {w : W} (r : RWs K S H ws vs) (h : L2.atI ws i = some w) : ∃ v, L2.atI vs i = some v ∧ RW K S H w v := by
  unfold L2.atI at h ⊢
  rw [← r.len]
  cases e : ixN ws.length i with
  | none => rw [e] at h; cases h
  | some j => rw [e] at h; exact r.get h
def dIx : D2 := fun a b S Q => match view S a, b with
  | .lst xs, .int i => match L2.atI xs i with
    | some w => Q w S
    | none => False
  | .tup xs, .int i => match L2.atI xs i with
    | some w => Q w S
    | none => False
  | .scr ns, .int i => match L2.atI ns i with
    | some n => Q (.int n) S
    | none => False
  | .str z, .int i => match L2.atI z.cps.toList i with
    | some c => Q (.str ⟨#[c]⟩) S
    | none => False
  | _, _ => False
theorem atI_map {α β : Type} (f : α → β) (xs : List α) (i : Int) : L2.atI (xs.map f) i = (L2.atI xs i).map f := by
  unfold L2.atI
  rw [List.length_map]
  cases ixN xs.length i with
  | none => rfl
  | some j => show (xs.map f)[j]? = (xs[j]?).map f; rw [List.getElem?_map]
theorem atI_mem {α : Type} {xs : List α} {i : Int} {v : α} (h : L2.atI xs i = some v) : v ∈ xs := by
  obtain ⟨j, _, h2, _⟩ := atI_get h
  exact List.mem_of_getElem? h2
section
variable {X : Cx} {Z : WX}
theorem ix_any : IxR X (uR X.K dIx) := by
  intro value slice pins s σ H x y v u Q I rx ry ⟨w1, w2, S, Qd, r, r1, r2, q, fi⟩ hs
  unfold dIx at q
  split at q
  · rename_i xs i e1
    cases r2
    obtain ⟨a, vs, rfl, h1, s1⟩ := view_lst r r1 e1
    split at q
    · rename_i w ew
      obtain ⟨z, ez, rz⟩ := s1.atI ew
      exact ix_list value slice pins s σ H _ _ v u Q I rx ry ⟨a, vs, i, z, rfl, rfl, .inl (.inl h1), ez, fi.one r rz q⟩ hs
    · exact q.elim
  · rename_i xs i e1
    cases r2
    obtain ⟨a, vs, rfl, h1, s1⟩ := view_tup r1 e1
    split at q
    · rename_i w ew
      obtain ⟨z, ez, rz⟩ := s1.atI ew
      exact ix_tup value slice pins s σ H _ _ v u Q I rx ry ⟨a, vs, i, z, rfl, rfl, h1, ez, fi.one r rz q⟩ hs
    · exact q.elim
  · rename_i ns i e1
    cases r2
    obtain ⟨a, rfl, h1⟩ := view_scr r1 e1
    split at q
    · rename_i n en
      exact ix_list value slice pins s σ H _ _ v u Q I rx ry ⟨a, _, i, .int n, rfl, rfl, h1, by rw [atI_map, en]; rfl, fi.one r (.int n) q⟩ hs
    · exact q.elim
  · rename_i z i e1
    cases r2
    obtain ⟨rfl, ok⟩ := view_str r1 e1
    split at q
    · rename_i c ec
      exact ix_str value slice pins s σ H _ _ v u Q I rx ry ⟨z, i, c, rfl, rfl, (sv_iff.mp ok).2, ec, fi.one r (.str _ (sv_sign ok (atI_mem ec))) q⟩ hs
    · exact q.elim
  · exact q.elim
theorem de_ix {a b : Expr} {ta tb : DE'} {pos : Pos} (ha : DE X Z a ta) (hb : DE X Z b tb) (hs : PlainIx b := by intro _ _; rfl) : DE X Z (.Subscript a b pos) (dOp dIx ta tb) := PE.im (pe_ix ix_any ha hb hs) fun _ _ _ => uOp
def dDg : D2 := fun a b S Q => match view S a, wkey b with
  | .dct ks ws, some k => match wval (ks.zip ws) k with
    | some w => Q w S
    | none => False
  | _, _ => False
theorem uOpD {K : PySem.W.Frag} {rd : D2} {ta tb : DE'} {σ : L2.St} {H : Hp} {Q : VK} {te : TE → TE → TE} {r : V → V → Hp → VK → Prop} (hte : ∀ a b, te a b = fun σ H Q => a σ H fun x H1 => b σ H1 fun y H2 => r x y H2 Q)
    (hr : ∀ x y H Q, uR K rd x y H Q → r x y H Q) (h : uE K Z (dOp rd ta tb) σ H Q) : te (uE K Z ta) (uE K Z tb) σ H Q := by
  rw [hte]
  obtain ⟨ω, S, Qd, a, h, f⟩ := uOp h
  exact ⟨ω, S, Qd, a, h, fun w S' v H' x1 x2 x3 x4 => by
    obtain ⟨ω2, S2, Qd2, a2, h2, f2⟩ := f w S' v H' x1 x2 x3 x4
    exact ⟨ω2, S2, Qd2, a2, h2, fun w S' v H' y1 y2 y3 y4 => hr _ _ _ _ (f2 w S' v H' y1 y2 y3 y4)⟩⟩
theorem de_dget {k : Nat} {a b : Expr} {ta tb : DE'} {pos : Pos} (hr : Room k X.A) (ha : DE X Z a ta) (hb : DE X Z b tb) (hs : NoSl b := by intro _ _; rfl) : DE X Z (.Subscript a b pos) (dOp dDg ta tb) :=
  PE.im (pe_dget (hu_of hr) ha hb hs) fun σ H Q h => by
    refine uOpD (te := tDGet) (r := fun x y H2 Q => ∃ a v, x = .ref a ∧ DGet H2 a y (some v) ∧ Q v H2) (fun _ _ => rfl) (fun x y H Q ⟨w1, w2, S, Qd, r, r1, r2, q, fi⟩ => ?_) h
    unfold dDg at q
    split at q
    · rename_i ks ws k' e1 e2
      obtain ⟨a, gs, rfl, h1, rp, _⟩ := view_dct r r1 e1
      obtain rfl := wkey_rel r2 e2
      split at q
      · rename_i w ew
        rcases wval_rel rp k' with ⟨w', z, e3, e4, rz⟩ | ⟨e3, _⟩
        · rw [ew] at e3
          cases e3
          exact ⟨a, z, rfl, by rw [← e4]; exact .inl ⟨gs, k', h1, rfl, rfl⟩, fi.one r rz q⟩
        · rw [ew] at e3; cases e3
      · exact q.elim
    · exact q.elim
abbrev DO' := Om → Sto → (Option Int → Sto → Prop) → Prop
def uO (K : PySem.W.Frag) (Z : WX) (td : DO') : TO := fun σ H Q => ∃ (ω : Om) (S : Sto) (Qd : Option Int → Sto → Prop), At K Z S H σ ω ∧ td ω S Qd ∧ ∀ o S' H', Nx S H S' H' → Rel K S' H' → Qd o S' → Q o H'
abbrev DPo (X : Cx) (Z : WX) (e : Option Expr) (t : DO') : Prop := PO X e (uO X.K Z t)
def dNo : DO' := fun _ S Q => Q none S
def ζv (te : DE') : DO' := fun ω S Q => te ω S fun w S1 => match w with
  | .int i => Q (some i) S1
  | _ => False
theorem do_none : DPo X Z none dNo := ⟨fun pins s σ H Q I ⟨ω, S, Qd, a, h, f⟩ => (po_none (X := X)).run pins s σ H Q I (f _ _ _ Nx.refl a.rel h)⟩
theorem do_some {e : Expr} {te : DE'} (h : DE X Z e te) : DPo X Z (some e) (ζv te) := ⟨fun pins s σ H Q I ⟨ω, S, Qd, a, q, f⟩ => (po_some h).run pins s σ H Q I ⟨ω, S, _, a, q, fun w S1 v H1 x1 r1 q1 h1 => by
  split at h1
  · cases q1; exact ⟨_, rfl, f _ _ _ x1 r1 h1⟩
  · exact h1.elim⟩⟩
def cut {α : Type} (xs : List α) (lo hi : Option Int) : List α := (xs.drop (HT.sIx xs.length 0 lo)).take (HT.sIx xs.length xs.length hi - HT.sIx xs.length 0 lo)
def ξb (w : W) (lo hi : Option Int) (S : Sto) (Q : WQ) : Prop := match view S w with
  | .lst xs => Q (.lst (cut xs lo hi)) S
  | .tup xs => Q (.tup (cut xs lo hi)) S
  | .str z => Q (.str (cutS z lo hi)) S
  | _ => False
def dSl (te : DE') (tl th : DO') : DE' := fun ω S Q => te ω S fun w S1 => tl ω S1 fun lo S2 => th ω S2 fun hi S3 => ξb w lo hi S3 Q
theorem RWs.cut {K : PySem.W.Frag} {S : Sto} {H : Hp} {ws : List W} {vs : List V} (r : RWs K S H ws vs) (lo hi : Option Int) : RWs K S H (DL.cut ws lo hi) (cutV vs lo hi) := by
  unfold DL.cut cutV
  rw [r.len]
  exact (r.drop _).take _
theorem sv_cut {z : Str} {lo hi : Option Int} (h : sv z) : sv (cutS z lo hi) := by
  rw [sv_iff] at h ⊢
  refine ⟨fun c hc => h.1 c ?_, Nat.le_trans (cutS_length z lo hi) h.2⟩
  have e : (cutS z lo hi).cps.toList = (z.cps.toList.drop (HT.sIx z.length 0 lo)).take (HT.sIx z.length z.length hi - HT.sIx z.length 0 lo) := rfl
  rw [e] at hc
  exact List.mem_of_mem_drop (List.mem_of_mem_take hc)
def uSl (K : PySem.W.Frag) : V → Option Int → Option Int → Hp → VK → Prop := fun x lo hi H Q => ∃ w S Qd, Rel K S H ∧ RW K S H w x ∧ ξb w lo hi S Qd ∧ Fin K S H Qd Q
theorem sl_any : SlR X (uSl X.K) := by
  intro pins s σ H x v vl vu lo hi sl Q I rx hs pl pu ⟨w, S, Qd, r, r1, q, fi⟩
  unfold ξb at q
  split at q
  · rename_i xs e1
    obtain ⟨a, vs, rfl, h1, s1⟩ := view_lst r r1 e1
    exact sl_list pins s σ H _ v vl vu lo hi sl Q I rx hs pl pu ⟨a, vs, rfl, .inl (.inl h1), fun p np => fi _ _ _ _ (Nx.new np) (r.new np) (.lst upd_same (r.free np) ((s1.cut lo hi).mono (Nx.new np))) q⟩
  · rename_i xs e1
    have rt := view_tup_self r1 e1
    obtain ⟨a, vs, rfl, h1, s1⟩ := view_tup r1 e1
    refine sl_tupA pins s σ H _ v vl vu lo hi sl Q I rx hs pl pu ⟨a, vs, rfl, h1, fun ⟨z1, z2⟩ => ?_, fun _ p np => fi _ _ _ _ (Nx.new np) (r.new np) (.tup upd_same (r.free np) ((s1.cut lo hi).mono (Nx.new np))) q⟩
    refine fi.one r rt ?_
    have e : cut xs lo hi = xs := by
      unfold cut
      rw [s1.len, z1, z2, List.drop_zero, Nat.sub_zero, ← s1.len, List.take_length]
    rw [← e]
    exact q
  · rename_i z e1
    obtain ⟨rfl, ok⟩ := view_str r1 e1
    exact sl_str pins s σ H _ v vl vu lo hi sl Q I rx hs pl pu ⟨z, rfl, (sv_iff.mp ok).2, fi.one r (.str _ (sv_cut ok)) q⟩
  · exact q.elim
theorem de_sl {e : Expr} {lo hi : Option Expr} {te : DE'} {tl th : DO'} {p2 pos : Pos} (he : DE X Z e te) (hl : DPo X Z lo tl) (hu : DPo X Z hi th) : DE X Z (.Subscript e (.Slice lo hi none p2) pos) (dSl te tl th) := PE.im (pe_slice sl_any he hl hu) fun σ H Q ⟨ω, S, Qd, a, h, f⟩ => by
  refine ⟨ω, S, _, a, h, fun w S1 v H1 x1 r1 q1 h1 => ?_⟩
  refine ⟨ω, S1, _, a.to x1 r1, h1, fun lo S2 H2 x2 r2 h2 => ?_⟩
  refine ⟨ω, S2, _, a.to (x1.trans x2) r2, h2, fun hi S3 H3 x3 r3 h3 => ?_⟩
  exact ⟨w, S3, Qd, r3, q1.mono (x2.trans x3), h3, fun w S' v H' x r q h => f w S' v H' (x1.trans (x2.trans (x3.trans x))) r q h⟩
end
abbrev DM' := W → List W → Sto → WQ → Prop
def isL (S : Sto) (w : W) : Bool := match view S w with
  | .lst _ => true
  | _ => false
def dBM (rd : DM') (to : DE') (t : DA') : DE' := fun ω S Q => to ω S fun w S1 => isL S1 w = true ∧ t ω S1 fun ws S2 => rd w ws S2 Q
def uM (K : PySem.W.Frag) (rd : DM') : V → List V → Hp → VK → Prop := fun x xs H Q => ∃ w ws S Qd, Rel K S H ∧ RW K S H w x ∧ RWs K S H ws xs ∧ rd w ws S Qd ∧ Fin K S H Qd Q
section
variable {X : Cx} {Z : WX} {o e : Expr} {es : List Expr} {to : DE'} {t : DA'} {name : Str} {apos cpos : Pos} {id : String} {rd : DM'}
theorem isL_ty {K : PySem.W.Frag} {S : Sto} {H : Hp} {w : W} {v : V} (r : Rel K S H) (h : RW K S H w v) (e : isL S w = true) : tyV K "list" v H := by
  unfold isL at e
  split at e
  · rename_i xs ev
    obtain ⟨a, vs, rfl, h1, _⟩ := view_lst r h ev
    exact .inl ⟨rfl, vs, .inl (.inl h1)⟩
  · cases e
theorem de_bm (slot : Slot "list" name id) (hty : typeOf (.builtin id) = pure (.type "method_descriptor")) (hm : MtR X id (uM X.K rd)) (ho : DE X Z o to) (ha : DA X Z (e :: es) t)
    (hbase : attributeBase o name X.env (eval o X.env) = eval o X.env := by rfl)
    (hfew : ((backTo cpos (starEach (e :: es) X.env)).all (fun x => !x.1) && (backToKw cpos (keywordEach [] X.env)).all (fun x => x.1.isSome) && decide ((e :: es).length + ([] : List Keyword).length + (if ([] : List Keyword).isEmpty then 0 else 1) < 30)) = true := by rfl)
    (hline : (apos.endLine == cpos.line) = true := by rfl) (hs : starEach (e :: es) X.env = (false, eval e X.env) :: starEach es X.env := by rfl) (hplain : (backTo cpos (starEach es X.env)).any (·.1) = false := by rfl) :
    DE X Z (.Call (.Attribute o name apos) (e :: es) [] cpos) (dBM rd to t) := PE.im (pe_bm PySem.F.plainAttrs_list slot hty hm ho ha hbase hfew hline hs hplain) fun σ H Q ⟨ω, S, Qd, a, h, f⟩ => by
  refine ⟨ω, S, _, a, h, fun w S1 v H1 x1 r1 q1 ⟨il, h1⟩ => ⟨isL_ty r1 q1 il, ω, S1, _, a.to x1 r1, h1, fun ws S2 vs H2 x2 r2 q2 h2 => ?_⟩⟩
  exact ⟨w, ws, S2, Qd, r2, q1.mono x2, q2, h2, fun w S' v H' x r q h => f w S' v H' (x1.trans (x2.trans x)) r q h⟩
def ξc : DM' := fun w ws S Q => match w, ws with
  | .ref a, [y] => match S a with
    | some (.lst xs) => xs.length < 1000000 ∧ Q .non (up S a (.lst (xs ++ [y])))
    | _ => False
  | _, _ => False
theorem mt_app : MtR X "list.append" (uM X.K ξc) := fun pins s σ H x xs v us Q I rx rs ⟨w, ws, S, Qd, r, r1, r2, q, fi⟩ => by
  refine mt_append pins s σ H x xs v us Q I rx rs ?_
  unfold ξc at q
  split at q
  · cases r1
    obtain ⟨z, rfl, rz⟩ := r2.one
    split at q
    · rename_i a ys hs
      cases r _ _ hs with
      | @lst _ vs h1 q1 => exact ⟨_, vs, z, rfl, rfl, h1, by rw [← q1.len]; exact sz_lt q.1, fi _ _ _ _ (Nx.wr hs) (r.wr hs (fun _ e => nomatch e) (.lst upd_same ((q1.app (.cons rz .nil)).mono (Nx.wr hs)))) .non q.2⟩
    · exact q.elim
  · exact q.elim
theorem de_append (ho : DE X Z o to) (ha : DA X Z [e] t) (hbase : attributeBase o "append" X.env (eval o X.env) = eval o X.env := by rfl)
    (hfew : ((backTo cpos (starEach [e] X.env)).all (fun x => !x.1) && (backToKw cpos (keywordEach [] X.env)).all (fun x => x.1.isSome) && decide (([e] : List Expr).length + ([] : List Keyword).length + (if ([] : List Keyword).isEmpty then 0 else 1) < 30)) = true := by rfl)
    (hline : (apos.endLine == cpos.line) = true := by rfl) (hs : starEach [e] X.env = (false, eval e X.env) :: starEach [] X.env := by rfl) (hplain : (backTo cpos (starEach [] X.env)).any (·.1) = false := by rfl) :
    DE X Z (.Call (.Attribute o "append" apos) [e] [] cpos) (dBM ξc to t) := de_bm PySem.F.slot_list_append PySem.F.type_list_append mt_app ho ha hbase hfew hline hs hplain
def ζg (to ti te : DE') : DS' := fun D ω S => te ω S fun v S1 => to ω S1 fun w S2 => ti ω S2 fun i S3 => match w, i with
  | .ref a, .int k => match S3 a with
    | some (.lst xs) => match ixN xs.length k with
      | some j => D.nx ω (up S3 a (.lst (xs.set j v)))
      | none => False
    | _ => False
  | _, _ => False
theorem ds_setIx {i : Expr} {ti te : DE'} {p' pos : Pos} (ho : DE X Z o to) (hi : DE X Z i ti) (he : DE X Z e te) (hs : swapsWithSole [.Subscript o i p'] e pos.line X.env = pure false := by rfl) (hw : swappedStores [.Subscript o i p'] e X.env = pure none := by rfl)
    (h1 : (assignEach [.Subscript o i p'] X.env).map (·.2) = [assign (.Subscript o i p') X.env] := by rfl)
    (ha : ∀ v, assign (.Subscript o i p') X.env v = (do
      let ov ← holding [v] (eval o X.env)
      let iv ← holding [v, ov] (eval i X.env)
      standAt p'
      holding [v, ov, iv] (setItem ov iv v)
      release [v, ov, iv] []) := by intro _; rfl) : DS X Z (.Assign [.Subscript o i p'] e pos) (ζg to ti te) := PS.im (ps_asg he (pg_sub ho hi set_list ha) hs hw h1) fun D σ H ⟨ω, S, Dd, a, h, f⟩ => by
  refine ⟨ω, S, _, a, h, fun v S1 y H1 x1 r1 q1 h1 => ?_⟩
  refine ⟨ω, S1, _, a.to x1 r1, h1, fun w S2 z H2 x2 r2 q2 h2 => ?_⟩
  refine ⟨ω, S2, _, a.to (x1.trans x2) r2, h2, fun i S3 z3 H3 x3 r3 q3 h3 => ?_⟩
  split at h3
  · cases q2; cases q3
    split at h3
    · rename_i hs
      split at h3
      · rename_i j ej
        cases r3 _ _ hs with
        | @lst _ vs hH rs =>
          exact ⟨_, vs, _, j, rfl, rfl, hH, by rw [← rs.len]; exact ej, f.nx _ _ _ _ (x1.trans (x2.trans (x3.trans (Nx.wr hs)))) (a.to (x1.trans (x2.trans (x3.trans (Nx.wr hs)))) (r3.wr hs (fun _ e => nomatch e) (.lst upd_same ((rs.set (q1.mono (x2.trans x3)) j).mono (Nx.wr hs))))) h3⟩
      · exact h3.elim
    · exact h3.elim
  · exact h3.elim
end
inductive Ty where | int | bool | str | tup | lst
def Ty.nm : Ty → String
  | .int => "int" | .bool => "bool" | .str => "str" | .tup => "tuple" | .lst => "list"
def isi (S : Sto) : Ty → W → Option Bool
  | .int, w => match view S w with
    | .int _ => some true | .bl _ => some true | .non => some false | .str _ => some false | .tup _ => some false | .lst _ => some false | _ => none
  | .bool, w => match view S w with
    | .int _ => some false | .bl _ => some true | .non => some false | .str _ => some false | .tup _ => some false | .lst _ => some false | _ => none
  | .str, w => match view S w with
    | .int _ => some false | .bl _ => some false | .non => some false | .str _ => some true | .tup _ => some false | .lst _ => some false | _ => none
  | .tup, w => match view S w with
    | .int _ => some false | .bl _ => some false | .non => some false | .str _ => some false | .tup _ => some true | .lst _ => some false | _ => none
  | .lst, w => match view S w with
    | .int _ => some false | .bl _ => some false | .non => some false | .str _ => some false | .tup _ => some false | .lst _ => some true | _ => none
def dIs (T : Ty) : W → Sto → WQ → Prop := fun w S Q => match isi S T w with
  | some b => Q (.bl b) S
  | none => False
theorem ty_of {K : PySem.W.Frag} {S : Sto} {H : Hp} {w : W} {v : V} (r : Rel K S H) (h : RW K S H w v) : match view S w with
    | .int _ => TyX K H v (.type "int") | .bl _ => TyX K H v (.type "bool") | .non => TyX K H v (.type "NoneType") | .str _ => TyX K H v (.type "str") | .tup _ => TyX K H v (.type "tuple") | .lst _ => TyX K H v (.type "list") | _ => True := by
  cases e : view S w with
  | int i => obtain rfl := view_int h e; exact .base (.int i)
  | str x => obtain ⟨rfl, _⟩ := view_str h e; exact .base (.str x)
  | lst xs => obtain ⟨a, vs, rfl, h1, _⟩ := view_lst r h e; exact .base (.lst h1)
  | tup xs =>
    obtain ⟨a, vs, rfl, h1, _⟩ := view_tup h e
    rcases h1 with (h1 | ⟨o, h1⟩) | ⟨o, its, n, h1, hc, _⟩
    · exact .base (.tup h1)
    · exact .fTuple h1
    · exact .kTuple h1 hc
  | bl b => cases h <;> simp only [view] at e <;> first | (cases e; exact .base (.bl _)) | cases e | (split at e <;> cases e)
  | non => cases h <;> simp only [view] at e <;> first | (cases e; exact .base .non) | exact .base .non | cases e | (split at e <;> cases e)
  | _ => trivial
theorem kit1 {K : PySem.W.Frag} {t n : String} {b : Bool} (h : kitB t n = some b) : PySem.W.kitOne K (.type t) (.type n) = some b := kit_ty h
section
variable {X : Cx} {Z : WX}
theorem de_isi (T : Ty) {a : Expr} {ta : DE'} {x : Str} {p p2 pos : Pos} (ha : DE X Z a ta) (hm : X.mg "isinstance" = none) (hx : X.mg x = none) (hv : bootBuiltins x = some (.type T.nm) := by decide +kernel) (hg : Gl X "isinstance" := by rfl) (hgx : Gl X x := by rfl) (hn : x ≠ "__name__" := by decide) (hd : (x == ("__debug__" : Str)) = false := by decide)
    (he : starEach [a, .Name x p2] X.env = (false, eval a X.env) :: starEach [.Name x p2] X.env := by rfl) (he2 : starEach [.Name x p2] X.env = (false, eval (.Name x p2) X.env) :: starEach [] X.env := by rfl) (hpl : (backTo pos (starEach [.Name x p2] X.env)).any (·.1) = false := by rfl) :
    DE X Z (.Call (.Name "isinstance" p) [a, .Name x p2] [] pos) (dUn (dIs T) ta) :=
  PE.im (pe_callB (id := "isinstance") call_isi hg hm (by decide +kernel) (pa_cons ha (pa_cons (pe_bltn (v := .ty T.nm) hgx hx hv rfl hn hd) pa_nil he2) he) (by decide) (by decide) he hpl) fun σ H Q ⟨ω, S, Qd, a, h, f⟩ => by
    refine ⟨ω, S, _, a, h, fun w S1 v H1 x1 r1 q1 h1 => ?_⟩
    show rIsi X.K [v, .ty T.nm] H1 Q
    have ty := ty_of r1 q1
    unfold dIs at h1
    split at h1
    · rename_i b eb
      have key : ∀ t : String, TyX X.K H1 v (.type t) → kitB t T.nm = some b → rIsi X.K [v, .ty T.nm] H1 Q := fun t ht hk => ⟨v, _, _, _, b, rfl, .ty _, ht, kit1 hk, f _ _ _ _ x1 r1 (.bl _) h1⟩
      cases T <;> simp only [isi] at eb <;> cases e : view S1 w <;> rw [e] at eb ty <;> simp only at eb ty <;> first | cases eb | skip
      all_goals first | exact key _ ty (by decide +kernel) | exact (nomatch eb)
    · exact h1.elim
end
end DL
namespace My
open PySem PySem.Spec PyProof.Rows L2 PySem.W
def sortD (xs : List V) (ds : List PyData) : List V := ((xs.zip ds).mergeSort (dataLe false Prod.snd)).map Prod.fst
theorem sortD_perm {xs : List V} {ds : List PyData} (h : xs.length = ds.length) : (sortD xs ds).Perm xs := by
  have p := (List.mergeSort_perm (xs.zip ds) (dataLe false Prod.snd)).map Prod.fst
  unfold sortD
  refine p.trans ?_
  rw [List.map_fst_zip (by omega)]
theorem dp_len {K : PySem.W.Frag} {H : Hp} : ∀ {vs : List V} {ds : List PyData}, DpAll K H vs ds → vs.length = ds.length
  | _, _, .nil => rfl
  | _, _, .cons _ a => congrArg Nat.succ (dp_len a)
section
variable {X : Cx} {pins : List (Addr × Obj)} {σ : L2.St} {H : Hp} {s : Shared}
theorem each_zip (I : Inv X pins σ H s) : ∀ {xs : List V} {ds : List PyData} {us : List Value}, DpAll X.K H xs ds → Vals xs us →
    EachIs (fun (u : Value) (b : V × PyData) => RelV b.1 u) us (xs.zip ds) ∧ EachIs (fun (u : Value) (b : V × PyData) => ∃ as, Reads s.heap u b.2 as) us (xs.zip ds)
  | _, _, _, .nil, .nil => ⟨.nil, .nil⟩
  | _, _, _, .cons h a, .cons r t => by
    obtain ⟨e1, e2⟩ := each_zip I a t
    exact ⟨.cons r e1, .cons (Dp.reads I _ _ _ h r) e2⟩
theorem vals_of_each : ∀ {us : List Value} {bs : List (V × PyData)}, EachIs (fun (u : Value) (b : V × PyData) => RelV b.1 u) us bs → Vals (bs.map Prod.fst) us
  | _, _, .nil => .nil
  | _, _, .cons h t => .cons h (vals_of_each t)
end
def rSortD (K : PySem.W.Frag) : List V → Hp → VK → Prop := fun vs H Q => ∃ (a : Addr) (xs : List V) (ds : List PyData), vs = [.ref a] ∧ SqL K H a xs ∧ DpAll K H xs ds ∧ AllAlike ds ∧ Sortable ds ∧ (∀ d ∈ ds, d.depth ≤ 60) ∧ ∀ p, H p = none → Q (.ref p) (upd H p (.lst (sortD xs ds)))
theorem zip_snd {xs : List V} {ds : List PyData} (h : xs.length = ds.length) : (xs.zip ds).map Prod.snd = ds := List.map_snd_zip (by omega)
theorem cr_sortD {X : Cx} (hu : X.A.units + 64 < cLine) : CallR X (.builtin "sorted") (rSortD X.K) := by
  intro pins s σ H vs us Q I r h
  obtain ⟨a, xs, ds, rfl, hs, hd, hal, hk, hdep, q⟩ := h
  obtain ⟨its, rv, hl, hz⟩ := I.list hs
  rw [Vals.ref1 r]
  have hlen := dp_len hd
  obtain ⟨e1, e2⟩ := each_zip I hd rv
  have zs := zip_snd hlen
  have zl : (xs.zip ds).length = xs.length := by rw [List.length_zip]; omega
  refine sorted_data (enc := Prod.snd) hl.isList e1 e2 (by rw [zs]; exact hal) (by rw [zs]; exact hk) (by rw [zl]; exact hz) (fun b hb => ?_) fun out h1 h2 => ?_
  · have hm : b.2 ∈ ds := by
      rw [← zs]
      exact List.mem_map.mpr ⟨b, hb, rfl⟩
    have := hdep _ hm
    omega
  · obtain ⟨ep, he⟩ := PyProof.Rows.sortedAll_at s.heap its out.toArray
    have hv := vals_of_each h2
    have hsz : (sortD xs ds).length ≤ sizeLine := by
      rw [(sortD_perm hlen).length_eq]
      exact hz
    exact ⟨.ref _, upd H (s.heap.objs.size + 1) (.lst (sortD xs ds)), I.laid (t' := s.toks) (fun _ _ => PyProof.Rows.sortedAll_old) (Nat.le_succ _) ⟨hsz, out, ep, hv, he⟩, rfl, q _ (I.hok.fresh (Nat.le_succ _))⟩
section
variable {prog : Program} {w : World} {A : Around} {E : Value → Shared → Prop} {s : Shared}
theorem collect_tup {t : Addr} {vs : List Value} {Q : List Value → Shared → Prop} (ht : s.heap.IsTuple t vs.toArray) (small : vs.length ≤ sizeLine)
    (done : Q vs { s with heap := (s.heap.push (seqObj "list" #[] 0)).update s.heap.objs.size (Obj.mapSeq (· ++ vs.toArray)) }) : wpAny (model prog w) A (collect (.ref t)) Q E s := by
  obtain ⟨ob, at0, cl, m, dat⟩ := _root_.id ht
  have at1 : (s.heap.push (seqObj "list" #[] 0)).get? t = some ob := Heap.get?_push_of_some _ at0
  unfold collect
  refine wpAny_bind (wpAny_runValue (codeAny_builtin PyProof.Rows.entry_proto_collect' ?_))
  change wpAny _ _ (do again (.builtin "list.__iadd__" ⟨[← newList [], .ref t], []⟩)) _ _ s
  refine wpAny_bind (wpAny_newList (wpAny_pure ⟨Code.quiet_builtin _ (by decide +kernel), codeAny_builtin PyProof.Rows.entry_list_iadd' ?_⟩))
  change wpAny _ _ (Builtin.List.listExtendWith (.ref s.heap.objs.size) (.ref t) (.ref s.heap.objs.size)) _ _ { s with heap := s.heap.push (seqObj "list" #[] 0) }
  unfold Builtin.List.listExtendWith
  refine wpAny_bind (wpAny_typeOf (T := "tuple") ⟨ob, at1, cl⟩ ?_)
  rw [if_pos (by rw [show (Value.type "tuple" == Value.type "tuple") = true from rfl, Bool.or_true])]
  refine wpAny_bind (PyProof.Rows.listItems_at at1 dat (wpAny_bind (PyProof.Rows.listItems_at (xs := #[]) (n := 0) (Heap.get?_push_size _ rfl) rfl ?_)))
  rw [if_neg (by simp)]
  have room : (#[] ++ vs.toArray).size ≤ sizeLine + 1 := by
    simp only [Array.size_append, List.size_toArray, List.length_nil]
    omega
  refine wpAny_bind (listUpdate_at (xs := #[]) (n := 0) (Heap.get?_push_size _ rfl) rfl (wpAny_pure ?_) (Nat.zero_le _) room)
  change wpAny (model prog w) A (do
      let got ← load s.heap.objs.size
      match got.data with
      | .seq items _ => pure items.toList
      | _ => unsupported "internal:collect") Q E { s with heap := (s.heap.push (seqObj "list" #[] 0)).update s.heap.objs.size (Obj.mapSeq (· ++ vs.toArray)) }
  refine wpAny_bind (wpAny_load (get?_update_seq (Heap.get?_push_size _ rfl) _) ?_)
  change wpAny _ _ (pure ((#[] : Array Value) ++ vs.toArray).toList) Q E _
  rw [show ((#[] : Array Value) ++ vs.toArray).toList = vs by simp]
  exact wpAny_pure done
theorem sorted_tup {t : Addr} {vs : List Value} {Q : Value → Shared → Prop} (ht : s.heap.IsTuple t vs.toArray) (small : vs.length ≤ sizeLine)
    (body : ∀ E' : Value → Shared → Prop, wpAny (model prog w) A.in1.in1 (Builtin.«list.sort» ⟨[.ref (s.heap.objs.size + 1)], []⟩) (fun f s' => f = .done (.ret .none) ∧ Q (.ref (s.heap.objs.size + 1)) s') E' { s with heap := copyHeap s.heap vs }) :
    wpAny (model prog w) A (call (.builtin "sorted") [.ref t] []) Q E s := by
  refine call_function_entry_kw kind_sorted plain_sorted entry_sorted (args_sorted1 _) ?_
  unfold Builtin.«sorted»
  refine wpAny_bind (m := checkCount "sorted" 1 1 _) (wpAny_pure (wpAny_bind (collect_tup ht small (wpAny_bind (wpAny_newList ?_ small)))))
  have size1 : ((s.heap.push (seqObj "list" #[] 0)).update s.heap.objs.size (Obj.mapSeq (· ++ vs.toArray))).objs.size = s.heap.objs.size + 1 := by
    rw [Heap.size_update, size_push']
  change wpAny _ _ _ _ _ { s with heap := copyHeap s.heap vs }
  rw [size1]
  refine wpAny_bind (wpAny_holding (wpAny_call_entry_kw PyProof.Rows.slot_list_sort ⟨_, copyHeap_at s.heap vs, rfl⟩ PyProof.Rows.entry_list_sort ?bd (args_list_sort _)))
  case bd =>
    change wpAny (model prog w) A.in1.in1 (Builtin.«list.sort» ⟨[.ref (s.heap.objs.size + 1)], []⟩) _ _ _
    refine wpAny_mono (body _) (fun f s' got => ?_) fun _ _ e => e
    obtain ⟨rfl, hq⟩ := got
    exact ⟨_, rfl, wpAny_pure ⟨_, rfl, hq⟩⟩
end
def rSortT (K : PySem.W.Frag) : List V → Hp → VK → Prop := fun vs H Q => ∃ (a : Addr) (xs : List V) (ds : List PyData), vs = [.ref a] ∧ SqT K H a xs ∧ DpAll K H xs ds ∧ AllAlike ds ∧ Sortable ds ∧ (∀ d ∈ ds, d.depth ≤ 60) ∧ ∀ p, H p = none → Q (.ref p) (upd H p (.lst (sortD xs ds)))
theorem cr_sortT' {X : Cx} (hu : X.A.units + 64 < cLine) : CallR X (.builtin "sorted") (rSortT X.K) := by
  intro pins s σ H vs us Q I r h
  obtain ⟨a, xs, ds, rfl, hs, hd, hal, hk, hdep, q⟩ := h
  obtain ⟨its, rv, ht, hz⟩ := I.tuple hs
  rw [Vals.ref1 r]
  have hlen := dp_len hd
  obtain ⟨e1, e2⟩ := each_zip I hd rv
  have zs := zip_snd hlen
  have zl : (xs.zip ds).length = xs.length := by rw [List.length_zip]; omega
  have hsmall : its.length ≤ sizeLine := by rw [← rv.length]; exact hz
  have bound : ∀ b, b ∈ xs.zip ds → X.A.units + 2 + (Prod.snd b).depth < cLine := fun b hb => by
    have hm : b.2 ∈ ds := by
      rw [← zs]
      exact List.mem_map.mpr ⟨b, hb, rfl⟩
    have := hdep _ hm
    omega
  have e3 : EachIs (fun (u : Value) (b : V × PyData) => ∃ as, Reads (sortingHeap (copyHeap s.heap its) (s.heap.objs.size + 1) its) u b.2 as) its (xs.zip ds) := e2.mono fun _ _ ⟨as, rd⟩ => ⟨as, PyProof.Rows.Reads.keeps (fun _ _ => sorting_copy_old) rd⟩
  have S := SortsAt.data (prog := X.prog) (w := X.w) (A := X.A.in1.in1) (s := { s with heap := sortingHeap (copyHeap s.heap its) (s.heap.objs.size + 1) its }) (each_map (R := fun u d => ∃ as, Reads (sortingHeap (copyHeap s.heap its) (s.heap.objs.size + 1) its) u d as) Prod.snd e3) (by rw [zs]; exact hal) (by rw [zs]; exact hk) (bound_map bound)
  refine sorted_tup ht hsmall fun E' => list_sort_vals (s := { s with heap := copyHeap s.heap its }) (copyHeap_at s.heap its) S hsmall ⟨rfl, ?_⟩
  have h2 := sortVals_data false e1 e3 (by rw [zs]; exact hal)
  obtain ⟨ep, he⟩ := PyProof.Rows.sortedAll_at s.heap its (sortVals (dataKind (sortingHeap (copyHeap s.heap its) (s.heap.objs.size + 1) its) ((xs.zip ds).map Prod.snd)) false its its).toArray
  have hv := vals_of_each h2
  have hsz : (sortD xs ds).length ≤ sizeLine := by
    rw [(sortD_perm hlen).length_eq]
    exact hz
  exact ⟨.ref _, upd H (s.heap.objs.size + 1) (.lst (sortD xs ds)), I.laid (t' := s.toks) (fun _ _ => PyProof.Rows.sortedAll_old) (Nat.le_succ _) ⟨hsz, _, ep, hv, he⟩, rfl, q _ (I.hok.fresh (Nat.le_succ _))⟩
end My
namespace DL
open PySem PySem.Spec PyProof.Rows L2 TL
section
variable {prog : Program} {w : World} {A : Around} {E : Value → Shared → Prop} {s : Shared}
theorem two_at {a b : Str} {t u : Tok} {i : Nat} {v : Value} (h : (#[Value.str a t, Value.str b u] : Array Value)[i]? = some v) : ∃ t', v = .str (if i = 0 then a else b) t' := by
  match i, h with
  | 0, h => exact ⟨t, by simpa using h.symm⟩
  | 1, h => exact ⟨u, by simpa using h.symm⟩
theorem min_strs {a b : Str} {t u : Tok} {Q : Value → Shared → Prop} (hh : A.handled = none) (h : ∀ h' tk, (∀ c o, s.heap.get? c = some o → h'.get? c = some o) → Q (if b.cps.toList < a.cps.toList then .str b u else .str a t) { s with heap := h', toks := tk }) :
    wpAny (model prog w) A (call (.builtin "min") [.str a t, .str b u]) Q E s := by
  have hT : (s.heap.push { cls := .type "tuple", data := .seq #[.str a t, .str b u] }).IsTuple s.heap.objs.size #[.str a t, .str b u] := ⟨_, Heap.get?_push_size _ rfl, rfl, 0, rfl⟩
  refine call_min_two (wpAny_pyIter_tuple hT ?_)
  have z1 : (s.heap.push { cls := .type "tuple", data := .seq #[.str a t, .str b u] }).objs.size = s.heap.objs.size + 1 := Heap.size_push ..
  refine ⟨_, [_, s.heap.objs.size], [_], _, _, _, (fun i j => decide ((if i = 0 then a else b).cps.toList < (if j = 0 then a else b).cps.toList)), rfl, Walks.tuple (A := A.in1) hh _ s.heap.objs.size (by rw [z1]; exact Nat.ne_of_lt (Nat.lt_succ_self _)) #[.str a t, .str b u],
    ⟨⟨_, Heap.get?_push_size _ rfl, rfl, rfl⟩, hT.push _⟩, fun c hc => ?_, (by show 0 < 2; decide), fun i j vi vj s Q E hi hj q => ?_, fun v h' tk hP hk => ?_⟩
  · show c < ((s.heap.push _).push _).objs.size
    rw [Heap.size_push, z1]
    rcases List.mem_cons.mp hc with e | hc
    · rw [e, z1]; exact Nat.lt_succ_self _
    · rw [List.mem_singleton.mp hc]; exact Nat.lt_succ_of_lt (Nat.lt_succ_self _)
  · obtain ⟨t1, rfl⟩ := two_at hi
    obtain ⟨t2, rfl⟩ := two_at hj
    exact lt_str q
  · have old : ∀ c o, s.heap.get? c = some o → h'.get? c = some o := fun c o e => hk c o (fun hm => by
      have l := Heap.lt_size e
      rw [List.mem_singleton.mp hm, z1] at l
      exact Nat.lt_irrefl _ (Nat.lt_of_succ_lt l)) (Heap.get?_push_of_some _ (Heap.get?_push_of_some _ e))
    have q := h h' tk old
    have hv : v = if b.cps.toList < a.cps.toList then Value.str b u else Value.str a t := by
      have hP' : (#[Value.str a t, Value.str b u] : Array Value)[argBest (fun i j => decide ((if i = 0 then a else b).cps.toList < (if j = 0 then a else b).cps.toList)) 1]? = some v := hP
      by_cases c : b.cps.toList < a.cps.toList
      · have e : argBest (fun i j => decide ((if i = 0 then a else b).cps.toList < (if j = 0 then a else b).cps.toList)) 1 = 1 := by simp [argBest, c]
        rw [e] at hP'
        rw [if_pos c]
        simpa using hP'.symm
      · have e : argBest (fun i j => decide ((if i = 0 then a else b).cps.toList < (if j = 0 then a else b).cps.toList)) 1 = 0 := by simp [argBest, c]
        rw [e] at hP'
        rw [if_neg c]
        simpa using hP'.symm
    rw [hv]
    exact q
theorem max_strs {a b : Str} {t u : Tok} {Q : Value → Shared → Prop} (hh : A.handled = none) (h : ∀ h' tk, (∀ c o, s.heap.get? c = some o → h'.get? c = some o) → Q (if a.cps.toList < b.cps.toList then .str b u else .str a t) { s with heap := h', toks := tk }) :
    wpAny (model prog w) A (call (.builtin "max") [.str a t, .str b u]) Q E s := by
  have hT : (s.heap.push { cls := .type "tuple", data := .seq #[.str a t, .str b u] }).IsTuple s.heap.objs.size #[.str a t, .str b u] := ⟨_, Heap.get?_push_size _ rfl, rfl, 0, rfl⟩
  refine call_max_two (wpAny_pyIter_tuple hT ?_)
  have z1 : (s.heap.push { cls := .type "tuple", data := .seq #[.str a t, .str b u] }).objs.size = s.heap.objs.size + 1 := Heap.size_push ..
  refine ⟨_, [_, s.heap.objs.size], [_], _, _, _, (fun i j => decide ((if j = 0 then a else b).cps.toList < (if i = 0 then a else b).cps.toList)), rfl, Walks.tuple (A := A.in1) hh _ s.heap.objs.size (by rw [z1]; exact Nat.ne_of_lt (Nat.lt_succ_self _)) #[.str a t, .str b u],
    ⟨⟨_, Heap.get?_push_size _ rfl, rfl, rfl⟩, hT.push _⟩, fun c hc => ?_, (by show 0 < 2; decide), fun i j vi vj s Q E hi hj q => ?_, fun v h' tk hP hk => ?_⟩
  · show c < ((s.heap.push _).push _).objs.size
    rw [Heap.size_push, z1]
    rcases List.mem_cons.mp hc with e | hc
    · rw [e, z1]; exact Nat.lt_succ_self _
    · rw [List.mem_singleton.mp hc]; exact Nat.lt_succ_of_lt (Nat.lt_succ_self _)
  · obtain ⟨t1, rfl⟩ := two_at hi
    obtain ⟨t2, rfl⟩ := two_at hj
    exact PySem.P.gt_str q
  · have old : ∀ c o, s.heap.get? c = some o → h'.get? c = some o := fun c o e => hk c o (fun hm => by
      have l := Heap.lt_size e
      rw [List.mem_singleton.mp hm, z1] at l
      exact Nat.lt_irrefl _ (Nat.lt_of_succ_lt l)) (Heap.get?_push_of_some _ (Heap.get?_push_of_some _ e))
    have q := h h' tk old
    have hv : v = if a.cps.toList < b.cps.toList then Value.str b u else Value.str a t := by
      have hP' : (#[Value.str a t, Value.str b u] : Array Value)[argBest (fun i j => decide ((if j = 0 then a else b).cps.toList < (if i = 0 then a else b).cps.toList)) 1]? = some v := hP
      by_cases c : a.cps.toList < b.cps.toList
      · have e : argBest (fun i j => decide ((if j = 0 then a else b).cps.toList < (if i = 0 then a else b).cps.toList)) 1 = 1 := by simp [argBest, c]
        rw [e] at hP'
        rw [if_pos c]
        simpa using hP'.symm
      · have e : argBest (fun i j => decide ((if j = 0 then a else b).cps.toList < (if i = 0 then a else b).cps.toList)) 1 = 0 := by simp [argBest, c]
        rw [e] at hP'
        rw [if_neg c]
        simpa using hP'.symm
    rw [hv]
    exact q
end
section
variable {X : Cx} {Z : WX}
def ζw : DC' := fun ws S Q => match ws with
  | [.str a, .str b] => Q (.str (if b.cps.toList < a.cps.toList then b else a)) S
  | _ => False
def ζx : DC' := fun ws S Q => match ws with
  | [.str a, .str b] => Q (.str (if a.cps.toList < b.cps.toList then b else a)) S
  | _ => False
theorem cd_minS (hc : X.calm = true := by rfl) : CD X (.builtin "min") ζw := fun pins s σ H xs us Q I rx ⟨ws, S, Qd, r, rs, q, fi⟩ => by
  unfold ζw at q
  split at q
  · rename_i a b
    obtain ⟨v, v', rfl, r1, r2⟩ := rs.two
    cases r1 with | str _ o1 => cases r2 with | str _ o2 =>
      obtain ⟨u, w', rfl, ⟨t, rfl⟩, ⟨t', rfl⟩⟩ := vals2 rx
      refine min_strs (I.ok.hd hc) fun h' tk k => ?_
      by_cases c : b.cps.toList < a.cps.toList
      · rw [if_pos c] at q ⊢
        exact ⟨.str b, H, I.kept k, ⟨_, rfl⟩, fi.one r (.str _ o2) q⟩
      · rw [if_neg c] at q ⊢
        exact ⟨.str a, H, I.kept k, ⟨_, rfl⟩, fi.one r (.str _ o1) q⟩
  · exact q.elim
theorem cd_maxS (hc : X.calm = true := by rfl) : CD X (.builtin "max") ζx := fun pins s σ H xs us Q I rx ⟨ws, S, Qd, r, rs, q, fi⟩ => by
  unfold ζx at q
  split at q
  · rename_i a b
    obtain ⟨v, v', rfl, r1, r2⟩ := rs.two
    cases r1 with | str _ o1 => cases r2 with | str _ o2 =>
      obtain ⟨u, w', rfl, ⟨t, rfl⟩, ⟨t', rfl⟩⟩ := vals2 rx
      refine max_strs (I.ok.hd hc) fun h' tk k => ?_
      by_cases c : a.cps.toList < b.cps.toList
      · rw [if_pos c] at q ⊢
        exact ⟨.str b, H, I.kept k, ⟨_, rfl⟩, fi.one r (.str _ o2) q⟩
      · rw [if_neg c] at q ⊢
        exact ⟨.str a, H, I.kept k, ⟨_, rfl⟩, fi.one r (.str _ o1) q⟩
  · exact q.elim
def Srt (xs : List W) : Prop := PySem.W.AllAlike (pds xs) ∧ PySem.W.Sortable (pds xs) ∧ isDs xs = true ∧ ∀ w ∈ xs, dep w ≤ 60
def wsort (xs : List W) : List W := ((xs.zip (pds xs)).mergeSort (PySem.W.dataLe false Prod.snd)).map Prod.fst
theorem wsort_rel {K : PySem.W.Frag} {S : Sto} {H : Hp} {ws : List W} {vs : List V} (r : RWs K S H ws vs) : RWs K S H (wsort ws) (My.sortD vs (pds ws)) := by
  have key : ∀ {ws : List W} {vs : List V}, RWs K S H ws vs → ∃ zs : List ((W × V) × PyData), (∀ z ∈ zs, RW K S H z.1.1 z.1.2) ∧ zs.map (fun z => (z.1.1, z.2)) = ws.zip (pds ws) ∧ zs.map (fun z => (z.1.2, z.2)) = vs.zip (pds ws) := by
    intro ws
    induction ws with
    | nil => intro vs r; cases r; exact ⟨[], (fun _ h => nomatch h), rfl, rfl⟩
    | cons w ws ih =>
      intro vs r
      cases r with
      | @cons _ v _ vs h t =>
        obtain ⟨zs, h1, h2, h3⟩ := ih t
        refine ⟨((w, v), pd w) :: zs, fun z hz => ?_, ?_, ?_⟩
        · rcases List.mem_cons.mp hz with rfl | hz
          · exact h
          · exact h1 z hz
        · rw [List.map_cons, h2]; rfl
        · rw [List.map_cons, h3]; rfl
  obtain ⟨zs, h1, h2, h3⟩ := key r
  have e1 : wsort ws = (zs.mergeSort (PySem.W.dataLe false Prod.snd)).map fun z => z.1.1 := by
    unfold wsort
    rw [← h2, ← List.map_mergeSort (r := PySem.W.dataLe false Prod.snd) (s := PySem.W.dataLe false Prod.snd) (f := fun z : (W × V) × PyData => (z.1.1, z.2)) (fun a _ b _ => rfl), List.map_map]
    rfl
  have e2 : My.sortD vs (pds ws) = (zs.mergeSort (PySem.W.dataLe false Prod.snd)).map fun z => z.1.2 := by
    unfold My.sortD
    rw [← h3, ← List.map_mergeSort (r := PySem.W.dataLe false Prod.snd) (s := PySem.W.dataLe false Prod.snd) (f := fun z : (W × V) × PyData => (z.1.2, z.2)) (fun a _ b _ => rfl), List.map_map]
    rfl
  rw [e1, e2]
  have h4 : ∀ z ∈ zs.mergeSort (PySem.W.dataLe false Prod.snd), RW K S H z.1.1 z.1.2 := fun z hz => h1 z ((List.mergeSort_perm zs _).mem_iff.mp hz)
  generalize zs.mergeSort (PySem.W.dataLe false Prod.snd) = ys at h4
  induction ys with
  | nil => exact .nil
  | cons y ys ih => exact .cons (h4 y (List.mem_cons_self ..)) (ih fun z hz => h4 z (List.mem_cons_of_mem _ hz))
def dSorted : DC' := fun ws S Q => match ws with
  | [w] => match view S w with
    | .lst xs => Srt xs ∧ Q (.lst (wsort xs)) S
    | .tup xs => Srt xs ∧ Q (.lst (wsort xs)) S
    | _ => False
  | _ => False
theorem Srt.depth {xs : List W} (h : Srt xs) : ∀ d ∈ pds xs, d.depth ≤ 60 := fun d hd => by
  rw [pds_map] at hd
  obtain ⟨w, hw, rfl⟩ := List.mem_map.mp hd
  exact Nat.le_trans (depth_pd w) (h.2.2.2 w hw)
theorem cd_sorted {k : Nat} (hr : Room k X.A) : CD X (.builtin "sorted") dSorted := fun pins s σ H xs us Q I rx ⟨ws, S, Qd, r, rs, q, fi⟩ => by
  unfold dSorted at q
  split at q
  · obtain ⟨v, rfl, r1⟩ := rs.one
    split at q
    · rename_i ys e
      obtain ⟨a, vs, rfl, h1, q1⟩ := view_lst r r1 e
      exact My.cr_sortD hr.units pins s σ H _ us Q I rx ⟨a, vs, pds ys, rfl, .inl (.inl h1), (q1.dp q.1.2.2.1).1, q.1.1, q.1.2.1, q.1.depth, fun p np => fi _ _ _ _ (Nx.new np) (r.new np) (.lst upd_same (r.free np) ((wsort_rel q1).mono (Nx.new np))) q.2⟩
    · rename_i ys e
      obtain ⟨a, vs, rfl, h1, q1⟩ := view_tup r1 e
      exact My.cr_sortT' hr.units pins s σ H _ us Q I rx ⟨a, vs, pds ys, rfl, h1, (q1.dp q.1.2.2.1).1, q.1.1, q.1.2.1, q.1.depth, fun p np => fi _ _ _ _ (Nx.new np) (r.new np) (.lst upd_same (r.free np) ((wsort_rel q1).mono (Nx.new np))) q.2⟩
    · exact q.elim
  · exact q.elim
def strsOf : List W → Option (List Str)
  | [] => some []
  | .str x :: ws => (strsOf ws).map (x :: ·)
  | _ => none
theorem strsOf_eq : ∀ {ws : List W} {xs : List Str}, strsOf ws = some xs → ws = xs.map W.str
  | [], xs, h => by cases h; rfl
  | w :: ws, xs, h => by
    cases w <;> simp only [strsOf] at h <;> try cases h
    rename_i x
    cases e : strsOf ws with
    | none => rw [e] at h; cases h
    | some cs => rw [e] at h; cases h; rw [strsOf_eq e]; rfl
theorem strsOf_map (xs : List Str) : strsOf (xs.map W.str) = some xs := by
  induction xs with
  | nil => rfl
  | cons x xs ih => rw [List.map_cons, strsOf, ih]; rfl
def ζy (to te : DE') : DE' := fun ω S Q => to ω S fun a S1 => match a with
  | .str x => te ω S1 fun w S2 => match sq2 S2 w with
    | some ws => match strsOf ws with
      | some ys => (ys.map (·.length)).sum + ys.length * x.length ≤ 1000000 ∧ Q (.str (Txt.join x ys)) S2
      | none => False
    | none => False
  | _ => False
theorem strsOf_sv {K : PySem.W.Frag} {S : Sto} {H : Hp} : ∀ {ys : List Str} {vs : List V}, RWs K S H (ys.map W.str) vs → ∀ y ∈ ys, sv y
  | [], _, _, y, h => nomatch h
  | x :: xs, _, .cons r t, y, h => by
    rcases List.mem_cons.mp h with rfl | h
    · cases r with | str _ ok => exact ok
    · exact strsOf_sv t y h
theorem joinL_mem {y : List Nat} : ∀ {xs : List (List Nat)} {c : Nat}, c ∈ joinL y xs → c ∈ y ∨ ∃ x ∈ xs, c ∈ x
  | [], c, h => by simp [joinL] at h
  | [x], c, h => .inr ⟨x, List.mem_singleton.mpr rfl, by simpa [joinL] using h⟩
  | x :: z :: xs, c, h => by
    have h' : c ∈ x ++ (y ++ joinL y (z :: xs)) := by simpa [joinL] using h
    rcases List.mem_append.mp h' with h' | h'
    · exact .inr ⟨x, List.mem_cons_self .., h'⟩
    · rcases List.mem_append.mp h' with h' | h'
      · exact .inl h'
      · rcases joinL_mem h' with q | ⟨u, hu, hc⟩
        · exact .inl q
        · exact .inr ⟨u, List.mem_cons_of_mem _ hu, hc⟩
theorem joinL_len {y : List Nat} : ∀ (xs : List (List Nat)), (joinL y xs).length ≤ (xs.map (·.length)).sum + xs.length * y.length
  | [] => by simp [joinL]
  | [x] => by simp [joinL]
  | x :: z :: xs => by
    have ih := joinL_len (y := y) (z :: xs)
    have e : joinL y (x :: z :: xs) = x ++ (y ++ joinL y (z :: xs)) := by simp [joinL]
    rw [e, List.length_append, List.length_append]
    simp only [List.map_cons, List.sum_cons, List.length_cons] at ih ⊢
    have e3 : (xs.length + 1 + 1) * y.length = (xs.length + 1) * y.length + y.length := Nat.succ_mul _ _
    omega
theorem sv_join {x : Str} {ys : List Str} (hx : sv x) (hy : ∀ y ∈ ys, sv y) (h : (ys.map (·.length)).sum + ys.length * x.length ≤ 1000000) : sv (Txt.join x ys) := by
  rw [show Txt.join x ys = Str.join x ys from join_eq x ys]
  rw [sv_iff] at hx ⊢
  have e : (Str.join x ys).cps.toList = joinL x.cps.toList (ys.map tl) := tl_join x ys
  refine ⟨fun c hc => ?_, ?_⟩
  · rw [e] at hc
    rcases joinL_mem hc with q | ⟨u, hu, hc⟩
    · exact hx.1 c q
    · obtain ⟨y, hy', rfl⟩ := List.mem_map.mp hu
      exact (sv_iff.mp (hy y hy')).1 c hc
  · have l := joinL_len (y := x.cps.toList) (ys.map tl)
    have e2 : (Str.join x ys).length = (joinL x.cps.toList (ys.map tl)).length := by rw [← e]; exact (Array.length_toList).symm
    have e3 : ((ys.map tl).map (·.length)).sum = (ys.map (·.length)).sum := by
      rw [List.map_map]
      exact congrArg List.sum (List.map_congr_left fun y _ => Array.length_toList)
    rw [e3, List.length_map, Array.length_toList] at l
    rw [e2]
    exact sz_of (Nat.le_trans l h)
theorem de_join {o e : Expr} {to te : DE'} {apos pos : Pos} (ho : DE X Z o to) (he : DE X Z e te) (hs : starEach [e] X.env = [(false, eval e X.env)] := by rfl) (hbase : attributeBase o "join" X.env (eval o X.env) = eval o X.env := by rfl) (hline : (apos.endLine == pos.line) = true := by rfl) :
    DE X Z (.Call (.Attribute o "join" apos) [e] [] pos) (ζy to te) := PE.im (pe_join ho he hs hbase hline) fun σ H Q ⟨ω, S, Qd, a, h, f⟩ => by
  refine ⟨ω, S, _, a, h, fun w S1 v H1 x1 r1 q1 h1 => ?_⟩
  split at h1
  · rename_i x
    cases q1 with | str _ ok =>
      refine ⟨⟨_, rfl⟩, ω, S1, _, a.to x1 r1, h1, fun w2 S2 v2 H2 x2 r2 q2 h2 => ?_⟩
      split at h2
      · rename_i ws e
        split at h2
        · rename_i ys ey
          rw [strsOf_eq ey] at e
          unfold sq2 at e
          split at e
          · rename_i zs ev
            cases e
            obtain ⟨b, vs, rfl, hb, rs⟩ := view_lst r2 q2 ev
            have sy := strsOf_sv rs
            rw [rs.strs_inv] at hb
            exact ⟨x, b, ys, rfl, rfl, .inl (.inl (.inl hb)), Nat.le_trans h2.1 (by decide), f _ _ _ _ (x1.trans x2) r2 (.str _ (sv_join ok sy h2.1)) h2.2⟩
          · rename_i zs ev
            cases e
            obtain ⟨b, vs, rfl, hb, rs⟩ := view_tup q2 ev
            have sy := strsOf_sv rs
            rw [rs.strs_inv] at hb
            exact ⟨x, b, ys, rfl, rfl, .inr hb, Nat.le_trans h2.1 (by decide), f _ _ _ _ (x1.trans x2) r2 (.str _ (sv_join ok sy h2.1)) h2.2⟩
          · cases e
        · exact h2.elim
      · exact h2.elim
  · exact h1.elim
end
end DL
namespace DL
open PySem PySem.Spec PyProof.Rows L2
inductive Frz : W → Sto → W → Sto → Prop
  | same {w : W} {S : Sto} : Frz w S w S
  | lst {p : Addr} {S : Sto} {xs : List W} (h : S p = some (.lst xs)) : Frz (.ref p) S (.lst xs) (del S p)
  | dct {p : Addr} {S : Sto} {kvs : List (Key × W)} (h : S p = some (.dK kvs)) : Frz (.ref p) S (.dct (kvs.map (·.1)) (kvs.map (·.2))) (del S p)
  | tup {p : Addr} {S : Sto} {xs : List W} (h : S p = some (.tup xs)) : Frz (.ref p) S (.tup xs) (del S p)
  | ins {p C dx : Addr} {S : Sto} {fs : List (Str × W)} (h : S p = some (.ins C dx fs)) : Frz (.ref p) S (.ins C (fs.map (·.1)) (fs.map (·.2))) (del (del S p) dx)
  | drop {w : W} {S : Sto} {p : Addr} {o : WO} (h : S p = some o) (hn : ∀ x, o ≠ .own x) : Frz w S w (del S p)
  | dropI {w : W} {p C dx : Addr} {S : Sto} {fs : List (Str × W)} (h : S p = some (.ins C dx fs)) : Frz w S w (del (del S p) dx)
  | trans {w w' w'' : W} {S S' S'' : Sto} (a : Frz w S w' S') (b : Frz w' S' w'' S'') : Frz w S w'' S''
  | gen {w w' : W} {S S' : Sto} (h : ∀ (K : PySem.W.Frag) (H : Hp) (v : V), Rel K S H → RW K S H w v → Nx S H S' H ∧ Rel K S' H ∧ RW K S' H w' v) : Frz w S w' S'
section
variable {K : PySem.W.Frag} {S S' : Sto} {H : Hp} {w w' : W} {v : V}
theorem zip_prodV {κ : Type} : ∀ kvs : List (κ × V), (kvs.map (·.1)).zip (kvs.map (·.2)) = kvs
  | [] => rfl
  | (k, w) :: t => by rw [List.map_cons, List.map_cons, List.zip_cons_cons, zip_prodV t]
theorem Frz.ok (f : Frz w S w' S') (r : Rel K S H) (q : RW K S H w v) : Nx S H S' H ∧ Rel K S' H ∧ RW K S' H w' v := by
  induction f with
  | same => exact ⟨Nx.refl, r, q⟩
  | @lst p S xs h =>
    cases q
    cases r _ _ h with
    | lst h1 q1 => exact ⟨Nx.forget, r.forget h (fun _ e => nomatch e), .lst h1 del_same (q1.mono Nx.forget)⟩
  | @dct p S kvs h =>
    cases q
    cases r _ _ h with
    | @dK _ gs h1 q1 =>
      refine ⟨Nx.forget, r.forget h (fun _ e => nomatch e), ?_⟩
      have e : kvs.map (·.1) = gs.map (·.1) := RWp.fst q1
      rw [e]
      exact .dct (.inl (by rw [zip_prodV]; exact h1)) del_same (by simp) ((RWp.snd q1).mono Nx.forget)
  | @tup p S xs h =>
    cases q
    cases r _ _ h with
    | tup h1 q1 => exact ⟨Nx.forget, r.forget h (fun _ e => nomatch e), .tup h1 del_same (q1.mono Nx.forget)⟩
  | @ins p C dx S fs h =>
    cases q
    cases r _ _ h with
    | @ins _ _ _ gs h1 m q1 =>
      have hne : dx ≠ p := fun e => by subst e; rw [h] at m; cases m
      have x1 : Nx S H (del S p) H := Nx.forget
      have x2 : Nx S H (del (del S p) dx) H := x1.trans Nx.forget
      have hd : H dx = some (.own p) := by
        cases r _ _ m with
        | own q => exact q
      refine ⟨x2, fun b u hb => ?_, ?_⟩
      · have n1 : b ≠ dx := fun e => by subst e; rw [del_same] at hb; cases hb
        rw [del_ne n1] at hb
        have n2 : b ≠ p := fun e => by subst e; rw [del_same] at hb; cases hb
        rw [del_ne n2] at hb
        refine (r b u hb).mono x2 rfl fun d hd' => ?_
        have n3 : d ≠ dx := fun e => by subst e; rw [m] at hd'; cases hd'; exact n2 rfl
        have n4 : d ≠ p := fun e => by subst e; rw [h] at hd'; cases hd'
        rw [del_ne n3, del_ne n4]
        exact hd'
      · have e : fs.map (·.1) = gs.map (·.1) := RWp.fst q1
        rw [e]
        exact .ins (dx := dx) (by rw [zip_prodV]; exact h1) hd (by rw [del_ne (Ne.symm hne), del_same]) del_same (by simp) ((RWp.snd q1).mono x2)
  | drop h hn => exact ⟨Nx.forget, r.forget h hn, q.mono Nx.forget⟩
  | @dropI w p C dx S fs h =>
    cases r _ _ h with
    | @ins _ _ _ gs h1 m q1 =>
      have hne : dx ≠ p := fun e => by subst e; rw [h] at m; cases m
      have x1 : Nx S H (del S p) H := Nx.forget
      have x2 : Nx S H (del (del S p) dx) H := x1.trans Nx.forget
      refine ⟨x2, fun b u hb => ?_, q.mono x2⟩
      have n1 : b ≠ dx := fun e => by subst e; rw [del_same] at hb; cases hb
      rw [del_ne n1] at hb
      have n2 : b ≠ p := fun e => by subst e; rw [del_same] at hb; cases hb
      rw [del_ne n2] at hb
      refine (r b u hb).mono x2 rfl fun d hd' => ?_
      have n3 : d ≠ dx := fun e => by subst e; rw [m] at hd'; cases hd'; exact n2 rfl
      have n4 : d ≠ p := fun e => by subst e; rw [h] at hd'; cases hd'
      rw [del_ne n3, del_ne n4]
      exact hd'
  | trans a b iha ihb =>
    obtain ⟨x1, r1, q1⟩ := iha r q
    obtain ⟨x2, r2, q2⟩ := ihb r1 q1
    exact ⟨x1.trans x2, r2, q2⟩
  | gen h => exact h _ _ _ r q
end
def frzQ (Q : WQ) : WQ := fun w S => ∃ w' S', Frz w S w' S' ∧ Q w' S'
theorem frzQ.mk {Q : WQ} {w : W} {S : Sto} (h : Q w S) : frzQ Q w S := ⟨w, S, .same, h⟩
theorem Fin.frz {K : PySem.W.Frag} {S : Sto} {H : Hp} {Qd : WQ} {Q : VK} (f : Fin K S H Qd Q) : Fin K S H (frzQ Qd) Q := fun w S1 v H1 x r q ⟨w', S2, fz, h⟩ => by
  obtain ⟨x2, r2, q2⟩ := fz.ok r q
  exact f w' S2 v H1 (x.trans x2) r2 q2 h
def ξd (te : DE') : DE' := fun ω S Q => te ω S (frzQ Q)
theorem de_frz {X : Cx} {Z : WX} {e : Expr} {te : DE'} (h : DE X Z e te) : DE X Z e (ξd te) := PE.im h fun σ H Q ⟨ω, S, Qd, a, q, f⟩ => ⟨ω, S, frzQ Qd, a, q, f.frz⟩
section
variable {P : Program} {w : World} {K : PySem.W.Frag} {mg : Str → Option Value} {base : Heap}
theorem Fun.okF {x qual : Str} {st : Stmt} {f : Addr} {fd : FuncData} {N ps : List Str} {k : Nat} {dsp : DSp} (F : Fun K x qual st f fd) (sc : FnScope N ps (defScope st)) (td : DS')
    (hb : ∀ (cdv : Value) (A : Around) (outer : List Env) (s : Shared) (H : Hp) (E : XK), Room k (A.deeper (envOfC qual (defScope st) s.heap.objs.size f cdv)) → DSs (cxOf CX0 P w K mg base N qual (defScope st) f cdv A outer s H E).nox Z0 (defBody st) td)
    (len : ∀ ws S Q E, dsp ws S Q E → ws.length = ps.length) (hd : ∀ ws S Q E, dsp ws S Q E → td { nx := fun _ S' => frzQ Q .non S', rt := frzQ Q } ⟨ζh N ws, XF⟩ S) : FnOk P w K mg base CX0 (k + 1) f fd ps (uSp K dsp) := by
  refine F.ok sc (fun vs H Q E ⟨ws, S, Qd, Ed, r, rs, h, _⟩ => by rw [← rs.len]; exact len _ _ _ _ h) fun cdv A outer s H vs Q E hr ⟨ws, S, Qd, Ed, r, rs, h, f, fx⟩ => ⟨_, hb cdv A outer s H E hr, ?_⟩
  exact ⟨⟨ζh N ws, XF⟩, S, _, ⟨r, RS.start rs, .zero⟩, hd ws S Qd Ed h, ⟨fun ω' S' σ' H' x a q => f.frz _ _ _ _ x a.rel .non q, f.frz, fun _ _ _ _ _ _ q => q.elim, fun _ _ _ _ _ _ q => q.elim⟩⟩
end
theorem wput_rel {κ : Type} [DecidableEq κ] {K : PySem.W.Frag} {S : Sto} {H : Hp} {kvs : List (κ × W)} {gs : List (κ × V)} (r : RWp K S H kvs gs) (k : κ) {w : W} {v : V} (q : RW K S H w v) : RWp K S H (wput kvs k w) (putK gs k v) := by
  have e : (kvs.any fun kv => decide (kv.1 = k)) = (gs.any fun kv => decide (kv.1 = k)) := by
    have h := r.fst
    have h1 : (kvs.any fun kv => decide (kv.1 = k)) = ((kvs.map (·.1)).any fun x => decide (x = k)) := by rw [List.any_map]; rfl
    have h2 : (gs.any fun kv => decide (kv.1 = k)) = ((gs.map (·.1)).any fun x => decide (x = k)) := by rw [List.any_map]; rfl
    rw [h1, h2, h]
  unfold wput putK
  rw [e]
  split
  · rename_i hc
    clear e hc
    induction r with
    | nil => exact .nil
    | @cons p u kvs gs h t ih =>
      refine .cons ?_ ih
      obtain ⟨p1, p2⟩ := p
      obtain ⟨u1, u2⟩ := u
      obtain ⟨h1, h2⟩ := h
      simp only at h1 h2
      subst h1
      by_cases c : p1 = k
      · show (if p1 = k then (p1, w) else (p1, p2)).1 = (if p1 = k then (p1, v) else (p1, u2)).1 ∧ RW K S H (if p1 = k then (p1, w) else (p1, p2)).2 (if p1 = k then (p1, v) else (p1, u2)).2
        rw [if_pos c, if_pos c]; exact ⟨rfl, q⟩
      · show (if p1 = k then (p1, w) else (p1, p2)).1 = (if p1 = k then (p1, v) else (p1, u2)).1 ∧ RW K S H (if p1 = k then (p1, w) else (p1, p2)).2 (if p1 = k then (p1, v) else (p1, u2)).2
        rw [if_neg c, if_neg c]; exact ⟨rfl, h2⟩
  · rename_i hc
    clear e hc
    induction r with
    | nil => exact .cons ⟨rfl, q⟩ .nil
    | cons h t ih => exact .cons h ih
def wkeys : List W → Option (List Key)
  | [] => some []
  | w :: ws => match wkey w, wkeys ws with
    | some k, some ks => some (k :: ks)
    | _, _ => none
theorem wkeys_rel {K : PySem.W.Frag} {S : Sto} {H : Hp} : ∀ {ws : List W} {vs : List V} {ks : List Key}, RWs K S H ws vs → wkeys ws = some ks → vs = ks.map kV
  | [], _, ks, .nil, h => by simp only [wkeys, Option.some.injEq] at h; subst h; rfl
  | w :: ws, _, ks, .cons r t, h => by
    simp only [wkeys] at h
    cases e1 : wkey w with
    | none => rw [e1] at h; cases h
    | some k =>
      cases e2 : wkeys ws with
      | none => rw [e1, e2] at h; cases h
      | some ks' =>
        rw [e1, e2] at h
        simp only [Option.some.injEq] at h
        subst h
        rw [wkey_rel r e1, wkeys_rel t e2]
        rfl
def wkeyT (S : Sto) : W → Option (List Key)
  | .ref b => match S b with
    | some (.tup ws) => wkeys ws
    | _ => none
  | _ => none
theorem wkeyT_rel {K : PySem.W.Frag} {S : Sto} {H : Hp} {w : W} {v : V} {ks : List Key} (r : Rel K S H) (q : RW K S H w v) (h : wkeyT S w = some ks) : ∃ b, v = .ref b ∧ H b = some (.tup (ks.map kV)) := by
  cases q <;> simp only [wkeyT] at h <;> try cases h
  rename_i a
  split at h
  · rename_i ws hs
    cases r _ _ hs with
    | tup h1 q1 =>
      rw [wkeys_rel q1 h] at h1
      exact ⟨_, rfl, h1⟩
  · cases h
def dNewK : DE' := fun _ S Q => ∀ p, S p = none → Q (.ref p) (up S p (.dK []))
def dNewT : DE' := fun _ S Q => ∀ p, S p = none → Q (.ref p) (up S p (.dT []))
def ξe (to ti te : DE') : DS' := fun D ω S => te ω S fun v S1 => to ω S1 fun w S2 => ti ω S2 fun i S3 => match w with
  | .ref a => match S3 a with
    | some (.dK kvs) => match wkey i with
      | some k => kvs.length < 1000000 ∧ D.nx ω (up S3 a (.dK (wput kvs k v)))
      | none => False
    | some (.dT kvs) => match wkeyT S3 i with
      | some k => kvs.length < 1000000 ∧ D.nx ω (up S3 a (.dT (wput kvs k v)))
      | none => False
    | _ => False
  | _ => False
def dInT : D2 := fun a b S Q => match b with
  | .ref d => match S d, wkeyT S a with
    | some (.dT kvs), some k => Q (.bl (wval kvs k).isSome) S
    | _, _ => False
  | _ => False
def dDel (to ti : DE') : DS' := fun D ω S => to ω S fun w S2 => ti ω S2 fun i S3 => match w with
  | .ref a => match S3 a, wkey i with
    | some (.dK kvs), some k => (wval kvs k).isSome = true ∧ D.nx ω (up S3 a (.dK (wdrop kvs k)))
    | _, _ => False
  | _ => False
def dTupM (t : DA') : DE' := fun ω S Q => t ω S fun ws S1 => ws.length < 1000000 ∧ ∀ p, S1 p = none → Q (.ref p) (up S1 p (.tup ws))
section
variable {X : Cx} {Z : WX} {o i e : Expr} {to ti te : DE'} {pos p' : Pos} {k : Nat}
theorem de_dnewK : DE X Z (.Dict [] [] pos) dNewK := PE.im pe_dnewK fun σ H Q ⟨ω, S, Qd, a, h, f⟩ p np => f _ _ _ _ (Nx.newS np) (a.rel.newS np (.dK upd_same .nil)) (.ref p) (h p (a.rel.free np))
theorem de_dnewT : DE X Z (.Dict [] [] pos) dNewT := PE.im pe_dnewT fun σ H Q ⟨ω, S, Qd, a, h, f⟩ p np => f _ _ _ _ (Nx.newS np) (a.rel.newS np (.dT upd_same .nil)) (.ref p) (h p (a.rel.free np))
theorem ds_dput (hr : Room k X.A) (ho : DE X Z o to) (hi : DE X Z i ti) (he : DE X Z e te) (hs : swapsWith e (some (.Subscript o i p')) pos.line X.env = pure false := by rfl) : DS X Z (.Assign [.Subscript o i p'] e pos) (ξe to ti te) :=
  PS.im (ps_dput (hu_of hr) ho hi he hs) fun D σ H ⟨ω, S, Dd, a, h, f⟩ => by
    refine ⟨ω, S, _, a, h, fun v S1 y H1 x1 r1 q1 h1 => ?_⟩
    refine ⟨ω, S1, _, a.to x1 r1, h1, fun w S2 z H2 x2 r2 q2 h2 => ?_⟩
    refine ⟨ω, S2, _, a.to (x1.trans x2) r2, h2, fun i S3 z3 H3 x3 r3 q3 h3 => ?_⟩
    split at h3
    · cases q2
      split at h3
      · rename_i kvs hs
        split at h3
        · rename_i kk ek
          obtain rfl := wkey_rel q3 ek
          cases r3 _ _ hs with
          | @dK _ gs hH rs =>
            have l : kvs.length = gs.length := RWp.len rs
            exact ⟨_, _, rfl, .k hH (by rw [← l]; exact sz_lt h3.1), f.nx _ _ _ _ (x1.trans (x2.trans (x3.trans (Nx.wr hs)))) (a.to (x1.trans (x2.trans (x3.trans (Nx.wr hs)))) (r3.wr hs (fun _ e => nomatch e) (.dK upd_same (RWp.mono (Nx.wr hs) (wput_rel rs kk (q1.mono (x2.trans x3))))))) h3.2⟩
        · exact h3.elim
      · rename_i kvs hs
        split at h3
        · rename_i kk ek
          obtain ⟨b, rfl, hb⟩ := wkeyT_rel r3 q3 ek
          cases r3 _ _ hs with
          | @dT _ gs hH rs =>
            have l : kvs.length = gs.length := RWp.len rs
            exact ⟨_, _, rfl, .t hH hb (by rw [← l]; exact sz_lt h3.1), f.nx _ _ _ _ (x1.trans (x2.trans (x3.trans (Nx.wr hs)))) (a.to (x1.trans (x2.trans (x3.trans (Nx.wr hs)))) (r3.wr hs (fun _ e => nomatch e) (.dT upd_same (RWp.mono (Nx.wr hs) (wput_rel rs kk (q1.mono (x2.trans x3))))))) h3.2⟩
        · exact h3.elim
      · exact h3.elim
    · exact h3.elim
theorem de_tupM {es : List Expr} {t : DA'} {x1} (h : DA X Z es t) : DE X Z (.Tuple es x1 pos) (dTupM t) := PE.im (pe_tup h) fun σ H Q ⟨ω, S, Qd, a, h, f⟩ => by
  refine ⟨ω, S, _, a, h, fun ws S1 vs H1 x1 r1 q1 h1 => ⟨by rw [← q1.len]; exact sz_of (Nat.le_of_lt h1.1), fun p np => ?_⟩⟩
  exact f _ _ _ _ (x1.trans (Nx.newS np)) (r1.newS np (.tup upd_same (q1.mono (Nx.newS np)))) (.ref p) (h1.2 p (r1.free np))
theorem ds_ddel (ho : DE X Z o to) (hi : DE X Z i ti) {tpos : Pos} : DS X Z (.Delete [.Subscript o i tpos] pos) (dDel to ti) := PS.im (ps_ddel ho hi) fun D σ H ⟨ω, S, Dd, a, h, f⟩ => by
  refine ⟨ω, S, _, a, h, fun w S2 z H2 x2 r2 q2 h2 => ?_⟩
  refine ⟨ω, S2, _, a.to x2 r2, h2, fun i S3 z3 H3 x3 r3 q3 h3 => ?_⟩
  split at h3
  · cases q2
    split at h3
    · rename_i kvs kk hs ek
      obtain rfl := wkey_rel q3 ek
      cases r3 _ _ hs with
      | @dK _ gs hH rs =>
        have e : (wval kvs kk).isSome = (valV gs kk).isSome := by
          rcases wval_rel rs kk with ⟨w', z, e3, e4, _⟩ | ⟨e3, e4⟩ <;> rw [e3, e4] <;> rfl
        have rd : RWp X.K S3 H3 (wdrop kvs kk) (dropK gs kk) := by
          clear h3 hs hH e
          unfold wdrop dropK
          induction rs with
          | nil => exact .nil
          | @cons p u kvs gs h t ih =>
            obtain ⟨p1, p2⟩ := p
            obtain ⟨u1, u2⟩ := u
            obtain ⟨h1, h2⟩ := h
            simp only at h1 h2
            subst h1
            rw [List.filter_cons, List.filter_cons]
            split
            · exact .cons ⟨rfl, h2⟩ ih
            · exact ih
        exact ⟨_, gs, kk, rfl, hH, rfl, by rw [← e]; exact h3.1, f.nx _ _ _ _ (x2.trans (x3.trans (Nx.wr hs))) (a.to (x2.trans (x3.trans (Nx.wr hs))) (r3.wr hs (fun _ e => nomatch e) (.dK upd_same (RWp.mono (Nx.wr hs) rd)))) h3.2⟩
    · exact h3.elim
  · exact h3.elim
end
def wputF (f : Str) (v : W) : List (Str × W) → List (Str × W)
  | [] => [(f, v)]
  | (g, x) :: r => if g = f then (g, v) :: r else (g, x) :: wputF f v r
theorem wputF_rel {K : PySem.W.Frag} {S : Sto} {H : Hp} {f : Str} {w : W} {v : V} (q : RW K S H w v) {fs : List (Str × W)} {gs : List (Str × V)} (r : RWp K S H fs gs) : RWp K S H (wputF f w fs) (putF f v gs) := by
  induction r with
  | nil => exact .cons ⟨rfl, q⟩ .nil
  | @cons p u fs gs h t ih =>
    obtain ⟨p1, p2⟩ := p
    obtain ⟨u1, u2⟩ := u
    obtain ⟨h1, h2⟩ := h
    simp only at h1 h2
    subst h1
    by_cases c : p1 = f
    · rw [wputF, putF, if_pos c, if_pos c]; exact .cons ⟨rfl, q⟩ t
    · rw [wputF, putF, if_neg c, if_neg c]; exact .cons ⟨rfl, h2⟩ ih
def fget (S : Sto) (C : Addr) (f : Str) : W → Option W
  | .ins C' ns ws => if C' = C then (ns.zip ws).lookup f else none
  | .ref a => match S a with
    | some (.ins C' dx fs) => if C' = C then fs.lookup f else none
    | _ => none
  | _ => none
theorem fget_rel {K : PySem.W.Frag} {S : Sto} {H : Hp} {C : Addr} {f : Str} {w u : W} {v : V} (r : Rel K S H) (q : RW K S H w v) (h : fget S C f w = some u) : ∃ a dx gs z, v = .ref a ∧ H a = some (.ins C dx gs) ∧ gs.lookup f = some z ∧ RW K S H u z := by
  cases q <;> simp only [fget] at h <;> try cases h
  case ins a C' dx ns ws vs hH n m hl e q1 =>
    split at h
    · rename_i hc
      subst hc
      obtain ⟨z, ez, rz⟩ := RWp.look (RWp.zip (by assumption) (by assumption)) h
      exact ⟨_, _, _, z, rfl, by assumption, ez, rz⟩
    · cases h
  case ref a =>
    split at h
    · rename_i C' dx fs hs
      split at h
      · rename_i hc
        subst hc
        cases r _ _ hs with
        | @ins _ _ _ gs h1 m q1 =>
          obtain ⟨z, ez, rz⟩ := RWp.look q1 h
          exact ⟨_, _, _, z, rfl, h1, ez, rz⟩
      · cases h
    · cases h
def ξf (C : Addr) (f : Str) (ta : DE') : DE' := fun ω S Q => ta ω S fun w S1 => match fget S1 C f w with
  | some v => Q v S1
  | none => False
def ζz (C : Addr) (f : Str) (ta tv : DE') : DS' := fun D ω S => tv ω S fun y S1 => ta ω S1 fun x S2 => match x with
  | .ref a => match S2 a with
    | some (.ins C' dx fs) => C' = C ∧ fs.length < 1000 ∧ D.nx ω (up S2 a (.ins C dx (wputF f y fs)))
    | _ => False
  | _ => False
def dMake (C : Addr) (dsp : DSp) (t : DA') : DE' := fun ω S Q => t ω S fun ws S1 => ∀ x dx, S1 x = none → S1 dx = none → dx ≠ x →
  dsp (.ref x :: ws) (up (up S1 dx (.own x)) x (.ins C dx [])) (fun v S2 => v = .non ∧ Q (.ref x) S2) X0
section
variable {X : Cx} {Z : WX} {o e : Expr} {es : List Expr} {ta tv : DE'} {t : DA'} {C : Addr} {f x : Str} {pos p p' : Pos} {k j : Nat} {dsp : DSp}
theorem de_fld (c : Cls X.K C) (n : NoAttr X.K C f) (he : DE X Z e ta) (hb : attributeBase e f X.env (eval e X.env) = eval e X.env := by rfl) : DE X Z (.Attribute e f pos) (ξf C f ta) := PE.im (pe_fld he hb) fun σ H Q ⟨ω, S, Qd, a, h, fi⟩ => by
  refine ⟨ω, S, _, a, h, fun w S1 v H1 x1 r1 q1 h1 => ?_⟩
  split at h1
  · rename_i u eu
    obtain ⟨b, dx, gs, z, rfl, hb, hl, rz⟩ := fget_rel r1 q1 eu
    exact ⟨b, C, dx, gs, z, rfl, hb, c, n, hl, fi _ _ _ _ x1 r1 rz h1⟩
  · exact h1.elim
theorem ds_fld (c : Cls X.K C) (n : NoAttr X.K C f) (ha : DE X Z o ta) (hv : DE X Z e tv) (hs : swapsWith e (some (.Attribute o f p')) pos.line X.env = pure false := by rfl) : DS X Z (.Assign [.Attribute o f p'] e pos) (ζz C f ta tv) := PS.im (ps_fld ha hv hs) fun D σ H ⟨ω, S, Dd, a, h, fi⟩ => by
  refine ⟨ω, S, _, a, h, fun y S1 v H1 x1 r1 q1 h1 => ?_⟩
  refine ⟨ω, S1, _, a.to x1 r1, h1, fun w S2 z H2 x2 r2 q2 h2 => ?_⟩
  split at h2
  · cases q2
    split at h2
    · rename_i C' dx fs hs
      obtain ⟨rfl, hl, h2⟩ := h2
      cases r2 _ _ hs with
      | @ins _ _ _ gs hH m rs =>
        have l : fs.length = gs.length := RWp.len rs
        refine ⟨_, _, dx, gs, rfl, hH, c, n, by rw [← l]; exact hl, fi.nx _ _ _ _ (x1.trans (x2.trans (Nx.wr hs))) (a.to (x1.trans (x2.trans (Nx.wr hs))) (r2.wr hs (fun _ e => nomatch e) (.ins upd_same ?_ (RWp.mono (Nx.wr hs) (wputF_rel (q1.mono x2) rs))))) h2⟩
        rw [up_ne fun e => by subst e; rw [hs] at m; cases m]
        exact m
    · exact h2.elim
  · exact h2.elim
theorem Rel.made {K : PySem.W.Frag} {S : Sto} {H : Hp} {x dx : Addr} (r : Rel K S H) (nx : H x = none) (nd : H dx = none) (hne : dx ≠ x) : Nx S H (up (up S dx (.own x)) x (.ins C dx [])) (upd (upd H dx (.own x)) x (.ins C dx [])) ∧ Rel K (up (up S dx (.own x)) x (.ins C dx [])) (upd (upd H dx (.own x)) x (.ins C dx [])) := by
  have r1 : Rel K (up S dx (.own x)) (upd H dx (.own x)) := r.newS nd (.own upd_same)
  have n2 : upd H dx (.own x) x = none := by rw [upd_ne (Ne.symm hne)]; exact nx
  exact ⟨(Nx.newS nd).trans (Nx.newS n2), r1.newS n2 (.ins upd_same (by rw [up_ne hne, up_same]) .nil)⟩
theorem de_make {g : Addr} {fd : FuncData} {ps : List Str} (M : Mk X.K C g) (F : FnOk X.prog X.w X.K X.mg X.base CX0 k g fd ps (uSp X.K dsp)) (hm : X.mg x = some (.ref C)) (hb : Binds X.K fd ps []) (hr : Room j X.A) (ha : DA X Z (e :: es) t) (hk : k + 1 ≤ j := by decide) (hg : Gl X x := by rfl)
    (hdb : (x == ("__debug__" : Str)) = false := by decide) (he : starEach (e :: es) X.env = (false, eval e X.env) :: starEach es X.env := by rfl) (hpl : (backTo pos (starEach es X.env)).any (·.1) = false := by rfl) :
    DE X Z (.Call (.Name x p) (e :: es) [] pos) (dMake C dsp t) := PE.im (pe_make M F (hr.mono hk) hg hm hb .nil pass0 ha hdb he hpl) fun σ H Q ⟨ω, S, Qd, a, h, fi⟩ => by
  refine ⟨ω, S, _, a, h, fun ws S1 vs H1 x1 r1 q1 h1 => fun x dx nx nd hne => ?_⟩
  obtain ⟨xm, rm⟩ := Rel.made (C := C) r1 nx nd hne
  show uSp X.K dsp (.ref x :: (vs ++ [])) _ _ _
  rw [List.append_nil]
  exact ⟨.ref x :: ws, _, _, X0, rm, .cons (.ref x) (q1.mono xm), h1 x dx (r1.free nx) (r1.free nd) hne, fun w S' v H' x r q ⟨e, h⟩ => by
    subst e
    cases q
    exact ⟨rfl, fi _ S' _ H' (x1.trans (xm.trans x)) r (.ref _) h⟩, .zero⟩
end
section
variable {X : Cx} {Z : WX} {d : Addr} {tab : List (Str × W)}
end
section
variable {X : Cx} {Z : WX}
theorem dt_inT {i o : Expr} {ti to : DE'} {pos : Pos} {k : Nat} (hr : Room k X.A) (hi : DE X Z i ti) (ho : DE X Z o to) (hm : behindInMarks .In o = false := by rfl) : DT X Z (.Compare i [.In] [o] pos) (ζj (dOp dInT ti to)) := PT.im (pt_cmp (pc_din (hu_of hr) hi ho) hm) fun σ H Q ⟨ω, S, Qd, a, h, f⟩ => by
  refine ⟨ω, S, _, a, h, fun v S1 y H1 x1 r1 q1 h1 => ?_⟩
  refine ⟨ω, S1, _, a.to x1 r1, h1, fun w S2 z H2 x2 r2 q2 h2 => ?_⟩
  unfold dInT at h2
  split at h2
  · cases q2
    split at h2
    · rename_i kvs kk hs ek
      obtain ⟨b, rfl, hb⟩ := wkeyT_rel r2 (q1.mono x2) ek
      cases r2 _ _ hs with
      | @dT _ gs hH rs =>
        refine ⟨_, _, rfl, .t hH hb, ?_⟩
        have e : (wval kvs kk).isSome = (valV gs kk).isSome := by
          rcases wval_rel rs kk with ⟨w', z, e3, e4, _⟩ | ⟨e3, e4⟩ <;> rw [e3, e4] <;> rfl
        rw [← e]
        exact ⟨_, rfl, f _ _ _ (x1.trans x2) r2 h2⟩
    · exact h2.elim
  · exact h2.elim
def ξg : DC' := fun ws S Q => match ws with
  | [.int i] => Q (.int i) S
  | [.bl b] => Q (.int (if b then 1 else 0)) S
  | _ => False
theorem cd_int : CD X (.type "int") ξg := CallR.im call_int1 fun xs H Q ⟨ws, S, Qd, r, rs, q, fi⟩ => by
  unfold ξg at q
  split at q
  · obtain ⟨v, rfl, r1⟩ := rs.one; cases r1; exact .inl ⟨_, rfl, fi.one r (.int _) q⟩
  · obtain ⟨v, rfl, r1⟩ := rs.one; cases r1; exact .inr ⟨_, rfl, fi.one r (.int _) q⟩
  · exact q.elim
end
def dPairs : List (DE' × DE') → Om → Sto → (List (W × W) → Sto → Prop) → Prop
  | [], _, S, Q => Q [] S
  | (tk, tv) :: r, ω, S, Q => tk ω S fun x S1 => tv ω S1 fun y S2 => dPairs r ω S2 fun ps S3 => Q ((x, y) :: ps) S3
def pkeys : List (W × W) → Option (List (Key × W))
  | [] => some []
  | (w, v) :: r => match wkey w, pkeys r with
    | some k, some ks => some ((k, v) :: ks)
    | _, _ => none
def wmerge (kvs more : List (Key × W)) : List (Key × W) := more.foldl (fun acc kv => wput acc kv.1 kv.2) kvs
def dDisp (trs : List (DE' × DE')) : DE' := fun ω S Q => ∀ p, S p = none → dPairs trs ω (up S p (.dK [])) fun ps S2 => S2 p = some (.dK []) ∧ match pkeys ps with
  | some kvs => kvs.length ≤ 15 ∧ Q (.ref p) (up S2 p (.dK (wmerge [] kvs)))
  | none => False
section
variable {X : Cx} {Z : WX}
def uP (K : PySem.W.Frag) (Z : WX) (trs : List (DE' × DE')) : List (TE × TE) := trs.map fun p => (uE K Z p.1, uE K Z p.2)
abbrev DPP (X : Cx) (Z : WX) (pos : Pos) (keys : List (Option Expr)) (values : List Expr) (trs : List (DE' × DE')) : Prop := PPs X pos keys values (uP X.K Z trs)
theorem dpp_nil {pos : Pos} : DPP X Z pos [] [] [] := pps_nil
theorem dpp_cons {pos : Pos} {k v : Expr} {ks : List (Option Expr)} {vs : List Expr} {tk tv : DE'} {trs : List (DE' × DE')} (hk : DE X Z k tk) (hv : DE X Z v tv) (hr : DPP X Z pos ks vs trs) : DPP X Z pos (some k :: ks) (v :: vs) ((tk, tv) :: trs) := pps_cons hk hv hr
abbrev RP (K : PySem.W.Frag) (S : Sto) (H : Hp) : List (W × W) → List (V × V) → Prop := Paired fun p q => RW K S H p.1 q.1 ∧ RW K S H p.2 q.2
theorem pairs_go {K : PySem.W.Frag} {σ : L2.St} {ω : Om} : ∀ {trs : List (DE' × DE')} {S : Sto} {H : Hp} {Qd : List (W × W) → Sto → Prop} {Q : List (V × V) → Hp → Prop}, At K Z S H σ ω → dPairs trs ω S Qd →
    (∀ ps S' vs H', Nx S H S' H' → Rel K S' H' → RP K S' H' ps vs → Qd ps S' → Q vs H') → tPairs (uP K Z trs) σ H Q
  | [], S, H, Qd, Q, a, h, f => f _ _ _ _ Nx.refl a.rel .nil h
  | (tk, tv) :: r, S, H, Qd, Q, a, h, f => by
    refine ⟨ω, S, _, a, h, fun x S1 v H1 x1 r1 q1 h1 => ?_⟩
    refine ⟨ω, S1, _, a.to x1 r1, h1, fun y S2 u H2 x2 r2 q2 h2 => ?_⟩
    exact pairs_go (a.to (x1.trans x2) r2) h2 fun ps S3 vs H3 x3 r3 q3 h3 => f _ _ _ _ (x1.trans (x2.trans x3)) r3 (.cons ⟨q1.mono (x2.trans x3), q2.mono x3⟩ q3) h3
theorem pkeys_rel {K : PySem.W.Frag} {S : Sto} {H : Hp} {ps : List (W × W)} {vs : List (V × V)} (r : RP K S H ps vs) : ∀ {kvs : List (Key × W)}, pkeys ps = some kvs → ∃ gs : List (Key × V), vs = gs.map (fun kv => (kV kv.1, kv.2)) ∧ RWp K S H kvs gs := by
  induction r with
  | nil => intro kvs h; simp only [pkeys, Option.some.injEq] at h; subst h; exact ⟨[], rfl, .nil⟩
  | @cons p q ps vs h t ih =>
    intro kvs e
    obtain ⟨p1, p2⟩ := p
    obtain ⟨q1, q2⟩ := q
    simp only [pkeys] at e
    cases e1 : wkey p1 with
    | none => rw [e1] at e; cases e
    | some k =>
      cases e2 : pkeys ps with
      | none => rw [e1, e2] at e; cases e
      | some ks =>
        rw [e1, e2] at e
        simp only [Option.some.injEq] at e
        subst e
        obtain ⟨gs, rfl, rg⟩ := ih e2
        obtain rfl := wkey_rel h.1 e1
        exact ⟨(k, q2) :: gs, rfl, .cons ⟨rfl, h.2⟩ rg⟩
theorem wmerge_rel {K : PySem.W.Frag} {S : Sto} {H : Hp} {more : List (Key × W)} {ms : List (Key × V)} (r : RWp K S H more ms) : ∀ {kvs : List (Key × W)} {gs : List (Key × V)}, RWp K S H kvs gs → RWp K S H (wmerge kvs more) (mergeK gs ms) := by
  induction r with
  | nil => intro kvs gs q; exact q
  | @cons p q ps qs h t ih =>
    intro kvs gs r0
    obtain ⟨p1, p2⟩ := p
    obtain ⟨q1, q2⟩ := q
    obtain ⟨h1, h2⟩ := h
    simp only at h1 h2
    subst h1
    exact ih (wput_rel r0 p1 h2)
theorem de_disp {pos : Pos} {keys : List (Option Expr)} {values : List Expr} {trs : List (DE' × DE')} (h : DPP X Z pos keys values trs) (hall : keys.all (·.isSome) = true := by rfl) (hl : keys.length = values.length := by rfl) (h0 : keys ≠ [] := by simp) (h15 : keys.length ≤ 15 := by decide) :
    DE X Z (.Dict keys values pos) (dDisp trs) := PE.im (pe_disp h hall hl h0 h15) fun σ H Q ⟨ω, S, Qd, a, h, f⟩ => fun p np => by
  have x0 : Nx S H (up S p (.dK [])) (upd H p (.dK [])) := Nx.newS np
  have r0 : Rel X.K (up S p (.dK [])) (upd H p (.dK [])) := a.rel.newS np (.dK upd_same .nil)
  refine pairs_go (a.to x0 r0) (h p (a.rel.free np)) fun ps S2 vs H2 x2 r2 q2 ⟨e, h2⟩ => ?_
  split at h2
  · rename_i kvs ek
    obtain ⟨gs, rfl, rg⟩ := pkeys_rel q2 ek
    cases r2 _ _ e with
    | @dK _ gs0 hH rs =>
      cases rs
      refine ⟨hH, gs, rfl, by rw [← RWp.len rg]; exact h2.1, ?_⟩
      exact f _ _ _ _ (x0.trans (x2.trans (Nx.wr e))) (r2.wr e (fun _ z => nomatch z) (.dK upd_same (RWp.mono (Nx.wr e) (wmerge_rel rg .nil)))) (.ref p) h2.2
  · exact h2.elim
end
theorem view_c_non {S : Sto} : view S .non = .non := rfl
theorem view_c_bl {S : Sto} {b : Bool} : view S (.bl b) = (.bl b) := rfl
theorem view_c_int {S : Sto} {i : Int} : view S (.int i) = (.int i) := rfl
theorem view_c_str {S : Sto} {x : Str} : view S (.str x) = (.str x) := rfl
theorem view_c_tup {S : Sto} {xs : List W} : view S (.tup xs) = (.tup xs) := rfl
theorem view_c_lst {S : Sto} {xs : List W} : view S (.lst xs) = (.lst xs) := rfl
theorem view_c_scr {S : Sto} {ns : List Int} : view S (.scr ns) = (.scr ns) := rfl
theorem view_c_dct {S : Sto} {ks : List Key} {ws : List W} : view S (.dct ks ws) = (.dct ks ws) := rfl
theorem view_c_ins {S : Sto} {C : Addr} {ns : List Str} {ws : List W} : view S (.ins C ns ws) = (.ins C ns ws) := rfl
def ζE (t : DS') : DS' := fun D ω S => t { D with nx := fun ω' S' => ∃ S2, Frz .non S' .non S2 ∧ D.nx ω' S2 } ω S
theorem ds_fgt {X : Cx} {Z : WX} {s : Stmt} {t : DS'} (h : DS X Z s t) : DS X Z s (ζE t) := PS.im h fun D σ H ⟨ω, S, Dd, a, h, f⟩ =>
  ⟨ω, S, _, a, h, ⟨fun ω' S' σ' H' x a' ⟨S2, fz, h'⟩ => by
    obtain ⟨x2, r2, _⟩ := fz.ok a'.rel .non
    exact f.nx _ _ _ _ (x.trans x2) (a'.to x2 r2) h', f.rt, f.bk, f.ct⟩⟩
theorem Frz.new {S : Sto} {p : Addr} {o : WO} {w : W} (h : S p = none) (hn : ∀ x, o ≠ .own x) : Frz w (up S p o) w S := by
  have := Frz.drop (w := w) (S := up S p o) (p := p) up_same hn
  rw [del_new h] at this
  exact this
theorem Frz.under {S : Sto} {p t : Addr} {o o2 u : WO} {w : W} (hne : p ≠ t) (ht : S t = none) (hn : ∀ x, u ≠ .own x) : Frz w (up (up (up S p o) t u) p o2) w (up S p o2) := by
  have h := Frz.drop (w := w) (S := up (up (up S p o) t u) p o2) (p := t) (by rw [up_ne (Ne.symm hne), up_same]) hn
  have e : del (up (up (up S p o) t u) p o2) t = up S p o2 := by
    funext b
    by_cases c : b = t
    · subst c; rw [del_same, up_ne (Ne.symm hne), ht]
    · rw [del_ne c]
      by_cases c2 : b = p
      · subst c2; rw [up_same, up_same]
      · rw [up_ne c2, up_ne c, up_ne c2, up_ne c2]
  rw [e] at h
  exact h
theorem wputF_new {f : Str} {v : W} {fs : List (Str × W)} (h : f ∉ fs.map (·.1)) : wputF f v fs = fs ++ [(f, v)] := by
  induction fs with
  | nil => rfl
  | cons p fs ih =>
    obtain ⟨g, x⟩ := p
    have h1 : ¬ g = f := fun e => h (by rw [e]; exact List.mem_cons_self ..)
    rw [wputF, if_neg h1, ih fun e => h (List.mem_cons_of_mem _ e)]
    rfl
theorem look_self {f : Str} {v : W} {fs : List (Str × W)} : ((f, v) :: fs).lookup f = some v := by simp [List.lookup]
theorem fget_ref {S : Sto} {C a dx : Addr} {f : Str} {fs : List (Str × W)} (h : S a = some (.ins C dx fs)) : fget S C f (.ref a) = fs.lookup f := by simp only [fget, h, if_true]
theorem fget_ins {S : Sto} {C : Addr} {f : Str} {ns : List Str} {ws : List W} : fget S C f (.ins C ns ws) = (ns.zip ws).lookup f := if_pos rfl
theorem wkey_int {i : Int} : wkey (.int i) = some (.inl i) := rfl
theorem wkey_str {x : Str} : wkey (.str x) = some (.inr x) := rfl
theorem atI_n {α : Type} {xs : List α} {j : Nat} (h : j < xs.length) : L2.atI xs (j : Int) = xs[j]? := by
  unfold L2.atI L2.ixN
  have h1 : ¬ ((j : Int) < 0) := by omega
  have h2 : ((j : Int) < (xs.length : Int)) := by omega
  simp [h1, h2]
theorem atI_0 {α : Type} {x : α} {xs : List α} : L2.atI (x :: xs) 0 = some x := (atI_n (j := 0) (by simp)).trans rfl
theorem atI_1 {α : Type} {x y : α} {xs : List α} : L2.atI (x :: y :: xs) 1 = some y := (atI_n (j := 1) (by simp)).trans rfl
theorem atI_2 {α : Type} {x y z : α} {xs : List α} : L2.atI (x :: y :: z :: xs) 2 = some z := (atI_n (j := 2) (by simp)).trans rfl
theorem atI_3 {α : Type} {x y z w : α} {xs : List α} : L2.atI (x :: y :: z :: w :: xs) 3 = some w := (atI_n (j := 3) (by simp)).trans rfl
theorem wval_none {κ : Type} [DecidableEq κ] {kvs : List (κ × W)} {k : κ} (h : k ∉ kvs.map (·.1)) : wval kvs k = none := by
  unfold wval
  rw [List.find?_eq_none.mpr]
  · rfl
  · intro x hx e
    exact h (List.mem_map.mpr ⟨x, hx, of_decide_eq_true e⟩)
theorem tru_non {S : Sto} : tru S .non = some false := rfl
theorem isi_int_non {S : Sto} : isi S .int .non = some false := rfl
theorem isi_bool_non {S : Sto} : isi S .bool .non = some false := rfl
theorem isi_str_non {S : Sto} : isi S .str .non = some false := rfl
theorem isi_tup_non {S : Sto} : isi S .tup .non = some false := rfl
theorem isi_lst_non {S : Sto} : isi S .lst .non = some false := rfl
theorem tru_bl {S : Sto} {b : Bool} : tru S (.bl b) = some b := rfl
theorem isi_int_bl {S : Sto} {b : Bool} : isi S .int (.bl b) = some true := rfl
theorem isi_bool_bl {S : Sto} {b : Bool} : isi S .bool (.bl b) = some true := rfl
theorem isi_str_bl {S : Sto} {b : Bool} : isi S .str (.bl b) = some false := rfl
theorem isi_tup_bl {S : Sto} {b : Bool} : isi S .tup (.bl b) = some false := rfl
theorem isi_lst_bl {S : Sto} {b : Bool} : isi S .lst (.bl b) = some false := rfl
theorem tru_int {S : Sto} {i : Int} : tru S (.int i) = some (i != 0) := rfl
theorem isi_int_int {S : Sto} {i : Int} : isi S .int (.int i) = some true := rfl
theorem isi_bool_int {S : Sto} {i : Int} : isi S .bool (.int i) = some false := rfl
theorem isi_str_int {S : Sto} {i : Int} : isi S .str (.int i) = some false := rfl
theorem isi_tup_int {S : Sto} {i : Int} : isi S .tup (.int i) = some false := rfl
theorem isi_lst_int {S : Sto} {i : Int} : isi S .lst (.int i) = some false := rfl
theorem tru_str {S : Sto} {x : Str} : tru S (.str x) = some ((x.length : Int) != 0) := rfl
theorem isi_int_str {S : Sto} {x : Str} : isi S .int (.str x) = some false := rfl
theorem isi_bool_str {S : Sto} {x : Str} : isi S .bool (.str x) = some false := rfl
theorem isi_str_str {S : Sto} {x : Str} : isi S .str (.str x) = some true := rfl
theorem isi_tup_str {S : Sto} {x : Str} : isi S .tup (.str x) = some false := rfl
theorem isi_lst_str {S : Sto} {x : Str} : isi S .lst (.str x) = some false := rfl
theorem tru_tup {S : Sto} {xs : List W} : tru S (.tup xs) = some (!xs.isEmpty) := rfl
theorem isi_int_tup {S : Sto} {xs : List W} : isi S .int (.tup xs) = some false := rfl
theorem isi_bool_tup {S : Sto} {xs : List W} : isi S .bool (.tup xs) = some false := rfl
theorem isi_str_tup {S : Sto} {xs : List W} : isi S .str (.tup xs) = some false := rfl
theorem isi_tup_tup {S : Sto} {xs : List W} : isi S .tup (.tup xs) = some true := rfl
theorem isi_lst_tup {S : Sto} {xs : List W} : isi S .lst (.tup xs) = some false := rfl
theorem tru_lst {S : Sto} {xs : List W} : tru S (.lst xs) = some (!xs.isEmpty) := rfl
theorem isi_int_lst {S : Sto} {xs : List W} : isi S .int (.lst xs) = some false := rfl
theorem isi_bool_lst {S : Sto} {xs : List W} : isi S .bool (.lst xs) = some false := rfl
theorem isi_str_lst {S : Sto} {xs : List W} : isi S .str (.lst xs) = some false := rfl
theorem isi_tup_lst {S : Sto} {xs : List W} : isi S .tup (.lst xs) = some false := rfl
theorem isi_lst_lst {S : Sto} {xs : List W} : isi S .lst (.lst xs) = some true := rfl
theorem isL_lst {S : Sto} {xs : List W} : isL S (.lst xs) = true := rfl
theorem isL_ref {S : Sto} {a : Addr} {xs : List W} (h : S a = some (.lst xs)) : isL S (.ref a) = true := by simp only [isL, view, h]
theorem view_ref {S : Sto} {a : Addr} {xs : List W} (h : S a = some (.lst xs)) : view S (.ref a) = .lst xs := by simp only [view, h]
theorem view_refD {S : Sto} {a : Addr} {kvs : List (Key × W)} (h : S a = some (.dK kvs)) : view S (.ref a) = .dct (kvs.map (·.1)) (kvs.map (·.2)) := by simp only [view, h]
theorem inW_refD {S : Sto} {a : W} {p : Addr} {kvs : List (Key × W)} {k : Key} (h : S p = some (.dK kvs)) (hk : wkey a = some k) : inW S a (.ref p) = some (wval kvs k).isSome := by
  unfold inW
  rw [view_refD h]
  show (match wkey a with | some k => some (wval ((kvs.map (fun x : Key × W => x.1)).zip (kvs.map (fun x : Key × W => x.2))) k).isSome | none => none) = _
  rw [hk, zip_prod]
theorem seqW_lst {S : Sto} {xs : List W} : seqW S (.lst xs) = some xs := rfl
theorem seqW_tup {S : Sto} {xs : List W} : seqW S (.tup xs) = some xs := rfl
theorem seqW_str {S : Sto} {x : Str} : seqW S (.str x) = some (x.cps.toList.map fun c => W.str ⟨#[c]⟩) := rfl
theorem seqW_scr {S : Sto} {ns : List Int} : seqW S (.scr ns) = some (ns.map W.int) := rfl
theorem sq2_lst {S : Sto} {xs : List W} : sq2 S (.lst xs) = some xs := rfl
theorem sq2_tup {S : Sto} {xs : List W} : sq2 S (.tup xs) = some xs := rfl
theorem inW_sign {S : Sto} {z : Str} {c : Nat} : inW S (.str ⟨#[c]⟩) (.str z) = some (decide (c ∈ z.cps.toList)) := rfl
theorem inW_lst {S : Sto} {a : W} {xs : List W} (h1 : okD a = true) (h2 : okD (.lst xs) = true) : inW S a (.lst xs) = some (xs.any fun y => weq y a) := by
  show (if (okD a && okD (.lst xs)) = true then some (xs.any fun y => weq y a) else none) = _
  rw [h1, h2]; rfl
theorem inW_tup {S : Sto} {a : W} {xs : List W} (h1 : okD a = true) (h2 : okD (.tup xs) = true) : inW S a (.tup xs) = some (xs.any fun y => weq y a) := by
  show (if (okD a && okD (.tup xs)) = true then some (xs.any fun y => weq y a) else none) = _
  rw [h1, h2]; rfl
theorem inW_dct {S : Sto} {a : W} {k : Key} {ks : List Key} {ws : List W} (h : wkey a = some k) : inW S a (.dct ks ws) = some (wval (ks.zip ws) k).isSome := by
  show (match wkey a with | some k => some (wval (ks.zip ws) k).isSome | none => none) = _
  rw [h]
theorem take_succ_map {α β : Type} (g : α → β) {xs : List α} {i : Nat} {w : α} (h : xs[i]? = some w) : (xs.take (i + 1)).map g = (xs.take i).map g ++ [g w] := by
  rw [List.take_succ, h, List.map_append]; rfl
theorem lcF {xs : List W} {ok : Sto → Prop} {S1 : Sto} {T : Tg} {tt : DT'} {te : DE'} {own : List Nat} {ω : Om} {Q : WQ} (f : W → Bool) (g : W → W) (hl : xs.length ≤ 1000000) (hok : ∀ p acc, S1 p = none → ok (up S1 p (.lst acc)))
    (hb : ∀ w ∈ xs, ∃ ω2, ζt T w (wp ω own) = some ω2 ∧ ∀ p acc, S1 p = none → (∀ Qt : Bool → Sto → Prop, Qt (f w) (up S1 p (.lst acc)) → tt ω2 (up S1 p (.lst acc)) Qt) ∧ (f w = true → ∀ Qe : WQ, Qe (g w) (up S1 p (.lst acc)) → te ω2 (up S1 p (.lst acc)) Qe))
    (q : Q (.lst ((xs.filter f).map g)) S1) : ∀ p, S1 p = none → ∃ P : Nat → List W → Sto → Prop, P 0 [] (up S1 p (.lst [])) ∧ (∀ i acc S', P i acc S' → ok S' ∧ S' p = some (.lst acc)) ∧
      (∀ i w acc S', xs[i]? = some w → P i acc S' → ∃ ω2, ζt T w (wp ω own) = some ω2 ∧ tt ω2 S' fun b S3 => if b = true then te ω2 S3 fun v S4 => ∃ acc', S4 p = some (.lst acc') ∧ acc'.length < 1000000 ∧ P (i + 1) (acc' ++ [v]) (up S4 p (.lst (acc' ++ [v]))) else ∃ acc', P (i + 1) acc' S3) ∧
      ∀ acc S', P xs.length acc S' → Q (.lst acc) (del S' p) := by
  intro p hp
  refine ⟨fun i acc S' => acc = ((xs.take i).filter f).map g ∧ S' = up S1 p (.lst acc), ⟨rfl, rfl⟩, ?_, ?_, ?_⟩
  · rintro i acc S' ⟨rfl, rfl⟩
    exact ⟨hok p _ hp, up_same⟩
  · rintro i w acc S' hw ⟨rfl, rfl⟩
    obtain ⟨ω2, e, hb⟩ := hb w (List.mem_of_getElem? hw)
    obtain ⟨h1, h2⟩ := hb p (((xs.take i).filter f).map g) hp
    refine ⟨ω2, e, h1 _ ?_⟩
    have et : (xs.take (i + 1)).filter f = (xs.take i).filter f ++ (if f w = true then [w] else []) := by
      rw [List.take_succ, hw, List.filter_append]
      congr 1
      show List.filter f [w] = _
      rw [List.filter_cons, List.filter_nil]
    cases c : f w with
    | true =>
      rw [if_pos rfl]
      refine h2 c _ ⟨_, up_same, ?_, ?_, by rw [up_up]⟩
      · have l1 : i < xs.length := by
          have := List.getElem?_eq_some_iff.mp hw
          exact this.1
        have l2 : ((xs.take i).filter f).length ≤ (xs.take i).length := List.length_filter_le ..
        have l3 : (xs.take i).length ≤ i := List.length_take_le ..
        rw [List.length_map]
        omega
      · rw [et, c, if_pos rfl, List.map_append]; rfl
    | false =>
      rw [if_neg Bool.false_ne_true]
      refine ⟨_, ?_, rfl⟩
      rw [et, c, if_neg Bool.false_ne_true, List.append_nil]
  · rintro acc S' ⟨rfl, rfl⟩
    rw [List.take_length, del_new hp]
    exact q
theorem lcM {xs : List W} {ok : Sto → Prop} {S1 : Sto} {T : Tg} {te : DE'} {own : List Nat} {ω : Om} {Q : WQ} (g : W → W) (hl : xs.length ≤ 1000000) (hok : ∀ p acc, S1 p = none → ok (up S1 p (.lst acc)))
    (hb : ∀ w ∈ xs, ∃ ω2, ζt T w (wp ω own) = some ω2 ∧ ∀ p acc, S1 p = none → ∀ Qe : WQ, Qe (g w) (up S1 p (.lst acc)) → te ω2 (up S1 p (.lst acc)) Qe)
    (q : Q (.lst (xs.map g)) S1) : ∀ p, S1 p = none → ∃ P : Nat → List W → Sto → Prop, P 0 [] (up S1 p (.lst [])) ∧ (∀ i acc S', P i acc S' → ok S' ∧ S' p = some (.lst acc)) ∧
      (∀ i w acc S', xs[i]? = some w → P i acc S' → ∃ ω2, ζt T w (wp ω own) = some ω2 ∧ dYes ω2 S' fun b S3 => if b = true then te ω2 S3 fun v S4 => ∃ acc', S4 p = some (.lst acc') ∧ acc'.length < 1000000 ∧ P (i + 1) (acc' ++ [v]) (up S4 p (.lst (acc' ++ [v]))) else ∃ acc', P (i + 1) acc' S3) ∧
      ∀ acc S', P xs.length acc S' → Q (.lst acc) (del S' p) := by
  refine lcF (fun _ => true) g hl hok (fun w hw => ?_) ?_
  · obtain ⟨ω2, e, h⟩ := hb w hw
    exact ⟨ω2, e, fun p acc hp => ⟨fun Qt h => h, fun _ => h p acc hp⟩⟩
  · rw [List.filter_eq_self.mpr fun _ _ => rfl]; exact q
theorem seqI_go {ti : DE'} {ω : Om} {S : Sto} {w : W} {xs : List W} {R : List W → (Sto → Prop) → Sto → Prop} (h : ∀ Q' : WQ, Q' w S → ti ω S Q') (hs : seqW S w = some xs) (q : R xs (fun S' => seqW S' w = some xs) S) : ζD ti ω S R := by
  refine h _ ?_
  rw [hs]
  exact q
theorem lcMs {ti te : DE'} {T : Tg} {own : List Nat} {ω : Om} {S : Sto} {Q : WQ} {w : W} {xs : List W} (h : ∀ Q' : WQ, Q' w S → ti ω S Q') (hs : seqW S w = some xs) (g : W → W) (hl : xs.length ≤ 1000000) (hok : ∀ p acc, S p = none → seqW (up S p (.lst acc)) w = some xs)
    (hb : ∀ w ∈ xs, ∃ ω2, ζt T w (wp ω own) = some ω2 ∧ ∀ p acc, S p = none → ∀ Qe : WQ, Qe (g w) (up S p (.lst acc)) → te ω2 (up S p (.lst acc)) Qe)
    (q : Q (.lst (xs.map g)) S) : dLc (ζD ti) T dYes te own ω S Q := seqI_go h hs (lcM g hl hok hb q)
theorem ienum_at' {xs : List W} {i : Nat} {u : W} (h : (ienum xs)[i]? = some u) : ∃ w, xs[i]? = some w ∧ u = .tup [.int (i : Nat), w] := by
  have hi : i < xs.length := by
    have := (List.getElem?_eq_some_iff.mp h).1
    rw [ienum_len] at this
    exact this
  have e : xs[i]? = some xs[i] := List.getElem?_eq_getElem hi
  rw [ienum_at e] at h
  exact ⟨_, e, (Option.some.inj h).symm⟩
theorem forS {ti : DE'} {T : Tg} {tb : DS'} {D : Out} {ω : Om} {S : Sto} {w : W} {xs : List W} (h : ∀ Q' : WQ, Q' w S → ti ω S Q') (hs : seqW S w = some xs) (P : Nat → Om → Sto → Prop) (h0 : P 0 ω S) (hok : ∀ i ω' S', P i ω' S' → seqW S' w = some xs)
    (st : ∀ i w ω' S', xs[i]? = some w → P i ω' S' → ∃ ω2, ζt T w ω' = some ω2 ∧ tb { D with nx := P (i + 1), ct := P (i + 1), bk := D.nx } ω2 S') (fin : ∀ ω' S', P xs.length ω' S' → D.nx ω' S') : dFor (ζD ti) T tb D ω S :=
  seqI_go h hs ⟨P, h0, hok, st, fin⟩
theorem forE {ti : DE'} {T : Tg} {tb : DS'} {D : Out} {ω : Om} {S : Sto} {xs : List W} (h : ∀ Q' : WQ, Q' (.tup xs) S → ti ω S Q') (P : Nat → Om → Sto → Prop) (h0 : P 0 ω S)
    (st : ∀ (i : Nat) w ω' S', xs[i]? = some w → P i ω' S' → ∃ ω2, ζt T (.tup [.int (i : Nat), w]) ω' = some ω2 ∧ tb { D with nx := P (i + 1), ct := P (i + 1), bk := D.nx } ω2 S') (fin : ∀ ω' S', P xs.length ω' S' → D.nx ω' S') : dFor (ζC (ζm ti ζR)) T tb D ω S := by
  refine h _ ⟨P, h0, fun _ _ _ _ => trivial, fun i u ω' S' hu p => ?_, fun ω' S' p => fin ω' S' (by rw [ienum_len] at p; exact p)⟩
  obtain ⟨w, hw, rfl⟩ := ienum_at' hu
  exact st i w ω' S' hw p
theorem forR {ti : DE'} {T : Tg} {tb : DS'} {D : Out} {ω : Om} {S : Sto} {n : Int} (h : ∀ Q' : WQ, Q' (.int n) S → ti ω S Q') (hb : -(2 ^ 62) ≤ n ∧ n < 2 ^ 62) (P : Nat → Om → Sto → Prop) (h0 : P 0 ω S)
    (st : ∀ (i : Nat) ω' S', i < n.toNat → P i ω' S' → ∃ ω2, ζt T (.int (i : Nat)) ω' = some ω2 ∧ tb { D with nx := P (i + 1), ct := P (i + 1), bk := D.nx } ω2 S') (fin : ∀ ω' S', P n.toNat ω' S' → D.nx ω' S') : dFor (ζA (ζm ti ζR)) T tb D ω S := by
  refine h _ ⟨hb, P, h0, fun _ _ _ _ => trivial, fun i u ω' S' hu p => ?_, fun ω' S' p => fin ω' S' (by unfold irange at p; rw [List.length_map, List.length_range] at p; exact p)⟩
  have hi : i < n.toNat := by
    have := (List.getElem?_eq_some_iff.mp hu).1
    unfold irange at this
    rw [List.length_map, List.length_range] at this
    exact this
  have e : (irange 0 n.toNat)[i]? = some (.int (i : Nat)) := by
    unfold irange
    rw [List.getElem?_map, List.getElem?_range hi]
    show some (W.int (0 + (i : Nat))) = _
    rw [Int.zero_add]
  rw [e] at hu
  cases hu
  exact st i ω' S' hi p
theorem view_D {S : Sto} {w : W} (h : isD w = true) : view S w = w := by
  cases w <;> first | rfl | cases h
def Pl : W → Bool
  | .non | .bl _ | .int _ | .str _ | .tup _ | .lst _ => true
  | _ => false
theorem weq_str (a b : Str) : weq (.str a) (.str b) = decide (a = b) := by
  unfold weq pd
  rw [PyData.eqv]
  exact Bool.eq_iff_iff.mpr (by simp)
theorem weq_int (a b : Int) : weq (.int a) (.int b) = decide (a = b) := by
  unfold weq pd
  rw [PyData.eqv]
  exact Bool.eq_iff_iff.mpr (by simp)
def whole : W → Bool
  | .int _ => true
  | _ => false
def within (lo hi : Int) : W → Bool
  | .int i => decide (lo ≤ i) && decide (i ≤ hi)
  | _ => false
def az (c : Nat) : Bool := decide (97 ≤ c) && decide (c ≤ 122)
def sgn : W → Bool
  | .str x => match x.cps.toList with
    | [c] => az c
    | _ => false
  | _ => false
def isName : W → Bool
  | .str x => decide (1 ≤ x.length) && decide (x.length ≤ 8) && x.cps.toList.all az
  | _ => false
def tupIn (lo hi : Int) : W → Bool
  | .tup xs => decide (lo ≤ (xs.length : Int)) && decide ((xs.length : Int) ≤ hi)
  | _ => false
abbrev w_LETTERS : W := .str "abcdefghijklmnopqrstuvwxyz"
abbrev w_LONGEST_NAME : W := .int 8
abbrev placeW (n : Str) (r : Int) : W := .tup [.str n, .int r]
abbrev roadW (a b : Str) (m s : Int) : W := .tup [.str a, .str b, .int m, .int s]
def minS (a b : Str) : Str := if b.cps.toList < a.cps.toList then b else a
def maxS (a b : Str) : Str := if a.cps.toList < b.cps.toList then b else a
def risksW (ps : List (Str × Int)) : W := .dct (ps.map fun p => Sum.inr p.1) (ps.map fun p => .int p.2)
def isPl (ps : List (Str × Int)) : W → Bool
  | .str n => decide (n ∈ ps.map (·.1))
  | _ => false
theorem wval_risks (ps : List (Str × Int)) (n : Str) : (wval ((ps.map fun p => (Sum.inr p.1 : Key)).zip (ps.map fun p => W.int p.2)) (Sum.inr n)).isSome = decide (n ∈ ps.map (·.1)) := by
  induction ps with
  | nil => rfl
  | cons p ps ih =>
    by_cases c : p.1 = n
    · have e : wval (((p :: ps).map fun p => (Sum.inr p.1 : Key)).zip ((p :: ps).map fun p => W.int p.2)) (Sum.inr n) = some (W.int p.2) := by simp [wval, List.find?_cons, c]
      rw [e]
      simp [c]
    · have c' : ¬ (Sum.inr p.1 : Key) = Sum.inr n := fun e => c (Sum.inr.inj e)
      have e : wval (((p :: ps).map fun p => (Sum.inr p.1 : Key)).zip ((p :: ps).map fun p => W.int p.2)) (Sum.inr n) = wval ((ps.map fun p => (Sum.inr p.1 : Key)).zip (ps.map fun p => W.int p.2)) (Sum.inr n) := by simp [wval, List.find?_cons, c']
      rw [e, ih]
      have : (n ∈ (p :: ps).map (·.1)) ↔ n ∈ ps.map (·.1) := by
        rw [List.map_cons, List.mem_cons]
        exact ⟨fun h => h.resolve_left fun e => c e.symm, Or.inr⟩
      exact (decide_eq_decide.mpr this).symm
theorem inW_risks {S : Sto} {ps : List (Str × Int)} {n : Str} : inW S (.str n) (risksW ps) = some (decide (n ∈ ps.map (·.1))) := by
  rw [← wval_risks]
  exact inW_dct rfl
structure PsOk (ps : List (Str × Int)) : Prop where
  lo : 1 ≤ ps.length
  hi : ps.length ≤ 40
  ok : ∀ p ∈ ps, isName (.str p.1) = true ∧ 1 ≤ p.2 ∧ p.2 ≤ 4
  nd : (ps.map (·.1)).Nodup
structure Rd4 where
  a : Str
  b : Str
  m : Int
  s : Int
abbrev Rd4.w (r : Rd4) : W := roadW r.a r.b r.m r.s
def Rd4.ends (r : Rd4) : List Key := [.inr (minS r.a r.b), .inr (maxS r.a r.b)]
structure RsOk (ps : List (Str × Int)) (rs : List Rd4) : Prop where
  hi : rs.length ≤ 80
  ok : ∀ r ∈ rs, r.a ∈ ps.map (·.1) ∧ r.b ∈ ps.map (·.1) ∧ r.a ≠ r.b ∧ (1 ≤ r.m ∧ r.m ≤ 60) ∧ (0 ≤ r.s ∧ r.s ≤ 60)
  nd : (rs.map Rd4.ends).Nodup
structure SsOk (ps : List (Str × Int)) (ss : List Str) : Prop where
  hi : ss.length ≤ 12
  ok : ∀ s ∈ ss, s ∈ ps.map (·.1)
  nd : ss.Nodup
abbrev placesW (ps : List (Str × Int)) : W := .tup (ps.map fun p => placeW p.1 p.2)
abbrev roadsW (rs : List Rd4) : W := .tup (rs.map Rd4.w)
abbrev stationsW (ss : List Str) : W := .tup (ss.map W.str)
theorem PsOk.name {ps : List (Str × Int)} (h : PsOk ps) {n : Str} (hn : n ∈ ps.map (·.1)) : isName (.str n) = true := by
  obtain ⟨p, hp, rfl⟩ := List.mem_map.mp hn
  exact (h.ok p hp).1
def rkv (ps : List (Str × Int)) : List (Key × W) := ps.map fun p => (Sum.inr p.1, .int p.2)
theorem rkv_fst (ps : List (Str × Int)) : (rkv ps).map (·.1) = ps.map fun p => Sum.inr p.1 := by unfold rkv; rw [List.map_map]; rfl
theorem rkv_snd (ps : List (Str × Int)) : (rkv ps).map (·.2) = ps.map fun p => W.int p.2 := by unfold rkv; rw [List.map_map]; rfl
theorem wput_new {κ : Type} [DecidableEq κ] {kvs : List (κ × W)} {k : κ} {v : W} (h : k ∉ kvs.map (·.1)) : wput kvs k v = kvs ++ [(k, v)] := by
  unfold wput
  rw [if_neg]
  intro e
  rw [List.any_eq_true] at e
  obtain ⟨x, hx, e⟩ := e
  exact h (List.mem_map.mpr ⟨x, hx, of_decide_eq_true e⟩)
theorem nodup_take {α : Type} {xs : List α} (h : xs.Nodup) {i : Nat} {x : α} (hx : xs[i]? = some x) : x ∉ xs.take i := by
  intro hm
  obtain ⟨j, hj, e⟩ := List.mem_take_iff_getElem.mp hm
  have hi := (List.getElem?_eq_some_iff.mp hx).1
  have e2 := (List.getElem?_eq_some_iff.mp hx).2
  have := (List.getElem_inj (h₀ := by omega) (h₁ := hi) h).mp (e.trans e2.symm)
  omega
theorem Srt.map {α : Type} {f : α → W} (xs : List α) (h1 : ∀ x y, PySem.W.alike (pd (f x)) (pd (f y)) = true) (h2 : (∀ x, ∃ a r, pd (f x) = .tuple (a :: r)) ∨ (∀ x, pd (f x) ≠ .none ∧ ∀ ys, pd (f x) ≠ .tuple ys)) (h3 : ∀ x, isD (f x) = true ∧ dep (f x) ≤ 60) : Srt (xs.map f) := by
  have key : ∀ d ∈ pds (xs.map f), ∃ x, d = pd (f x) := fun d hd => by
    rw [pds_map, List.map_map] at hd
    obtain ⟨x, _, rfl⟩ := List.mem_map.mp hd
    exact ⟨x, rfl⟩
  refine ⟨fun d hd d' hd' => ?_, ?_, ?_, fun w hw => ?_⟩
  · obtain ⟨x, rfl⟩ := key d hd
    obtain ⟨y, rfl⟩ := key d' hd'
    exact h1 x y
  · rcases h2 with h2 | h2
    · exact .inl fun d hd => by obtain ⟨x, rfl⟩ := key d hd; exact h2 x
    · exact .inr fun d hd => by obtain ⟨x, rfl⟩ := key d hd; exact h2 x
  · rw [isDs_all, List.all_eq_true]
    intro w hw
    obtain ⟨x, _, rfl⟩ := List.mem_map.mp hw
    exact (h3 x).1
  · obtain ⟨x, _, rfl⟩ := List.mem_map.mp hw
    exact (h3 x).2
abbrev sroadW (r : Rd4) : W := .tup [.str (minS r.a r.b), .str (maxS r.a r.b), .int r.m, .int r.s]
theorem srt_places (ps : List (Str × Int)) : Srt (ps.map fun p => placeW p.1 p.2) := Srt.map ps (fun _ _ => rfl) (.inl fun _ => ⟨_, _, rfl⟩) fun _ => ⟨rfl, by show 1 ≤ 60; decide⟩
theorem srt_roads (rs : List Rd4) : Srt (rs.map sroadW) := Srt.map rs (fun _ _ => rfl) (.inl fun _ => ⟨_, _, rfl⟩) fun _ => ⟨rfl, by show 1 ≤ 60; decide⟩
theorem srt_strs (ss : List Str) : Srt (ss.map W.str) := Srt.map ss (fun _ _ => rfl) (.inr fun _ => ⟨(nofun), nofun⟩) fun _ => ⟨rfl, by show 0 ≤ 60; decide⟩
def gfs (ps : List (Str × Int)) (rs : List Rd4) (ss : List Str) : List (Str × W) := [("risks", risksW ps), ("places", placesW ps), ("roads", roadsW rs), ("stations", stationsW ss), ("sorted_places", .lst (wsort (ps.map fun p => placeW p.1 p.2))), ("sorted_roads", .lst (wsort (rs.map sroadW))), ("sorted_stations", .lst (wsort (ss.map W.str)))]
def gW (C : Addr) (ps : List (Str × Int)) (rs : List Rd4) (ss : List Str) : W := .ins C ((gfs ps rs ss).map (·.1)) ((gfs ps rs ss).map (·.2))
theorem letters_iff (c : Nat) : (c ∈ ("abcdefghijklmnopqrstuvwxyz" : Str).cps.toList) ↔ (97 ≤ c ∧ c ≤ 122) := by
  have e : ("abcdefghijklmnopqrstuvwxyz" : Str).cps.toList = [97, 98, 99, 100, 101, 102, 103, 104, 105, 106, 107, 108, 109, 110, 111, 112, 113, 114, 115, 116, 117, 118, 119, 120, 121, 122] := by decide +kernel
  rw [e]
  simp only [List.mem_cons, List.not_mem_nil, or_false]
  omega
theorem az_iff (c : Nat) : decide (c ∈ ("abcdefghijklmnopqrstuvwxyz" : Str).cps.toList) = az c := by
  rw [Bool.eq_iff_iff, decide_eq_true_iff, letters_iff]
  unfold az
  rw [Bool.and_eq_true, decide_eq_true_iff, decide_eq_true_iff]
theorem Frz.newT {S : Sto} {t : Addr} {xs : List W} (h : S t = none) : Frz (.ref t) (up S t (.tup xs)) (.tup xs) S := by
  have := Frz.tup (S := up S t (.tup xs)) (p := t) up_same
  rw [del_new h] at this
  exact this
theorem frzT {S : Sto} {t : Addr} {xs : List W} {Q : WQ} (h : S t = none) (q : Q (.tup xs) S) : frzQ Q (.ref t) (up S t (.tup xs)) := ⟨_, _, Frz.newT h, q⟩
theorem frzI {S : Sto} {x dx C : Addr} {fs : List (Str × W)} {Q : WQ} (h : S x = none) (hd : S dx = none) (hne : dx ≠ x) (q : Q (.ins C (fs.map (·.1)) (fs.map (·.2))) S) : frzQ Q (.ref x) (up (up (up S dx (.own x)) x (.ins C dx [])) x (.ins C dx fs)) := by
  refine ⟨_, _, Frz.ins (dx := dx) (fs := fs) up_same, ?_⟩
  have e : del (del (up (up (up S dx (.own x)) x (.ins C dx [])) x (.ins C dx fs)) x) dx = S := by
    funext b
    by_cases c : b = dx
    · subst c; rw [del_same, hd]
    · rw [del_ne c]
      by_cases c2 : b = x
      · subst c2; rw [del_same, h]
      · rw [del_ne c2, up_ne c2, up_ne c2, up_ne c]
  rw [e]
  exact q
abbrev bagO (g s : Int) : WO := .lst [.int g, .int s]
structure BagOk (g s : Int) : Prop where
  g0 : 0 ≤ g
  s0 : 0 ≤ s
  s1 : s < 2147483648
def Bg (S : Sto) (b : Addr) : Prop := ∃ g s, S b = some (bagO g s) ∧ BagOk g s
def aft (S : Sto) (b : Addr) (R : Sto → Prop) : Prop := ∀ g s, BagOk g s → R (up S b (bagO g s))
def primes : List Int := [2147483629, 2147483587, 2147483579, 2147483563, 2147483549, 2147483543, 2147483497, 2147483489]
theorem primes_at (j : Nat) (h : j < 8) : ∃ p : Int, primes[j]? = some p ∧ 0 < p ∧ p < 2147483648 := by
  have q : ∀ j : Nat, j < 8 → ∃ p : Int, primes[j]? = some p ∧ 0 < p ∧ p < 2147483648 := fun j h =>
    match j, h with
    | 0, _ => ⟨_, rfl, by decide, by decide⟩ | 1, _ => ⟨_, rfl, by decide, by decide⟩ | 2, _ => ⟨_, rfl, by decide, by decide⟩ | 3, _ => ⟨_, rfl, by decide, by decide⟩
    | 4, _ => ⟨_, rfl, by decide, by decide⟩ | 5, _ => ⟨_, rfl, by decide, by decide⟩ | 6, _ => ⟨_, rfl, by decide, by decide⟩ | 7, _ => ⟨_, rfl, by decide, by decide⟩
    | n + 8, h => absurd h (by omega)
  exact q j h
theorem atI_toNat {α : Type} {xs : List α} {i : Int} (h0 : 0 ≤ i) (h : i.toNat < xs.length) : L2.atI xs i = xs[i.toNat]? := by
  have e : i = (i.toNat : Int) := (Int.toNat_of_nonneg h0).symm
  rw [e]
  exact atI_n (by omega)
theorem bl_cases {A B : Prop} {b : Bool} (h1 : b = true → A) (h2 : b = false → B) : if b = true then A else B := by
  cases b
  · rw [if_neg Bool.false_ne_true]; exact h2 rfl
  · rw [if_pos rfl]; exact h1 rfl
theorem up_self {S : Sto} {a : Addr} {o : WO} (h : S a = some o) : up S a o = S := by
  funext b
  by_cases c : b = a
  · subst c; rw [up_same, h]
  · rw [up_ne c]
theorem up_comm {S : Sto} {a b : Addr} {o u : WO} (h : a ≠ b) : up (up S a o) b u = up (up S b u) a o := by
  funext c
  by_cases c1 : c = a
  · subst c1; rw [up_ne h, up_same, up_same]
  · by_cases c2 : c = b
    · subst c2; rw [up_same, up_ne c1, up_same]
    · rw [up_ne c2, up_ne c1, up_ne c1, up_ne c2]
theorem del_up {S : Sto} {a b : Addr} {u : WO} (h : a ≠ b) : del (up S b u) a = up (del S a) b u := by
  funext c
  by_cases c1 : c = a
  · subst c1; rw [del_same, up_ne h, del_same]
  · rw [del_ne c1]
    by_cases c2 : c = b
    · subst c2; rw [up_same, up_same]
    · rw [up_ne c2, up_ne c2, del_ne c1]
theorem Bg.ne {S : Sto} {b p : Addr} (h : Bg S b) (hp : S p = none) : p ≠ b := by
  obtain ⟨g, s, e, _⟩ := h
  exact fun e' => by subst e'; rw [e] at hp; cases hp
theorem Bg.up {S : Sto} {b : Addr} {g s : Int} (h : BagOk g s) : Bg (up S b (bagO g s)) b := ⟨g, s, up_same, h⟩
theorem lcB {xs : List W} {ok : Sto → Prop} {S1 : Sto} {T : Tg} {te : DE'} {own : List Nat} {ω : Om} {Q : WQ} {b : Addr} (hB : Bg S1 b) (G : Nat → W → Prop) (hl : xs.length ≤ 1000000) (hok : ∀ p acc g s, S1 p = none → p ≠ b → ok (up (up S1 p (.lst acc)) b (bagO g s)))
    (hb : ∀ i w, xs[i]? = some w → ∃ ω2, ζt T w (wp ω own) = some ω2 ∧ ∀ S', Bg S' b → ∀ Qe : WQ, (∀ v, G i v → aft S' b (Qe v)) → te ω2 S' Qe)
    (q : ∀ vs : List W, vs.length = xs.length → (∀ i v, vs[i]? = some v → G i v) → aft S1 b (Q (.lst vs))) : ∀ p, S1 p = none → ∃ P : Nat → List W → Sto → Prop, P 0 [] (up S1 p (.lst [])) ∧ (∀ i acc S', P i acc S' → ok S' ∧ S' p = some (.lst acc)) ∧
      (∀ i w acc S', xs[i]? = some w → P i acc S' → ∃ ω2, ζt T w (wp ω own) = some ω2 ∧ dYes ω2 S' fun b S3 => if b = true then te ω2 S3 fun v S4 => ∃ acc', S4 p = some (.lst acc') ∧ acc'.length < 1000000 ∧ P (i + 1) (acc' ++ [v]) (up S4 p (.lst (acc' ++ [v]))) else ∃ acc', P (i + 1) acc' S3) ∧
      ∀ acc S', P xs.length acc S' → Q (.lst acc) (del S' p) := by
  intro p hp
  have hne : p ≠ b := hB.ne hp
  obtain ⟨g0, s0, e0, ok0⟩ := hB
  refine ⟨fun i acc S' => acc.length = i ∧ i ≤ xs.length ∧ (∀ j v, acc[j]? = some v → G j v) ∧ ∃ g s, BagOk g s ∧ S' = up (up S1 p (.lst acc)) b (bagO g s), ⟨rfl, Nat.zero_le _, fun j v h => by simp at h, g0, s0, ok0, ?_⟩, ?_, ?_, ?_⟩
  · exact (up_self (by rw [up_ne (Ne.symm hne)]; exact e0)).symm
  · rintro i acc S' ⟨_, _, _, g, s, _, rfl⟩
    exact ⟨hok p acc g s hp hne, by rw [up_ne hne, up_same]⟩
  · rintro i w acc S' hw ⟨hi, hi2, hG, g, s, hgs, rfl⟩
    obtain ⟨ω2, e, hb⟩ := hb i w hw
    have hlt : i < xs.length := (List.getElem?_eq_some_iff.mp hw).1
    refine ⟨ω2, e, ?_⟩
    show te ω2 (up (up S1 p (.lst acc)) b (bagO g s)) _
    refine hb _ (Bg.up hgs) _ fun v hv g' s' ok' => ?_
    refine ⟨acc, by rw [up_ne hne, up_ne hne, up_same], by omega, by rw [List.length_append, hi]; rfl, hlt, fun j u hj => ?_, g', s', ok', ?_⟩
    · by_cases hjl : j < acc.length
      · rw [List.getElem?_append_left hjl] at hj; exact hG j u hj
      · rw [List.getElem?_append_right (by omega)] at hj
        have hj0 : j - acc.length = 0 := by
          have := (List.getElem?_eq_some_iff.mp hj).1
          simp at this
          omega
        rw [hj0] at hj
        simp at hj
        subst hj
        have : j = i := by omega
        rw [this]; exact hv
    · rw [up_up, ← up_comm hne, up_up]
  · rintro acc S' ⟨hi, _, hG, g, s, hgs, rfl⟩
    rw [del_up hne, del_new hp]
    exact q acc hi hG g s hgs
theorem lcBr {ti te : DE'} {T : Tg} {own : List Nat} {ω : Om} {S : Sto} {Q : WQ} {b : Addr} {n : Int} (h : ∀ Q' : WQ, Q' (.int n) S → ti ω S Q') (h0 : 0 ≤ n) (h1 : n ≤ 1000) (hB : Bg S b) (G : Nat → W → Prop)
    (hb : ∀ i : Nat, i < n.toNat → ∃ ω2, ζt T (.int (i : Nat)) (wp ω own) = some ω2 ∧ ∀ S', Bg S' b → ∀ Qe : WQ, (∀ v, G i v → aft S' b (Qe v)) → te ω2 S' Qe)
    (q : ∀ vs : List W, vs.length = n.toNat → (∀ i v, vs[i]? = some v → G i v) → aft S b (Q (.lst vs))) : dLc (ζA (ζm ti ζR)) T dYes te own ω S Q := by
  have hl : (irange 0 n.toNat).length = n.toNat := by unfold irange; rw [List.length_map, List.length_range]
  refine h _ ⟨⟨by omega, by omega⟩, ?_⟩
  refine lcB hB G (by rw [hl]; omega) (fun _ _ _ _ _ _ => trivial) (fun i w hw => ?_) (fun vs hv => q vs (hv.trans hl))
  have hi : i < n.toNat := by
    have := (List.getElem?_eq_some_iff.mp hw).1
    rw [hl] at this
    exact this
  have e : (irange 0 n.toNat)[i]? = some (.int (i : Nat)) := by
    unfold irange
    rw [List.getElem?_map, List.getElem?_range hi]
    show some (W.int (0 + (i : Nat))) = _
    rw [Int.zero_add]
  rw [e] at hw
  cases hw
  exact hb i hi
theorem lcBs {ti te : DE'} {T : Tg} {own : List Nat} {ω : Om} {S : Sto} {Q : WQ} {b : Addr} {xs : List W} (h : ∀ Q' : WQ, Q' (.lst xs) S → ti ω S Q') (h1 : xs.length ≤ 1000) (hB : Bg S b) (G : Nat → W → Prop)
    (hb : ∀ i w, xs[i]? = some w → ∃ ω2, ζt T w (wp ω own) = some ω2 ∧ ∀ S', Bg S' b → ∀ Qe : WQ, (∀ v, G i v → aft S' b (Qe v)) → te ω2 S' Qe)
    (q : ∀ vs : List W, vs.length = xs.length → (∀ i v, vs[i]? = some v → G i v) → aft S b (Q (.lst vs))) : dLc (ζD ti) T dYes te own ω S Q :=
  seqI_go h rfl (lcB hB G (by omega) (fun _ _ _ _ _ _ => rfl) hb q)
end DL
namespace DL
open PySem PySem.Spec PyProof.Rows L2 TL
abbrev letters : Str := "abcdefghijklmnopqrstuvwxyz"
theorem letters_list : letters.cps.toList = [97, 98, 99, 100, 101, 102, 103, 104, 105, 106, 107, 108, 109, 110, 111, 112, 113, 114, 115, 116, 117, 118, 119, 120, 121, 122] := by decide +kernel
theorem letter_at {r : Int} (h0 : 0 ≤ r) (h1 : r < 26) : L2.atI letters.cps.toList r = some (97 + r.toNat) := by
  rw [atI_toNat h0 (by rw [letters_list]; show r.toNat < 26; omega), letters_list]
  have : r.toNat < 26 := by omega
  generalize r.toNat = n at this
  have all : ∀ n, n < 26 → [97, 98, 99, 100, 101, 102, 103, 104, 105, 106, 107, 108, 109, 110, 111, 112, 113, 114, 115, 116, 117, 118, 119, 120, 121, 122][n]? = some (97 + n) := by decide
  exact all n this
theorem signs_of {vs : List W} (h : ∀ (i : Nat) v, vs[i]? = some v → ∃ c, v = W.str ⟨#[c]⟩ ∧ az c = true) : ∃ cs : List Nat, vs = cs.map (fun c => W.str ⟨#[c]⟩) ∧ cs.all az = true := by
  induction vs with
  | nil => exact ⟨[], rfl, rfl⟩
  | cons v vs ih =>
    obtain ⟨c, rfl, hc⟩ := h 0 v rfl
    obtain ⟨cs, rfl, hcs⟩ := ih fun i u hu => h (i + 1) u (by simpa using hu)
    exact ⟨c :: cs, rfl, by rw [List.all_cons, hc, hcs]; rfl⟩
theorem strsOf_signs (cs : List Nat) : strsOf (cs.map fun c => W.str ⟨#[c]⟩) = some (cs.map fun c => (⟨#[c]⟩ : Str)) := by
  have := strsOf_map (cs.map fun c => (⟨#[c]⟩ : Str))
  rw [List.map_map] at this
  exact this
theorem joinL_nil : ∀ xs : List (List Nat), joinL [] xs = xs.flatten
  | [] => rfl
  | [x] => by simp [joinL]
  | x :: y :: r => by
    have e : joinL [] (x :: y :: r) = x ++ ([] ++ joinL [] (y :: r)) := by simp [joinL]
    rw [e, joinL_nil (y :: r)]
    simp
theorem join_signs (cs : List Nat) : (Txt.join ("" : Str) (cs.map fun c => (⟨#[c]⟩ : Str))).cps.toList = cs := by
  rw [show Txt.join ("" : Str) (cs.map fun c => (⟨#[c]⟩ : Str)) = Str.join ("" : Str) (cs.map fun c => (⟨#[c]⟩ : Str)) from join_eq _ _]
  have e : tl (Str.join ("" : Str) (cs.map fun c => (⟨#[c]⟩ : Str))) = joinL (tl ("" : Str)) ((cs.map fun c => (⟨#[c]⟩ : Str)).map tl) := tl_join _ _
  have e0 : tl ("" : Str) = [] := by decide +kernel
  rw [e0, joinL_nil, List.map_map] at e
  refine e.trans ?_
  clear e
  induction cs with
  | nil => rfl
  | cons c cs ih => rw [List.map_cons, List.flatten_cons, ih]; rfl
theorem atI_pick {xs : List W} {r : Int} (h0 : 0 ≤ r) (h1 : r < (xs.length : Int)) : ∃ w, w ∈ xs ∧ L2.atI xs r = some w := by
  have h : r.toNat < xs.length := by omega
  exact ⟨xs[r.toNat], List.getElem_mem .., by rw [atI_toNat h0 h]; exact List.getElem?_eq_getElem h⟩
theorem inW_refL {S : Sto} {a : W} {p : Addr} {xs : List W} (h : S p = some (.lst xs)) (h1 : okD a = true) (h2 : okD (.lst xs) = true) : inW S a (.ref p) = some (xs.any fun y => weq y a) := by
  unfold inW
  rw [view_ref h]
  show (if (okD a && okD (.lst xs)) = true then some (xs.any fun y => weq y a) else none) = _
  rw [h1, h2]; rfl
theorem seqW_ref {S : Sto} {p : Addr} {xs : List W} (h : S p = some (.lst xs)) : seqW S (.ref p) = some xs := by
  unfold seqW
  rw [view_ref h]
theorem weq_pair (a b c d : Int) : weq (.tup [.int a, .int b]) (.tup [.int c, .int d]) = decide (a = c ∧ b = d) := by
  unfold weq
  simp only [pd, pds]
  rw [PyData.eqv]
  simp only [PyData.eqvAll, PyData.eqv]
  rw [Bool.eq_iff_iff]
  simp
theorem minmax (a b : Str) : (minS a b = a ∧ maxS a b = b) ∨ (minS a b = b ∧ maxS a b = a) := by
  unfold minS maxS
  by_cases h1 : b.cps.toList < a.cps.toList
  · have h2 : ¬ a.cps.toList < b.cps.toList := fun h => List.lt_irrefl _ (List.lt_trans h h1)
    rw [if_pos h1, if_neg h2]; exact .inr ⟨rfl, rfl⟩
  · by_cases h2 : a.cps.toList < b.cps.toList
    · rw [if_neg h1, if_pos h2]; exact .inl ⟨rfl, rfl⟩
    · have e : a = b := PySem.W.str_of_cps (List.le_antisymm (List.not_lt.mp h1) (List.not_lt.mp h2))
      rw [if_neg h1, if_neg h2, e]; exact .inl ⟨rfl, rfl⟩
theorem ends_inj {r r' : Rd4} (h : r.ends = r'.ends) : (r.a = r'.a ∧ r.b = r'.b) ∨ (r.a = r'.b ∧ r.b = r'.a) := by
  unfold Rd4.ends at h
  simp only [List.cons.injEq, Sum.inr.injEq, and_true] at h
  obtain ⟨h1, h2⟩ := h
  rcases minmax r.a r.b with ⟨e1, e2⟩ | ⟨e1, e2⟩ <;> rcases minmax r'.a r'.b with ⟨e3, e4⟩ | ⟨e3, e4⟩ <;> rw [e1, e3] at h1 <;> rw [e2, e4] at h2
  · exact .inl ⟨h1, h2⟩
  · exact .inr ⟨h1, h2⟩
  · exact .inr ⟨h2, h1⟩
  · exact .inl ⟨h2, h1⟩
abbrev pairW (x : Int × Int) : W := .tup [.int x.1, .int x.2]
structure PrOk (m : Int) (n : Nat) (xs : List (Int × Int)) : Prop where
  len : xs.length ≤ n
  ok : ∀ x ∈ xs, (0 ≤ x.1 ∧ x.1 < m) ∧ (0 ≤ x.2 ∧ x.2 < m) ∧ x.1 ≠ x.2
  nd : xs.Pairwise fun x y => ¬ (x = y) ∧ ¬ (x.1 = y.2 ∧ x.2 = y.1)
theorem any_pair {xs : List (Int × Int)} (c d : Int) : ((xs.map pairW).any fun y => weq y (.tup [.int c, .int d])) = decide ((c, d) ∈ xs) := by
  rw [Bool.eq_iff_iff, List.any_map, List.any_eq_true, decide_eq_true_iff]
  constructor
  · rintro ⟨x, hx, e⟩
    have e : weq (.tup [.int x.1, .int x.2]) (.tup [.int c, .int d]) = true := e
    rw [weq_pair] at e
    obtain ⟨e1, e2⟩ := of_decide_eq_true e
    rw [← e1, ← e2]; exact hx
  · intro h
    exact ⟨(c, d), h, by show weq (.tup [.int c, .int d]) (.tup [.int c, .int d]) = true; rw [weq_pair]; exact decide_eq_true ⟨rfl, rfl⟩⟩
theorem nd_pair (x : Int × Int) : ND 1 (pairW x) := ND.tup (n := 0) fun w hw => by
  simp only [List.mem_cons, List.not_mem_nil, or_false] at hw
  rcases hw with rfl | rfl
  · exact ND.int _
  · exact ND.int _
theorem okD_pairs (xs : List (Int × Int)) : okD (.lst (xs.map pairW)) = true := ND.ok (n := 2) (ND.lst (n := 1) fun w hw => by obtain ⟨x, _, rfl⟩ := List.mem_map.mp hw; exact nd_pair x) (by decide)
theorem okD_pair (a b : Int) : okD (.tup [.int a, .int b]) = true := rfl
theorem forRN {ti : DE'} {T : Tg} {tb : DS'} {D : Out} {ω : Om} {S : Sto} (N : Int → Sto → Prop) (h : ∀ Q' : WQ, (∀ n S1, N n S1 → Q' (.int n) S1) → ti ω S Q')
    (body : ∀ n S1, N n S1 → (-(2 ^ 62) ≤ n ∧ n < 2 ^ 62) ∧ ∃ P : Nat → Om → Sto → Prop, P 0 ω S1 ∧ (∀ (i : Nat) ω' S', i < n.toNat → P i ω' S' → ∃ ω2, ζt T (.int (i : Nat)) ω' = some ω2 ∧ tb { D with nx := P (i + 1), ct := P (i + 1), bk := D.nx } ω2 S') ∧ ∀ ω' S', P n.toNat ω' S' → D.nx ω' S') : dFor (ζA (ζm ti ζR)) T tb D ω S := by
  refine h _ fun n S1 hn => ?_
  obtain ⟨hb, P, h0, st, fin⟩ := body n S1 hn
  refine ⟨hb, P, h0, fun _ _ _ _ => trivial, fun i u ω' S' hu p => ?_, fun ω' S' p => fin ω' S' (by unfold irange at p; rw [List.length_map, List.length_range] at p; exact p)⟩
  have hi : i < n.toNat := by
    have := (List.getElem?_eq_some_iff.mp hu).1
    unfold irange at this
    rw [List.length_map, List.length_range] at this
    exact this
  have e : (irange 0 n.toNat)[i]? = some (.int (i : Nat)) := by
    unfold irange
    rw [List.getElem?_map, List.getElem?_range hi]
    show some (W.int (0 + (i : Nat))) = _
    rw [Int.zero_add]
  rw [e] at hu
  cases hu
  exact st i ω' S' hi p
theorem places_of {ns : List Str} {vs : List W} (hl : vs.length = ns.length) (h : ∀ (i : Nat) v, vs[i]? = some v → ∃ x r, ns[i]? = some x ∧ v = placeW x r ∧ 1 ≤ r ∧ r ≤ 4) : ∃ ps : List (Str × Int), vs = ps.map (fun p => placeW p.1 p.2) ∧ ps.map (·.1) = ns ∧ ∀ p ∈ ps, 1 ≤ p.2 ∧ p.2 ≤ 4 := by
  induction vs generalizing ns with
  | nil => cases ns with
    | nil => exact ⟨[], rfl, rfl, fun _ h => nomatch h⟩
    | cons _ _ => cases hl
  | cons v vs ih => cases ns with
    | nil => cases hl
    | cons n ns =>
      obtain ⟨x, r, hx, rfl, r1, r2⟩ := h 0 v rfl
      cases hx
      obtain ⟨ps, rfl, e, hp⟩ := ih (ns := ns) (by simpa using hl) fun i u hu => by simpa using h (i + 1) u (by simpa using hu)
      refine ⟨(n, r) :: ps, rfl, by rw [List.map_cons, e], fun p hp' => ?_⟩
      rcases List.mem_cons.mp hp' with rfl | hp'
      · exact ⟨r1, r2⟩
      · exact hp p hp'
theorem RsOk.of {ps : List (Str × Int)} {ns : List Str} {n : Nat} {prs : List (Int × Int)} {rs : List Rd4} (hps : ps.map (·.1) = ns) (hnd : ns.Nodup) (hp : PrOk (ns.length : Int) n prs) (hn : n ≤ 80) (hl : rs.length = prs.length)
    (h : ∀ (i : Nat) r, rs[i]? = some r → ∃ x : Int × Int, prs[i]? = some x ∧ ns[x.1.toNat]? = some r.a ∧ ns[x.2.toNat]? = some r.b ∧ (1 ≤ r.m ∧ r.m ≤ 60) ∧ (0 ≤ r.s ∧ r.s ≤ 60)) : RsOk ps rs := by
  have inj : ∀ {i j : Nat} {x : Str}, ns[i]? = some x → ns[j]? = some x → i = j := fun {i j x} h1 h2 => by
    have hi := (List.getElem?_eq_some_iff.mp h1).1
    have hj := (List.getElem?_eq_some_iff.mp h2).1
    exact (List.getElem_inj (h₀ := hi) (h₁ := hj) hnd).mp ((List.getElem?_eq_some_iff.mp h1).2.trans (List.getElem?_eq_some_iff.mp h2).2.symm)
  refine ⟨by have := hp.len; omega, fun r hr => ?_, ?_⟩
  · obtain ⟨i, hi⟩ := List.getElem?_of_mem hr
    obtain ⟨x, hx, ha, hb, hm, hs⟩ := h i r hi
    have ok := hp.ok x (List.mem_of_getElem? hx)
    rw [hps]
    refine ⟨List.mem_of_getElem? ha, List.mem_of_getElem? hb, fun e => ?_, hm, hs⟩
    have := inj ha (by rw [e]; exact hb)
    omega
  · unfold List.Nodup
    rw [List.pairwise_map, List.pairwise_iff_getElem]
    intro i j hi hj hij e
    obtain ⟨x, hx, ha, hb, _⟩ := h i _ (List.getElem?_eq_getElem hi)
    obtain ⟨y, hy, hc, hd, _⟩ := h j _ (List.getElem?_eq_getElem hj)
    have okx := hp.ok x (List.mem_of_getElem? hx)
    have oky := hp.ok y (List.mem_of_getElem? hy)
    have pw := List.pairwise_iff_getElem.mp hp.nd i j (by omega) (by omega) hij
    have ex : prs[i]'(by omega) = x := (List.getElem?_eq_some_iff.mp hx).2
    have ey : prs[j]'(by omega) = y := (List.getElem?_eq_some_iff.mp hy).2
    rw [ex, ey] at pw
    rcases ends_inj e with ⟨e1, e2⟩ | ⟨e1, e2⟩
    · have h1 := inj ha (by rw [e1]; exact hc)
      have h2 := inj hb (by rw [e2]; exact hd)
      exact pw.1 (Prod.ext (by omega) (by omega))
    · have h1 := inj ha (by rw [e1]; exact hd)
      have h2 := inj hb (by rw [e2]; exact hc)
      exact pw.2 ⟨by omega, by omega⟩
theorem seq_go {t u : DS'} {D : Out} {ω : Om} {S : Sto} (h : t { D with nx := u D } ω S) : ζX t u D ω S := h
theorem set_go {i : Nat} {te : DE'} {D : Out} {ω : Om} {S : Sto} (w : W) (S1 : Sto) (h : ∀ Q : WQ, Q w S1 → te ω S Q) (k : D.nx (ω.set i (some w)) S1) : ξa i te D ω S := h _ k
theorem asgT_go {T : Tg} {te : DE'} {D : Out} {ω ω' : Om} {S : Sto} (w : W) (S1 : Sto) (h : ∀ Q : WQ, Q w S1 → te ω S Q) (e : ζt T w ω = some ω') (k : D.nx ω' S1) : ζs T te D ω S := by
  refine h _ ?_
  rw [e]
  exact k
theorem ret_go {te : DE'} {D : Out} {ω : Om} {S : Sto} (h : te ω S D.rt) : ζY te D ω S := h
end DL
namespace DL
open PySem PySem.Spec PyProof.Rows L2
def Sw (S : Sto) (H H' : Hp) : Prop := ∀ b o, H b = some o → H' b = some o ∨ (S b = none ∧ ∃ kv, (o = .dK kv ∨ ∃ od, o = .frz od (.dK kv)) ∧ Rd H' b (.dK kv))
section
variable {K : PySem.W.Frag} {S : Sto} {H H' : Hp}
theorem Sw.at {b : Addr} {o : HO} (x : Sw S H H') (h : H b = some o) (h1 : ∀ kv, o ≠ .dK kv) (h2 : ∀ od kv, o ≠ .frz od (.dK kv)) : H' b = some o := by
  rcases x b o h with z | ⟨_, kv, e | ⟨od, e⟩, _⟩
  · exact z
  · exact absurd e (h1 kv)
  · exact absurd e (h2 od kv)
theorem Sw.rd {b : Addr} {kv : List (Key × V)} (x : Sw S H H') (h : Rd H b (.dK kv)) : Rd H' b (.dK kv) := by
  rcases h with z | ⟨o, z⟩
  · rcases x b _ z with y | ⟨_, kv', e | ⟨od, e⟩, r⟩
    · exact .inl y
    · cases e; exact r
    · cases e
  · rcases x b _ z with y | ⟨_, kv', e | ⟨od, e⟩, r⟩
    · exact .inr ⟨o, y⟩
    · cases e
    · cases e; exact r
mutual
theorem RW.sw (x : Sw S H H') : ∀ {w : W} {v : V}, RW K S H w v → RW K S H' w v
  | _, _, .non => .non
  | _, _, .bl b => .bl b
  | _, _, .int i => .int i
  | _, _, .str y ok => .str y ok
  | _, _, .ty n => .ty n
  | _, _, .tup h n r => .tup (x.at h (fun _ e => nomatch e) (fun _ _ e => nomatch e)) n (RWs.sw x r)
  | _, _, .tupK h r => .tupK h (RWs.sw x r)
  | _, _, .lst h n r => .lst (x.at h (fun _ e => nomatch e) (fun _ _ e => nomatch e)) n (RWs.sw x r)
  | _, _, .scr h => .scr (h.elim (fun ⟨z, n⟩ => .inl ⟨z.elim (fun z => .inl (x.at z (fun _ e => nomatch e) (fun _ _ e => nomatch e))) fun ⟨o, z⟩ => .inr ⟨o, x.at z (fun _ e => nomatch e) (fun _ _ e => by cases e)⟩, n⟩) .inr)
  | _, _, .dct h n e r => .dct (x.rd h) n e (RWs.sw x r)
  | _, _, .ins h o n m e r => .ins (x.at h (fun _ e => nomatch e) (fun _ _ e => nomatch e)) (x.at o (fun _ e => nomatch e) (fun _ _ e => nomatch e)) n m e (RWs.sw x r)
  | _, _, .ref a => .ref a
  | _, _, .excN a => .excN a
  | _, _, .exc h n e r => .exc (x.at h (fun _ e => nomatch e) (fun _ _ e => nomatch e)) n e (RWs.sw x r)
  | _, _, .lam h n r => .lam (x.at h (fun _ e => by unfold LamX.CodeO at e; cases e) (fun _ _ e => by unfold LamX.CodeO at e; cases e)) n (RWs.sw x r)
  | _, _, .dctT h n e r => .dctT (x.at h (fun _ e => nomatch e) (fun _ _ e => nomatch e)) n e (RWs.sw x r)
theorem RWs.sw (x : Sw S H H') : ∀ {ws : List W} {vs : List V}, RWs K S H ws vs → RWs K S H' ws vs
  | _, _, .nil => .nil
  | _, _, .cons h t => .cons (RW.sw x h) (RWs.sw x t)
end
theorem RWp.sw {κ : Type} (x : Sw S H H') {fs : List (κ × W)} {gs : List (κ × V)} (h : RWp K S H fs gs) : RWp K S H' fs gs := Paired.mapP h fun _ _ r => ⟨r.1, r.2.sw x⟩
theorem Rel.sw (x : Sw S H H') (r : Rel K S H) : Rel K S H' := fun a o ho => by
  have key : ∀ u, H a = some u → H' a = some u := fun u hu => by
    rcases x a u hu with z | ⟨n, _⟩
    · exact z
    · rw [n] at ho; cases ho
  cases r a o ho with
  | lst h q => exact .lst (key _ h) (q.sw x)
  | dK h q => exact .dK (key _ h) (RWp.sw x q)
  | dT h q => exact .dT (key _ h) (RWp.sw x q)
  | ins h m q => exact .ins (key _ h) m (RWp.sw x q)
  | own h => exact .own (key _ h)
  | tup h q => exact .tup (key _ h) (q.sw x)
  | tab h t c => exact .tab (key _ h) t fun pos cv hc => let ⟨c, e1, e2, e3⟩ := c pos cv hc; ⟨c, e1, x.at e2 (fun _ e => by unfold LamX.CodeO at e; cases e) (fun _ _ e => by unfold LamX.CodeO at e; cases e), e3⟩
  | tabF h => exact .tabF (key _ h)
theorem RS.sw {σ : L2.St} {l : List (Option W)} (x : Sw S H H') (r : RS K S H σ l) : RS K S H' σ l := ⟨r.len, fun i w h => let ⟨v, e, q⟩ := r.at' i w h; ⟨v, e, q.sw x⟩⟩
theorem At.sw {σ : L2.St} {ω : Om} (x : Sw S H H') (a : At K Z0 S H σ ω) (hx : ω.ex = XF) : At K Z0 S H' σ ω := ⟨a.rel.sw x, a.rs.sw x, by rw [hx]; exact .zero⟩
theorem Sw.lock {d : Addr} {od : Obj} {gs : List (Key × V)} (h : H d = some (.dK gs)) (n : S d = none) : Sw S H (upd H d (.frz od (.dK gs))) := fun b o hb => by
  by_cases e : b = d
  · subst e
    rw [h] at hb
    cases hb
    exact .inr ⟨n, gs, .inl rfl, .inr ⟨od, upd_same⟩⟩
  · exact .inl (by rw [upd_ne e]; exact hb)
theorem Sw.open {d : Addr} {od : Obj} {gs : List (Key × V)} (h : H d = some (.frz od (.dK gs))) (n : S d = none) : Sw S H (upd H d (.dK gs)) := fun b o hb => by
  by_cases e : b = d
  · subst e
    rw [h] at hb
    cases hb
    exact .inr ⟨n, gs, .inr ⟨od, rfl⟩, .inl upd_same⟩
  · exact .inl (by rw [upd_ne e]; exact hb)
theorem Nx.opened {S' : Sto} {d : Addr} {od : Obj} {gs : List (Key × V)} (h : H d = some (.dK gs)) (n : S d = none) (x : Nx S (upd H d (.frz od (.dK gs))) S' H') : Nx S H S' (upd H' d (.dK gs)) := by
  refine ⟨fun b o hb nb => ?_, fun b o hb nb => ?_⟩
  · by_cases e : b = d
    · subst e; rw [h] at hb; cases hb; exact upd_same
    · rw [upd_ne e]; exact x.keep b o (by rw [upd_ne e]; exact hb) nb
  · by_cases e : b = d
    · subst e; exact x.dom b _ upd_same nb
    · exact x.dom b o (by rw [upd_ne e]; exact hb) nb
end
def kW : Key → W
  | .inl i => .int i
  | .inr x => .str x
def svK : Key → Prop
  | .inl _ => True
  | .inr x => sv x
theorem kW_rel {K : PySem.W.Frag} {S : Sto} {H : Hp} {k : Key} (h : svK k) : RW K S H (kW k) (kV k) := by
  cases k with
  | inl i => exact .int i
  | inr x => exact .str x h
theorem PS.or {X : Cx} {e : Stmt} {t u t' : TS} (h : PS X e t) (h2 : PS X e u) (i : ∀ D σ H, t' D σ H → t D σ H ∨ u D σ H) : PS X e t' := ⟨fun pins s σ H D I q => by
  rcases i D σ H q with z | z
  · exact h.run pins s σ H D I z
  · exact h2.run pins s σ H D I z⟩
section
variable {X : Cx} {tg : Expr} {body : List Stmt} {T : Tg} {tb : DS'} {pos p : Pos} {x : Str} {i : Nat}
end
end DL
namespace My
open PySem PySem.Spec PyProof.Rows L2 PpSet
section
variable {X : Cx}
end
end My
namespace DL
open PySem PySem.Spec PyProof.Rows L2 PpSet
instance memKey (k : Key) (ks : List Key) : Decidable (k ∈ ks) := @List.instDecidableMemOfLawfulBEq Key instBEqOfDecidableEq inferInstance k ks
section
variable {K : PySem.W.Frag} {S : Sto} {H H' : Hp} {D : Addr}
end
section
variable {X : Cx} {Z : WX}
def pm {α : Type} (ix : List Nat) (l : List α) : List α := ix.filterMap (l[·]?)
theorem pm_rel {ix : List Nat} {vs zs : List V} {us ws : List Value} (r : Vals vs us) (rz : Vals zs ws) : Vals (pm ix (vs ++ zs)) (pm ix (us ++ ws)) := by
  have rr : Vals (vs ++ zs) (us ++ ws) := r.append rz
  induction ix with
  | nil => exact .nil
  | cons i ix ih =>
    unfold pm at ih ⊢
    rw [List.filterMap_cons, List.filterMap_cons]
    cases e : (vs ++ zs)[i]? with
    | none =>
      have : (us ++ ws)[i]? = none := by
        rw [List.getElem?_eq_none_iff] at e ⊢
        rw [← rr.length]; exact e
      rw [this]
      exact ih
    | some v =>
      obtain ⟨u, e2, ru⟩ := rr.get e
      rw [e2]
      exact .cons ru ih
theorem RWs.pm {K : PySem.W.Frag} {S : Sto} {H : Hp} {ix : List Nat} {ws : List W} {vs : List V} (r : RWs K S H ws vs) : RWs K S H (DL.pm ix ws) (DL.pm ix vs) := by
  induction ix with
  | nil => exact .nil
  | cons i ix ih =>
    unfold DL.pm at ih ⊢
    rw [List.filterMap_cons, List.filterMap_cons]
    cases e : ws[i]? with
    | none =>
      have : vs[i]? = none := by
        rw [List.getElem?_eq_none_iff] at e ⊢
        rw [← r.len]; exact e
      rw [this]
      exact ih
    | some w =>
      obtain ⟨v, e2, rv⟩ := r.get e
      rw [e2]
      exact .cons rv ih
end
end DL
namespace My
open PySem PySem.Spec PyProof.Rows L2 PpSet
def keyO : Value → Key
  | .int i _ => .inl i
  | .str x _ => .inr x
  | _ => .inl 0
theorem keyO_of {k : Key} {v : Value} (h : keyIs k v = true) : keyO v = k := by
  rcases keyIs_shape h with ⟨i, t, rfl, rfl⟩ | ⟨x, t, rfl, rfl⟩ <;> rfl
theorem scan_of {k : Key} {v : Value} (h : keyIs k v = true) : v.scannable = true := by
  rcases keyIs_shape h with ⟨i, t, rfl, rfl⟩ | ⟨x, t, rfl, rfl⟩ <;> rfl
structure Put (w : World) (es : Array (Int × Value)) (t : SetTable) (ks : List Key) : Prop where
  row : ∀ e ∈ es.toList, ∃ k, keyIs k e.2 = true ∧ e.1 = keyH w k
  keys : (es.toList.map fun e => keyO e.2).Perm ks
  nd : ks.Nodup
  few : ks.length < scanBound
  fit : t.fits es.size = true
  ris : Ris t.place.toList
  led : w.params.followText "set-order" = true ∨ t.led = true
def WalkK (w : World) (h : Heap) (a : Addr) (ks : List Key) : Prop := ∃ o es ep t, h.get? a = some o ∧ o.ExactSet ∧ o.data = .set es ep t ∧ Put w es t ks
section
variable {P : Program} {w : World} {es : Array (Int × Value)} {t : SetTable} {ks : List Key}
theorem Put.size (p : Put w es t ks) : es.size = ks.length := by
  have := p.keys.length_eq
  rw [List.length_map, Array.length_toList] at this
  exact this
theorem Put.small (p : Put w es t ks) : es.size < scanBound := by rw [p.size]; exact p.few
theorem Put.elems (p : Put w es t ks) : ElemsOf (mixKind P w) es.toList := fun e he => by
  obtain ⟨k, h1, h2⟩ := p.row e he
  exact ⟨⟨k, h1, h2⟩, scan_of h1⟩
theorem Put.mem (p : Put w es t ks) (k : Key) : k ∈ ks ↔ ∃ e ∈ es.toList, keyIs k e.2 = true := by
  rw [← p.keys.mem_iff, List.mem_map]
  refine ⟨fun ⟨e, he, q⟩ => ⟨e, he, ?_⟩, fun ⟨e, he, q⟩ => ⟨e, he, keyO_of q⟩⟩
  obtain ⟨k', h1, _⟩ := p.row e he
  have e2 := keyO_of h1
  rw [q] at e2
  rw [e2]
  exact h1
theorem Put.relaid (p : Put w es t ks) (n : Nat) : Put w (relayAll t es n).1 (relayAll t es n).2.1 ks := by
  have pm := relayAll_perm t es n
  exact ⟨fun e he => p.row e (pm.mem_iff.mp he), (pm.map _).trans p.keys, p.nd, p.few, relayAll_fits t es n, relayAll_ris t es n, by rw [relayAll_led t es n]; exact p.led⟩
theorem Put.new (p : Put w es t ks) {k : Key} {x : Value} (hx : keyIs k x = true) (hk : k ∉ ks) (room : ks.length + 1 < scanBound) : Put w (layNew t es (keyH w k) x).1 (layNew t es (keyH w k) x).2.1 (ks ++ [k]) := by
  have pm := layNew_perm t es (keyH w k) x
  rw [Array.toList_push] at pm
  refine ⟨fun e he => ?_, ?_, ?_, ?_, layNew_fits t es _ x, layNew_ris t es _ x p.ris, by rw [layNew_led t es]; exact p.led⟩
  · rcases List.mem_append.mp (pm.mem_iff.mp he) with z | z
    · exact p.row e z
    · rw [List.mem_singleton.mp z]
      exact ⟨k, hx, rfl⟩
  · refine (pm.map _).trans ?_
    rw [List.map_append]
    show List.Perm (_ ++ [keyO x]) _
    rw [keyO_of hx]
    exact p.keys.append_right _
  · exact List.nodup_append.mpr ⟨p.nd, by simp, fun a ha b hb e => hk (by rw [List.mem_singleton.mp hb] at e; exact e ▸ ha)⟩
  · rw [List.length_append]
    exact room
theorem Put.off (p : Put w es t ks) : Put w es { t with plain := false } ks := ⟨p.row, p.keys, p.nd, p.few, SetTable.fits_plain_off p.fit, p.ris, p.led⟩
theorem Put.at {h : Heap} {a : Addr} {o : Obj} {es0 : Array (Int × Value)} {ep : Nat} {t0 : SetTable} (p : Put w es t ks) (ho : h.get? a = some o) (hx : o.ExactSet) (hd : o.data = .set es0 ep t0) :
    ∃ o', (h.update a (Obj.putSet es t)).get? a = some o' ∧ o'.ExactSet ∧ o'.data = .set es (ep + 1) t := ⟨{ o with data := .set es (ep + 1) t }, L2.store_at ho hd, hx, rfl⟩
theorem WalkK.keep {h h' : Heap} {a : Addr} (R : WalkK w h a ks) (k : ∀ o, h.get? a = some o → h'.get? a = some o) : WalkK w h' a ks := by
  obtain ⟨o, es, ep, t, ho, r⟩ := R
  exact ⟨o, es, ep, t, k o ho, r⟩
instance inK (k : Key) (ks : List Key) : Decidable (k ∈ ks) := @List.instDecidableMemOfLawfulBEq Key instBEqOfDecidableEq inferInstance k ks
def addL (ks : List Key) (k : Key) : List Key := if k ∈ ks then ks else ks ++ [k]
end
section
variable {P : Program} {w : World} {A : Around} {E : Value → Shared → Prop} {s : Shared} {a : Addr}
theorem put_end {gv : Bool → Sem Unit} (hg : ∀ (b : Bool) (s1 : Shared) (Q1 : Unit → Shared → Prop), Q1 () s1 → wpAny (model P w) A (gv b) Q1 E s1) {o : Obj} {es0 es : Array (Int × Value)} {ep : Nat} {t0 t : SetTable} {ks : List Key} {c : Bool} {Q : Option Bool → Shared → Prop}
    (ho : s.heap.get? a = some o) (hx : o.ExactSet) (hd : o.data = .set es0 ep t0) (p : Put w es t ks) (q : ∀ h', Heap.SameBut a s.heap h' → WalkK w h' a ks → Q (some true) { s with heap := h' }) :
    wpAny (model P w) A (storeSet a es t >>= fun _ => if (!c && t.tooFull) = true then
        (gv (relayAll t es (SetTable.grown es.size)).2.2 >>= fun _ => storeSet a (relayAll t es (SetTable.grown es.size)).1 (relayAll t es (SetTable.grown es.size)).2.1 >>= fun _ => pure (some true))
      else pure (some true)) Q E s := by
  obtain ⟨o1, h1, x1, d1⟩ := p.at ho hx hd
  have b1 := Heap.SameBut.update s.heap a (Obj.putSet es t)
  refine wpAny_bind (wpAny_storeSet_of ho hd ?_ (fits_of_scanBound p.small))
  by_cases f : (!c && t.tooFull) = true
  · have p2 := p.relaid (SetTable.grown es.size)
    obtain ⟨o2, h2, x2, d2⟩ := p2.at h1 x1 d1
    rw [if_pos f]
    exact wpAny_bind (hg _ _ _ (wpAny_bind (wpAny_storeSet_of h1 d1 (wpAny_pure (q _ (b1.trans (Heap.SameBut.update _ a _)) ⟨o2, _, _, _, h2, x2, d2, p2⟩)) (fits_of_scanBound p2.small))))
  · rw [if_neg f]
    exact wpAny_pure (q _ b1 ⟨o1, _, _, _, h1, x1, d1, p⟩)
theorem walk_add {ks : List Key} {k : Key} {x : Value} {Q : Bool → Shared → Prop} (hx : keyIs k x = true) (R : WalkK w s.heap a ks) (room : ks.length + 1 < scanBound)
    (q : ∀ b h', Heap.SameBut a s.heap h' → WalkK w h' a (addL ks k) → Q b { s with heap := h' }) : wpAny (model P w) A (setAddHashed a x (keyH w k)) Q E s := by
  obtain ⟨o, es, ep, t, ho, ex, hd, p⟩ := R
  have el : ElemsOf (mixKind P w) es.toList := p.elems
  have gv : ∀ (b : Bool) (s1 : Shared) (Q1 : Unit → Shared → Prop), Q1 () s1 → wpAny (model P w) A (match b with | true => rule "set.scan.the-table-gave-way" | false => pure ()) Q1 E s1 := fun b s1 Q1 h => by
    cases b
    · exact wpAny_pure h
    · exact wpAny_rule h
  unfold setAddHashed setAddHashedIn
  refine wpAny_holding (wpAny_bind (wpAny_setState_of ho hd p.fit ?_))
  simp only [byScan_of (scan_of hx) p.small el, ↓reduceIte]
  unfold setAddByScan
  refine wpAny_bind (wpAny_bind (wpAny_rule (wpAny_bind (wpAny_setScan_of (knd := mixKind P w) (k := k) hx ho hd p.fit el ?_))))
  cases hf : List.findIdx? (fun e => (mixKind P w).is k e.2) es.toList with
  | some j =>
    obtain ⟨hj, pj, _⟩ := List.findIdx?_eq_some_iff_getElem.mp hf
    have hm : k ∈ ks := (p.mem k).mpr ⟨_, List.getElem_mem hj, pj⟩
    have q0 := q false s.heap (Heap.SameBut.refl a s.heap) (by unfold addL; rw [if_pos hm]; exact ⟨o, es, ep, t, ho, ex, hd, p⟩)
    exact wpAny_pure (wpAny_pure q0)
  | none =>
    have hm : k ∉ ks := fun z => by
      obtain ⟨e, he, y⟩ := (p.mem k).mp z
      have c := List.findIdx?_eq_none_iff.mp hf e he
      exact Bool.false_ne_true (c.symm.trans y)
    have p1 := p.new hx hm room
    have q1 := fun h' sb (r : WalkK w h' a (ks ++ [k])) => q true h' sb (by unfold addL; rw [if_neg hm]; exact r)
    dsimp only [mixKind]
    generalize layNew t es (keyH w k) x = Z at p1 ⊢
    obtain ⟨es1, t1, c, g⟩ := Z
    dsimp only at p1 ⊢
    refine wpAny_bind (gv _ _ _ ?_)
    by_cases hp : t1.plain = true
    · rw [if_pos hp]
      refine wpAny_bind ?_
      rw [hashByValue_scannable 8 (scan_of hx)]
      refine wpAny_pure (put_end gv ho ex hd ?_ fun h' sb r => wpAny_pure (q1 h' sb r))
      split
      · exact p1
      · exact p1.off
    · rw [if_neg hp]
      refine wpAny_bind (wpAny_pure ?_)
      exact put_end gv ho ex hd p1 fun h' sb r => wpAny_pure (q1 h' sb r)
end
end My
namespace My
open PySem PySem.Spec PyProof.Rows L2 PpSet
def onceK (ks : List Key) : List Key := ks.foldl addL []
theorem onceK_step {ks : List Key} {i : Nat} {k : Key} (h : ks[i]? = some k) : onceK (ks.take (i + 1)) = addL (onceK (ks.take i)) k := by
  unfold onceK
  rw [List.take_succ, h, List.foldl_append]
  rfl
theorem addL_len (ks : List Key) (k : Key) : (addL ks k).length ≤ ks.length + 1 := by
  unfold addL
  split
  · omega
  · rw [List.length_append]; exact Nat.le_refl _
theorem onceK_len (ks : List Key) : ∀ i, i ≤ ks.length → (onceK (ks.take i)).length ≤ i
  | 0, _ => by simp [onceK]
  | i + 1, h => by
    rw [onceK_step (List.getElem?_eq_getElem (by omega))]
    have := onceK_len ks i (by omega)
    have := addL_len (onceK (ks.take i)) (ks[i]'(by omega))
    omega
section
variable {P : Program} {w : World} {A : Around} {E : Value → Shared → Prop} {s : Shared}
theorem walk_new {h : Heap} {a : Addr} (ho : h.get? a = some { cls := .type "set", dict := none, data := .set #[] 0 (.fresh 0 0 (!w.params.followText "set-order")) }) : WalkK w h a [] :=
  ⟨_, _, _, _, ho, ⟨rfl, rfl, rfl⟩, rfl, fun e he => (by simp at he), List.Perm.refl _, List.nodup_nil, by decide, rfl, List.Pairwise.nil, by
    cases hb : w.params.followText "set-order"
    · exact .inr rfl
    · exact .inl rfl⟩
theorem upd_keys {I S : Addr} {fp wr : List Addr} {G : Array GenState → Array GenState → Prop} {n : Nat} {Pv : Nat → Value → Prop} {St : Nat → Shared → Prop} {R : Result → Shared → Prop} {ks : List Key}
    (W : WalksS P w A.in1 I fp wr G n Pv St) (hS : S ∉ fp) (hn : n = ks.length) (room : ks.length + 1 < scanBound) (val : ∀ i v, Pv i v → ∃ k, ks[i]? = some k ∧ keyIs k v = true) :
    ∀ (j i : Nat) (s : Shared), i + j = n → St i s → WalkK w s.heap S (onceK (ks.take i)) → (∀ s', Moved (S :: wr) G s s' → WalkK w s'.heap S (onceK ks) → R (.ok (.ret .none)) s') →
      codeAny (model P w) A (.builtin "set.update.loop" ⟨[.ref S, .ref I], []⟩) R s := by
  have nS : S ∉ wr := fun h => hS (W.sub _ h)
  have more : ∀ b ∈ wr, b ∈ S :: wr := fun b hb => List.mem_cons_of_mem _ hb
  intro j
  induction j with
  | zero =>
    intro i s e st K done
    subst hn
    rw [Nat.add_zero] at e
    subst e
    rw [List.take_length] at K
    refine codeAny_builtin F.entry_set_update_loop ?_
    rw [Around.under_plainId F.plain_set_update_loop _]
    refine wpAny_bind (W.done s _ _ st fun s' mv => ?_)
    exact wpAny_pure (done s' (mv.mono more) (K.keep fun o q => mv.heap S o nS q))
  | succ j ih =>
    intro i s e st K done
    refine codeAny_builtin F.entry_set_update_loop ?_
    rw [Around.under_plainId F.plain_set_update_loop _]
    refine wpAny_bind (W.item i s _ _ (by omega) st fun v s' pv st' mv => ?_)
    obtain ⟨k, hk, kv⟩ := val i v pv
    have K' : WalkK w s'.heap S (onceK (ks.take i)) := K.keep fun o q => mv.heap S o nS q
    have := onceK_len ks i (by omega)
    show wpAny _ A.in1 (holding [v] (setAdd S v) >>= _) _ _ s'
    refine wpAny_bind (wpAny_holding ?_)
    unfold setAdd
    refine wpAny_holding (wpAny_bind ((mixKind P w).pyHash (k := k) kv ?_))
    refine walk_add kv K' (by omega) fun b h' sb K2 => ?_
    rw [← onceK_step hk] at K2
    have oth : ∀ c, c ≠ S → ∀ o, s'.heap.get? c = some o → h'.get? c = some o := fun c nc o q => by rw [sb.2 c nc]; exact q
    refine wpAny_pure ⟨plainId_quiet F.plain_set_update_loop _, ih (i + 1) _ (by omega) (W.frame _ s' _ _ st' (Nat.le_add_right _ _) fun c hc o q => oth c (fun z => hS (z ▸ hc)) o q) K2 fun s2 mv2 K3 => ?_⟩
    exact done s2 (Moved.trans W.gtrans ((mv.mono more).then_heap (Nat.le_add_right _ _) fun c o hc q => oth c (fun z => hc (z ▸ List.mem_cons_self)) o q) mv2) K3
theorem set_list {l : Addr} {items : Array Value} {ks : List Key} {Q : Value → Shared → Prop} (hh : A.handled = none) (hl : s.heap.IsList l items) (hn : items.size = ks.length) (val : ∀ (i : Nat) (v : Value), items[i]? = some v → ∃ k, ks[i]? = some k ∧ keyIs k v = true) (room : ks.length + 1 < scanBound)
    (q : ∀ (h' : Heap) (tk : Nat), WalkK w h' s.heap.objs.size (onceK ks) → (∀ b o, s.heap.get? b = some o → h'.get? b = some o) → Q (.ref s.heap.objs.size) { s with heap := h', toks := tk }) :
    wpAny (model P w) A (call (.type "set") [.ref l]) Q E s := by
  obtain ⟨D, hD⟩ : ∃ D, D = s.heap.objs.size := ⟨_, rfl⟩
  obtain ⟨h1, eh1⟩ : ∃ h1, h1 = s.heap.push { cls := .type "set", dict := none, data := .set #[] 0 (.fresh 0 0 (!w.params.followText "set-order")) } := ⟨_, rfl⟩
  have at1 : h1.get? D = some { cls := .type "set", dict := none, data := .set #[] 0 (.fresh 0 0 (!w.params.followText "set-order")) } := by rw [eh1, hD]; exact Heap.get?_push_size _ rfl
  have old1 : ∀ b o, s.heap.get? b = some o → h1.get? b = some o := fun b o e => by rw [eh1]; exact Heap.get?_push_of_some _ e
  have z1 : h1.objs.size = D + 1 := by rw [eh1, hD]; exact Heap.size_push ..
  have ty : Shared.TypeIs { s with heap := h1 } (.ref D) "set" := ⟨_, at1, rfl⟩
  obtain ⟨c, tl, mro⟩ := F.called_set.mro
  have f1 := F.called_set.made
  have f2 := F.called_set.sub
  have f3 := F.called_set.notType
  have f4 := F.called_set.canCreate
  have f5 := F.typeCall_set_1 (.ref l)
  refine wpAny_call (codeAny_of_tree ?_)
  show wpAny _ _ (callAny (.type "set") _) _ _ _
  refine wpAny_pure ⟨Code.quiet_builtin _ (by decide +kernel), codeAny_builtin F.entry_type_call ?_⟩
  rw [Around.under_plain (weight_type_call_type "set" [.ref l] []) rfl]
  repeat (any_goals (first | assumption | wp_step))
  refine codeAny_mono (code_set_led1 (.ref l) (E := E) (Q₁ := fun v s1 => v = .ref D ∧ s1 = { s with heap := h1 }) ⟨by rw [hD], by rw [eh1]⟩) fun r s1 hr => ?_
  rcases r with e | fl
  · exact hr
  cases fl with
  | ret v =>
    obtain ⟨rfl, rfl⟩ := hr
    have f6 := F.called_set.init.lookup
    have f7 := F.called_set.init.bind (.ref D)
    repeat (any_goals (first | assumption | wp_step))
    refine codeAny_mono (codeAny_call_builtin (R := wants (fun v s2 => v = .none ∧ ∃ h' tk, s2 = { s with heap := h', toks := tk } ∧ WalkK w h' D (onceK ks) ∧ ∀ b o, s.heap.get? b = some o → h'.get? b = some o) E) F.called_set.init.plain F.entry_set_init (check_set_init_1 ty ?_)) fun r s2 hr => ?_
    · have hl1 : h1.IsList l items := by
        obtain ⟨o, ho, r⟩ := hl
        exact ⟨o, old1 l o ho, r⟩
      obtain ⟨o, ho, hc, n, hd⟩ := _root_.id hl1
      obtain ⟨cls, dct, data, sl⟩ := o
      simp only at hc hd
      subst hc hd
      have hlD : l < D := by
        obtain ⟨o, ho, _⟩ := hl
        rw [hD]
        exact Heap.lt_size ho
      have f8 := F.sub_list_set
      have f9 := F.sub_list_frozenset
      have fA : (Value.type "list" == Value.type "dict") = false := by decide
      have hh3 : A.in1.in1.in1.handled = none := by simp [hh]
      unfold Builtin.«set.__init__» noKeywords Builtin.Frozenset.updateFrom
      generalize hPI : pyIter = PI
      wp_walk
      subst hPI
      refine wpAny_pyIter_list hl1 (wpAny_bind (wpAny_runValue ?_))
      have nf : D ∉ [h1.objs.size, l] := by
        rw [z1]
        simp only [List.mem_cons, List.not_mem_nil, or_false, not_or]
        exact ⟨Nat.ne_of_lt (Nat.lt_succ_self _), Nat.ne_of_gt hlD⟩
      refine upd_keys ((Walks.list hh3 _ l (by rw [z1]; exact Nat.ne_of_lt (Nat.lt_succ_of_lt hlD)) items).toS) nf hn room val items.size 0 _ (by omega) ⟨⟨_, Heap.get?_push_size _ rfl, rfl, rfl⟩, hl1.push _⟩ (walk_new (Heap.get?_push_of_some _ at1)) fun s3 mv K => ?_
      have eq3 : s3 = { s with heap := s3.heap, toks := s3.toks } := by
        have e1 := mv.gens
        have e2 := mv.drawn
        have e3 := mv.os
        cases s3
        cases s
        simp_all
      rw [eq3]
      refine wpAny_pure (wpAny_pure ⟨rfl, s3.heap, s3.toks, rfl, K, fun b o e => ?_⟩)
      have hb : b < D := by rw [hD]; exact Heap.lt_size e
      refine mv.heap b o (fun z => ?_) (Heap.get?_push_of_some _ (old1 b o e))
      rcases List.mem_cons.mp z with z | z
      · exact Nat.lt_irrefl _ (z ▸ hb)
      · have z := List.mem_singleton.mp z
        rw [z1] at z
        exact Nat.lt_irrefl _ (Nat.lt_trans (Nat.lt_succ_self _) (z ▸ hb))
    · rcases r with e | fl
      · exact hr
      cases fl with
      | ret v =>
        obtain ⟨rfl, h', tk, rfl, K, old⟩ := hr
        repeat (any_goals (first | assumption | wp_step))
        rw [hD] at K ⊢
        exact q h' tk K old
      | _ => exact hr.elim
  | _ => exact hr.elim
end
end My
namespace My
open PySem PySem.Spec PyProof.Rows L2 PpSet PySem.W
section
variable {P : Program} {w : World} {A : Around} {E : Value → Shared → Prop} {s : Shared} {a : Addr}
end
end My
namespace My
open PySem PySem.Spec PyProof.Rows L2 PpSet PySem.W
section
variable {X : Cx}
end
end My
namespace DL
open PySem PySem.Spec PyProof.Rows L2 PpSet
section
variable {X : Cx} {Z : WX}
end
end DL
namespace DL
open PySem PySem.Spec PyProof.Rows L2
section
variable {X : Cx} {Z : WX}
end
end DL
namespace DL
open PySem PySem.Spec PyProof.Rows L2 TL
theorem var_go {i : Nat} {ω : Om} {S : Sto} {Q : WQ} {w : W} (h : ω.s[i]? = some (some w)) (q : Q w S) : ζF i ω S Q := by
  unfold ζF
  rw [h]
  exact q
theorem op_go {rd : D2} {ta tb : DE'} {ω : Om} {S : Sto} {Q : WQ} (h : ta ω S fun x S1 => tb ω S1 fun y S2 => rd x y S2 Q) : dOp rd ta tb ω S Q := h
theorem setN_go {i : Nat} {te : DE'} {D : Out} {ω : Om} {S : Sto} (N : W → Sto → Prop) (h : ∀ Q : WQ, (∀ w S1, N w S1 → Q w S1) → te ω S Q) (k : ∀ w S1, N w S1 → D.nx (ω.set i (some w)) S1) : ξa i te D ω S := h _ k
theorem drop_go {te : DE'} {D : Out} {ω : Om} {S : Sto} (h : te ω S fun _ S1 => D.nx ω S1) : ζr te D ω S := h
theorem bm_go {rd : DM'} {to : DE'} {t : DA'} {ω : Om} {S : Sto} {Q : WQ} (h : to ω S fun w S1 => isL S1 w = true ∧ t ω S1 fun ws S2 => rd w ws S2 Q) : dBM rd to t ω S Q := h
theorem cut_take {α : Type} {xs : List α} {i : Nat} (h : i ≤ xs.length) : cut xs none (some (i : Int)) = xs.take i := by
  unfold cut
  have e1 : HT.sIx xs.length 0 none = 0 := rfl
  have e2 : HT.sIx xs.length xs.length (some (i : Int)) = i := by
    rw [HT.sIx_nat]
    omega
  rw [e1, e2, List.drop_zero, Nat.sub_zero]
theorem cut_drop {α : Type} {xs : List α} {i : Nat} (h : i ≤ xs.length) : cut xs (some (i : Int)) none = xs.drop i := by
  unfold cut
  have e1 : HT.sIx xs.length xs.length none = xs.length := rfl
  have e2 : HT.sIx xs.length 0 (some (i : Int)) = i := by
    rw [HT.sIx_nat]
    omega
  rw [e1, e2, List.take_of_length_le]
  rw [List.length_drop]
  exact Nat.le_refl _
theorem or_b {ta tb : DT'} {ω : Om} {S : Sto} {Q : Bool → Sto → Prop} {a b : Bool} (ha : ∀ Q : Bool → Sto → Prop, Q a S → ta ω S Q) (hb : a = false → ∀ Q : Bool → Sto → Prop, Q b S → tb ω S Q) (q : Q (a || b) S) : dOr ta tb ω S Q := by
  refine ha _ ?_
  cases a with
  | true => exact q
  | false => exact hb rfl _ q
theorem and_b {ta tb : DT'} {ω : Om} {S : Sto} {Q : Bool → Sto → Prop} {a b : Bool} (ha : ∀ Q : Bool → Sto → Prop, Q a S → ta ω S Q) (hb : a = true → ∀ Q : Bool → Sto → Prop, Q b S → tb ω S Q) (q : Q (a && b) S) : ζP ta tb ω S Q := by
  refine ha _ ?_
  cases a with
  | true => exact hb rfl _ q
  | false => exact q
theorem if_b {c : DT'} {t u : DS'} {D : Out} {ω : Om} {S : Sto} (b : Bool) (h : ∀ Q : Bool → Sto → Prop, Q b S → c ω S Q) (ht : b = true → t D ω S) (hf : b = false → u D ω S) : ζZ c t u D ω S := by
  refine h _ ?_
  cases b with
  | true => rw [if_pos rfl]; exact ht rfl
  | false => rw [if_neg Bool.false_ne_true]; exact hf rfl
theorem Om.set_self {ω : Om} {i : Nat} {w : W} (h : ω.s[i]? = some (some w)) : ω.set i (some w) = ω := by
  obtain ⟨s, ex⟩ := ω
  show (⟨s.set i (some w), ex⟩ : Om) = ⟨s, ex⟩
  congr 1
  refine List.ext_getElem? fun j => ?_
  by_cases c : i = j
  · subst c
    have h' : s[i]? = some (some w) := h
    rw [List.getElem?_set_self (List.getElem?_eq_some_iff.mp h').1, h']
  · rw [List.getElem?_set_ne c]
theorem ifset_go {c : DT'} {i : Nat} {te : DE'} {D : Out} {ω : Om} {S : Sto} (b : Bool) (N : W → Prop) (hc : ∀ Q : Bool → Sto → Prop, Q b S → c ω S Q) (ht : b = true → ∀ Q : WQ, (∀ w, N w → Q w S) → te ω S Q) (h0 : ∃ w0, ω.s[i]? = some (some w0) ∧ N w0) (k : ∀ w, N w → D.nx (ω.set i (some w)) S) : ζZ c (ξa i te) ζq D ω S := by
  refine if_b b hc (fun e => ht e _ k) (fun e => ?_)
  obtain ⟨w0, h1, h2⟩ := h0
  have := k w0 h2
  rw [Om.set_self h1] at this
  exact this
theorem lcBrN {ti te : DE'} {T : Tg} {own : List Nat} {ω : Om} {S : Sto} {Q : WQ} (N : Int → Sto → Prop) (h : ∀ Q' : WQ, (∀ n S1, N n S1 → Q' (.int n) S1) → ti ω S Q') (body : ∀ n S1, N n S1 → dLc (ζA (ζm (dC (.int n)) ζR)) T dYes te own ω S1 Q) : dLc (ζA (ζm ti ζR)) T dYes te own ω S Q := h _ body
theorem join_go {ω : Om} {S : Sto} {Q : WQ} {te : DE'} (N : List Nat → Sto → Prop) (h : ∀ Q : WQ, (∀ cs S2, N cs S2 → Q (.lst (cs.map fun c => W.str ⟨#[c]⟩)) S2) → te ω S Q) (hl : ∀ cs S2, N cs S2 → cs.length ≤ 100) (q : ∀ cs S2, N cs S2 → ∀ x : Str, x.cps.toList = cs → Q (.str x) S2) : ζy (dC (.str "")) te ω S Q := by
  show te ω S _
  refine h _ fun cs S2 hn => ?_
  have hq := q cs S2 hn _ (join_signs cs)
  have hl := hl cs S2 hn
  have sum1 : ((cs.map fun c => (⟨#[c]⟩ : Str)).map (fun x => x.length)).sum + (cs.map fun c => (⟨#[c]⟩ : Str)).length * (Str.ofString "").length ≤ 1000000 := by
    have e : ((cs.map fun c => (⟨#[c]⟩ : Str)).map (fun x => x.length)).sum = cs.length := by
      rw [List.map_map]
      clear hl q h hq hn
      induction cs with
      | nil => rfl
      | cons c cs ih => rw [List.map_cons, List.sum_cons, ih, List.length_cons]; show 1 + cs.length = _; omega
    have e2 : (Str.ofString "").length = 0 := by decide +kernel
    rw [e, e2]
    omega
  simp only [sq2_lst, strsOf_signs]
  exact ⟨sum1, hq⟩
theorem str_len (x : Str) : x.length = x.cps.toList.length := by
  show x.cps.size = _
  rw [Array.length_toList]
theorem nameOf {x : Str} {l : List Nat} (e : x.cps.toList = l) (h1 : 1 ≤ l.length) (h8 : l.length ≤ 8) (hz : l.all az = true) : isName (.str x) = true := by
  show (decide (1 ≤ x.length) && decide (x.length ≤ 8) && x.cps.toList.all az) = true
  rw [str_len, e, decide_eq_true h1, decide_eq_true h8, hz]; rfl
theorem atI_nat {xs : List W} {a : Nat} (h : a < xs.length) : ∃ x, x ∈ xs ∧ L2.atI xs (a : Int) = some x := ⟨xs[a], List.getElem_mem .., by rw [atI_n h]; exact List.getElem?_eq_getElem h⟩
theorem lcMr {ti te : DE'} {T : Tg} {own : List Nat} {ω : Om} {S : Sto} {Q : WQ} {n : Int} (h : ∀ Q' : WQ, Q' (.int n) S → ti ω S Q') (h0 : 0 ≤ n) (h1 : n ≤ 100000) (g : Nat → W)
    (hb : ∀ i : Nat, i < n.toNat → ∃ ω2, ζt T (.int (i : Nat)) (wp ω own) = some ω2 ∧ ∀ p acc, S p = none → ∀ Qe : WQ, Qe (g i) (up S p (.lst acc)) → te ω2 (up S p (.lst acc)) Qe)
    (q : Q (.lst ((List.range n.toNat).map g)) S) : dLc (ζA (ζm ti ζR)) T dYes te own ω S Q := by
  have hl : (irange 0 n.toNat).length = n.toNat := by unfold irange; rw [List.length_map, List.length_range]
  refine h _ ⟨⟨by omega, by omega⟩, ?_⟩
  refine lcM (fun w => match w with | .int i => g i.toNat | _ => .non) (by rw [hl]; omega) (fun _ _ _ => trivial) (fun w hw => ?_) ?_
  · unfold irange at hw
    obtain ⟨i, hi, rfl⟩ := List.mem_map.mp hw
    rw [List.mem_range] at hi
    have e : W.int (0 + (i : Nat)) = W.int (i : Nat) := by rw [Int.zero_add]
    rw [e]
    exact hb i hi
  · unfold irange
    rw [List.map_map]
    have e : (fun w => match w with | W.int i => g i.toNat | _ => .non) ∘ (fun i : Nat => W.int (0 + (i : Nat))) = g := by
      funext i
      show g ((0 + (i : Int)).toNat) = g i
      rw [Int.zero_add]; rfl
    rw [e]
    exact q
theorem stN_go {t : DS'} {D : Out} {ω : Om} {S : Sto} (N : Om → Sto → Prop) (h : ∀ D' : Out, (∀ ω S, N ω S → D'.nx ω S) → t D' ω S) (k : ∀ ω S, N ω S → D.nx ω S) : t D ω S := h D k
end DL
namespace DL
open PySem PySem.Spec PyProof.Rows L2
section
variable {X : Cx} {Z : WX}
def dSplit (to te : DE') : DE' := fun ω S Q => to ω S fun a S1 => ∃ x, a = .str x ∧ te ω S1 fun b S2 => ∃ y, b = .str y ∧ x.length ≤ 1000000 ∧ (y.length == 0) = false ∧ (∀ z ∈ Txt.split x y, sv z) ∧ Q (.lst ((Txt.split x y).map W.str)) S2
theorem de_split {o e : Expr} {to te : DE'} {apos pos : Pos} (ho : DE X Z o to) (he : DE X Z e te) (hs : starEach [e] X.env = [(false, eval e X.env)] := by rfl) (hbase : attributeBase o "split" X.env (eval o X.env) = eval o X.env := by rfl) (hline : (apos.endLine == pos.line) = true := by rfl) :
    DE X Z (.Call (.Attribute o "split" apos) [e] [] pos) (dSplit to te) := PE.im (pe_split ho he hs hbase hline) fun σ H Q ⟨ω, S, Qd, a, h, f⟩ => by
  refine ⟨ω, S, _, a, h, fun w S1 v H1 x1 r1 q1 h1 => ?_⟩
  obtain ⟨x, rfl, h1⟩ := h1
  cases q1 with | str _ okx =>
    refine ⟨⟨_, rfl⟩, ω, S1, _, a.to x1 r1, h1, fun w2 S2 v2 H2 x2 r2 q2 h2 => ?_⟩
    obtain ⟨y, rfl, hl, hy, hz, hq⟩ := h2
    cases q2 with | str _ oky =>
      refine ⟨x, _, rfl, rfl, hy, Nat.le_trans (Nat.add_le_add_right hl 2) (by decide), fun p np => ?_⟩
      exact f _ _ _ _ (x1.trans (x2.trans (Nx.new np))) (r2.new np) (.lst upd_same (r2.free np) ((RWs.strs hz).mono (Nx.new np))) hq
end
open Builtin in
def two (i : Int) : Str := if i < 10 then Str.ofString "0" ++ Str.ofString (toString i) else Str.ofString (toString i)
section
variable {X : Cx} {e o : Expr} {te to : TE}
end
section
variable {X : Cx} {Z : WX}
end
end DL
namespace DL
open PySem PySem.Spec PyProof.Rows L2
section
variable {X : Cx} {Z : WX}
end
def dLcM (di : DI') (T : Tg) (tt : DT') (te : DE') (own : List Nat) : DE' := fun ω S Q => di ω S fun xs ok S1 => ∀ p, S1 p = none → ∃ P : Nat → List W → Sto → Prop, P 0 [] (up S1 p (.lst [])) ∧
  (∀ i acc S', P i acc S' → ok S' ∧ S' p = some (.lst acc)) ∧
  (∀ i w acc S', xs[i]? = some w → P i acc S' → ∃ ω2, ζt T w (wp ω own) = some ω2 ∧ tt ω2 S' fun b S3 => if b = true then te ω2 S3 fun v S4 => ∃ acc', S4 p = some (.lst acc') ∧ acc'.length < 1000000 ∧ P (i + 1) (acc' ++ [v]) (up S4 p (.lst (acc' ++ [v]))) else ∃ acc', P (i + 1) acc' S3) ∧
  ∀ acc S', P xs.length acc S' → Q (.ref p) S'
section
variable {P : Program} {w : World} {K : PySem.W.Frag} {mg : Str → Option Value} {base : Heap}
end
def Flat (K : PySem.W.Frag) (us : List W) (dvs : List V) : Prop := ∀ S H, RWs K S H us dvs
section
variable {X : Cx} {Z : WX} {e : Expr} {es : List Expr} {t tk : DA'} {C : Addr} {x : Str} {pos p : Pos} {k j : Nat} {dsp : DSp}
end
end DL
namespace My
open PySem PySem.Spec PyProof.Rows L2
section
variable {X : Cx} {n : Nat} {CX : CXT} {C f : Addr} {fd : FuncData} {ps : List PySem.Str} {sp : Sp} {E : XK} {pins : List (Addr × Obj)} {σ : L2.St} {H : Hp} {s : Shared}
end
end My
namespace My
open PySem PySem.Spec PyProof.Rows L2 PySem.W
section
variable {prog : Program} {w : World} {A : Around} {E : Value → Shared → Prop} {s : Shared} {K : Frag} {x C f L : Addr} {ox : Obj} {od : Option Obj} {h₀ : Heap} {m : PySem.Str → Option Value} {b tb : Value}
end
end My
namespace My
open PySem PySem.Spec PyProof.Rows L2
section
variable {X : Cx} {n : Nat} {CX : CXT} {C f : Addr} {fd : FuncData} {ps : List PySem.Str} {sp : Sp} {E : XK} {pins : List (Addr × Obj)} {σ : L2.St} {H : Hp} {s : Shared}
end
end My
namespace MyQ
open PySem PySem.SeqAt
open AutoSeq1 (wpAny_loadPart')
open MeetsSeq MeetsSeq2 MeetsSeq3 SeqRoads2
section
variable {prog : Program} {w : World} {A : Around} {R : Result → Shared → Prop}
end
end MyQ
namespace MyQ
open PySem PySem.SeqAt
open AutoSeq1 (wpAny_loadPart')
open MeetsSeq MeetsSeq2 MeetsSeq3 SeqRoads2
section
variable {prog : Program} {w : World} {A : Around} {R : Result → Shared → Prop}
end
end MyQ
namespace My
open PySem PySem.Spec PyProof.Rows L2
section
variable {X : Cx} {n : Nat} {CX : CXT} {C f : Addr} {fd : FuncData} {ps : List PySem.Str} {sp : Sp} {E : XK} {D : Eqv}
end
end My
namespace DL
open PySem PySem.Spec PyProof.Rows L2 My
def S0 : Sto := fun _ => none
section
variable {K : PySem.W.Frag} {S : Sto} {H H' : Hp}
theorem Nx.ofExt (x : ∀ b o, H b = some o → H' b = some o) : Nx S H S H' := ⟨fun b o h _ => x b o h, fun _ _ _ n => n⟩
theorem Rel.ext (r : Rel K S H) (x : ∀ b o, H b = some o → H' b = some o) : Rel K S H' := fun a o ho => by
  have N : Nx S H S H' := Nx.ofExt x
  cases r a o ho with
  | lst h q => exact .lst (x _ _ h) (q.mono N)
  | dK h q => exact .dK (x _ _ h) (RWp.mono N q)
  | dT h q => exact .dT (x _ _ h) (RWp.mono N q)
  | ins h m q => exact .ins (x _ _ h) m (RWp.mono N q)
  | own h => exact .own (x _ _ h)
  | tup h q => exact .tup (x _ _ h) (q.mono N)
  | tab h t c => exact .tab (x _ _ h) t fun pos cv hc => let ⟨c, e1, e2, e3⟩ := c pos cv hc; ⟨c, e1, x _ _ e2, e3⟩
  | tabF h => exact .tabF (x _ _ h)
end
def oth : List String := ["NoneType", "bool", "tuple", "str", "int", "list"]
def NotFst (K : PySem.W.Frag) (C : Addr) : Prop := ∀ T ∈ oth, PySem.W.notFirst K C (.type T) = true
section
variable {X : Cx} {n : Nat} {C f : Addr} {fd : FuncData} {ps : List PySem.Str} {dsp : DSp}
end
section
variable {X : Cx} {S : Sto} {H : Hp} {pins : List (Addr × Obj)} {σ : L2.St} {s : Shared}
end
section
variable {X : Cx} {n : Nat} {C f : Addr} {fd : FuncData} {ps : List PySem.Str} {dsp : DSp}
end
end DL
namespace MyQ
open PySem PySem.SeqAt
open AutoSeq1 (wpAny_loadPart')
open MeetsSeq MeetsSeq2 MeetsSeq3 SeqRoads2
section
variable {prog : Program} {w : World} {A : Around} {R : Result → Shared → Prop}
end
end MyQ
namespace DL
open PySem PySem.Spec PyProof.Rows L2 My
section
variable {X : Cx} {Z : WX} {n : Nat} {C f : Addr} {fd : FuncData} {ps : List PySem.Str} {dsp : DSp}
structure OwnC (K : PySem.W.Frag) (C : Addr) : Prop where
  cl : Cls K C
  ha : PySem.W.findIn K (.ref C) "__class__" = some (some (.builtin "object.__class__"))
  hn : PySem.W.specialIn K (.builtin "object.__class__") "__get__" = some (some (.builtin "getset_descriptor.__get__"))
  htk : PySem.W.takesIn K (.builtin "object.__class__") = some true
  hm : PySem.W.mroIn K C (.type "object") = some true
  kt : PySem.W.kitOne K (.ref C) (.ref C) = some true
  kf : ∀ T ∈ oth, PySem.W.kitOne K (.type T) (.ref C) = some false
end
section
variable {X : Cx} {Z : WX} {n : Nat} {C f : Addr} {fd : FuncData} {ps : List PySem.Str} {dsp : DSp}
end
end DL
namespace DL
open PySem PySem.Spec PyProof.Rows L2
section
variable {X : Cx} {Z : WX} {tg iter elt : Expr} {ifs : List Expr} {di : DI'} {T : Tg} {tt : DT'} {te : DE'} {pos : Pos} {scope : Scope} {own : List (Str × Nat)}
theorem uLcM {K : PySem.W.Frag} {vs : List Nat} (hT : ∀ i ∈ tix T, i ∈ vs) {σ : L2.St} {H : Hp} {Q : VK} (h : uE K Z (dLcM di T tt te vs) σ H Q) : tLc (uI K Z di) (gOf K T) (uT K Z0 tt) (uE K Z0 te) vs σ H Q := by
  obtain ⟨ω, S, Qd, a, h, f⟩ := h
  refine ⟨ω, S, _, a, h, fun xs ok S1 H1 J x1 r1 src hp => fun D nD => ?_⟩
  obtain ⟨P, p0, pk, ps, pe⟩ := hp D (r1.free nD)
  have aw := (a.to x1 r1).wipe vs
  have r2 : Rel K (up S1 D (.lst [])) (upd H1 D (.lst [])) := r1.newS nD (.lst upd_same .nil)
  refine ⟨fun i m H' => m = xs.length - i ∧ i ≤ xs.length ∧ ∃ acc S', Rel K S' H' ∧ Nx S1 H1 S' H' ∧ P i acc S', ⟨xs.length, by simp, Nat.zero_le _, [], _, r2, Nx.newS nD, p0⟩, ?_⟩
  rintro i m H' ⟨rfl, hi, acc, S', r', x', p⟩
  by_cases hlt : i < xs.length
  · refine .inr ⟨src.go i S' H' x' r' (pk _ _ _ p).1 hlt, fun H2 => ∃ acc S2, Rel K S2 H2 ∧ Nx S1 H1 S2 H2 ∧ P (i + 1) acc S2, fun H2 ⟨acc2, S2, r2, x2, p2⟩ => ⟨xs.length - (i + 1), by omega, rfl, hlt, acc2, S2, r2, x2, p2⟩, fun v H2 y => ?_⟩
    obtain ⟨w, ew, x2, r2, q2⟩ := src.yld i S' H' v H2 x' r' (pk _ _ _ p).1 hlt y
    obtain ⟨ω2, eb, hb⟩ := ps i w acc S' ew p
    obtain ⟨σ3, a3, hw, hq⟩ := tbind_ok eb (aw.to (x'.trans x2) r2) q2
    refine hq _ ⟨?_, ω2, S', _, a3, hb, fun b S3 H3 x3 r3 h3 => ?_⟩
    · rw [hw vs hT]
      have : ∀ (σ : L2.St) (us : List Nat), (∀ i ∈ us, i ∈ vs) → L2.wipe (L2.wipe σ us) vs = L2.wipe σ vs := by
        intro σ us
        induction us with
        | nil => intro _; rfl
        | cons u us ih =>
          intro hu
          show L2.wipe ((L2.wipe σ us).set u none) vs = _
          rw [wipe_set (hu u (List.mem_cons_self ..))]
          exact ih fun i hi => hu i (List.mem_cons_of_mem _ hi)
      exact this σ vs fun _ h => h
    · cases b with
      | true =>
        rw [if_pos rfl] at h3 ⊢
        refine ⟨ω2, S3, _, a3.to x3 r3, h3, fun w4 S4 v4 H4 x4 r4 q4 h4 => ?_⟩
        obtain ⟨acc', hs, hl, p5⟩ := h4
        cases r4 _ _ hs with
        | @lst _ vs' hH rs =>
          refine ⟨vs', hH, by rw [← rs.len]; exact sz_lt hl, acc' ++ [w4], _, r4.wr hs (fun _ z => by cases z) (.lst upd_same ((rs.app (.cons q4 .nil)).mono (Nx.wr hs))), x'.trans (x2.trans (x3.trans (x4.trans (Nx.wr hs)))), p5⟩
      | false =>
        rw [if_neg Bool.false_ne_true] at h3 ⊢
        obtain ⟨acc', p5⟩ := h3
        exact ⟨acc', S3, r3, x'.trans (x2.trans x3), p5⟩
  · have e : i = xs.length := by omega
    subst e
    obtain ⟨ok', hs⟩ := pk _ _ _ p
    exact .inl ⟨src.stop _ S' H' x' r' ok' rfl, f _ _ _ _ (x1.trans x') r' (.ref _) (pe _ _ p)⟩
theorem ds_setLcM {i : Nat} {y : Str} {py spos : Pos} (hN : X.N.Nodup) (hi : DI X Z tg iter di) (ok : BlkOk X.N X.env.scope scope own)
    (hg : ∀ (s : Shared) (H : Hp) (C : Addr) (cl : List (Str × Addr)) (fp : List Addr), PG (X.blk s H scope (compEnvC scope cl C X.env) fp) tg (gOf X.K T)) (ht : ∀ (s : Shared) (H : Hp) (C : Addr) (cl : List (Str × Addr)) (fp : List Addr), DTs (X.blk s H scope (compEnvC scope cl C X.env) fp) Z0 ifs tt)
    (he : ∀ (s : Shared) (H : Hp) (C : Addr) (cl : List (Str × Addr)) (fp : List Addr), DE (X.blk s H scope (compEnvC scope cl C X.env) fp) Z0 elt te) (hsw : swapsWith (.ListComp elt [⟨tg, iter, ifs, 0⟩] scope pos) (some (.Name y py)) spos.line X.env = pure true) (hT : ∀ i ∈ tix T, i ∈ own.map (·.2) := by decide) (hy : X.N[i]? = some y := by rfl) (hyl : X.env.scope.names.lookup y = some .local := by rfl) (hc : X.calm = true := by rfl) (hs : ∀ x, foldedSetIterable iter X.env x = pure x := by intro _; rfl) :
    DS X Z (.Assign [.Name y py] (.ListComp elt [⟨tg, iter, ifs, 0⟩] scope pos) spos) (ξa i (dLcM di T tt te (own.map (·.2)))) := PS.im (ps_setLc hc hN hy hyl hsw hi ok hg ht he hs) fun D σ H ⟨ω, S, Dd, a, h, f⟩ =>
  uLcM hT ⟨ω, S, _, a, h, fun w S1 v H1 x1 r1 q1 h1 => f.nx _ _ _ _ x1 ((a.to x1 r1).set q1 i) h1⟩
end
section
variable (P : Program) (w : World) (K : PySem.W.Frag) (mg : Str → Option Value) (base : Heap) (k : Nat)
def MakD (x : Str) (C : Addr) (dsp : DSp) (us : List W) : Prop :=
  ∃ (g : Addr) (fd : FuncData) (ps : List Str) (dvs : List V) (ds : List Value), Mk K C g ∧ FnOk P w K mg base CX0 k g fd ps (uSp K dsp) ∧ mg x = some (.ref C) ∧ Binds K fd ps ds ∧ Vals dvs ds ∧ Flat K us dvs
def MthD (C : Addr) (m : Str) (dsp : DSp) (us : List W) : Prop :=
  ∃ (f : Addr) (fd : FuncData) (ps : List Str) (dvs : List V) (ds : List Value), FnOk P w K mg base CX0 k f fd ps (uSp K dsp) ∧ Meth K C m f ∧ Binds K fd ps ds ∧ Vals dvs ds ∧ Flat K us dvs
end
theorem Flat.nil_inv {K : PySem.W.Frag} {dvs : List V} (h : Flat K [] dvs) : dvs = [] := by cases h (fun _ => none) (fun _ => none); rfl
theorem Flat.nil {K : PySem.W.Frag} : Flat K [] [] := fun _ _ => .nil
def insOk (S : Sto) (C : Addr) (m : Str) : W → Prop
  | .ref a => ∃ dx fs, S a = some (.ins C dx fs) ∧ fs.lookup m = none
  | .ins D ns ws => D = C ∧ (ns.zip ws).lookup m = none
  | _ => False
theorem insOk_rel {K : PySem.W.Frag} {S : Sto} {H : Hp} {C : Addr} {m : Str} {w : W} {v : V} (r : Rel K S H) (q : RW K S H w v) (h : insOk S C m w) : ∃ a dx gs, v = .ref a ∧ H a = some (.ins C dx gs) ∧ gs.lookup m = none := by
  cases w <;> first | exact h.elim | skip
  case ins D ns ws =>
    obtain ⟨rfl, hl⟩ := h
    cases q with
    | ins hH o n m' e rs => exact ⟨_, _, _, rfl, hH, (RWp.zip e rs).lookN hl⟩
  case ref a =>
    obtain ⟨dx, fs, hs, hl⟩ := h
    cases q
    cases r _ _ hs with
    | ins hH m r => exact ⟨_, _, _, rfl, hH, r.lookN hl⟩
def dMth (C : Addr) (m : Str) (dsp : DSp) (us : List W) (to : DE') (t : DA') : DE' := fun ω S Q => to ω S fun w S1 => insOk S1 C m w ∧ t ω S1 fun ws S2 => dsp (w :: (ws ++ us)) S2 Q X0
section
variable {X : Cx} {Z : WX} {e o : Expr} {es : List Expr} {t tk : DA'} {to : DE'} {C : Addr} {x m : Str} {pos apos p : Pos} {k j : Nat} {dsp : DSp} {us : List W}
theorem de_mk (c : MakD X.prog X.w X.K X.mg X.base k x C dsp []) (hr : Room j X.A) (ha : DA X Z (e :: es) t) (hk : k + 1 ≤ j := by decide) (hg : Gl X x := by rfl)
    (hdb : (x == ("__debug__" : Str)) = false := by decide) (he : starEach (e :: es) X.env = (false, eval e X.env) :: starEach es X.env := by rfl) (hpl : (backTo pos (starEach es X.env)).any (·.1) = false := by rfl) :
    DE X Z (.Call (.Name x p) (e :: es) [] pos) (dMake C dsp t) := by
  obtain ⟨g, fd, ps, dvs, ds, M, F, hm, hb, hd, hu⟩ := c
  obtain rfl := hu.nil_inv
  cases hd
  exact de_make M F hm hb hr ha hk hg hdb he hpl
theorem de_mth {pl : Sem Bool} (c : Cls X.K C) (d : MthD X.prog X.w X.K X.mg X.base k C m dsp us) (hr : Room j X.A) (ho : DE X Z o to) (ha : DA X Z (e :: es) t) (hk : k ≤ j := by decide)
    (hst : starEach (e :: es) X.env = (false, eval e X.env) :: starEach es X.env := by rfl) (hpl : (backTo pos (starEach es X.env)).any (·.1) = false := by rfl)
    (ht : eval (.Call (.Attribute o m apos) (e :: es) [] pos) X.env = (do
      let ov ← eval o X.env
      standAt apos.atName
      let (f, first) ← holding [ov] (getMethod ov m pl)
      callWith pos f first (backTo pos (starEach (e :: es) X.env)) (backToKw pos (keywordEach [] X.env))) := by rfl) :
    DE X Z (.Call (.Attribute o m apos) (e :: es) [] pos) (dMth C m dsp us to t) := by
  obtain ⟨f, fd, ps, dvs, ds, F, hm, hb, hd, hu⟩ := d
  refine PE.im (pe_meth (pl := pl) ho c hm F (hr.mono hk) hb hd pass0 ha hst hpl ht) fun σ H Q ⟨ω, S, Qd, a, h, fi⟩ => ?_
  refine ⟨ω, S, _, a, h, fun w S1 v H1 x1 r1 q1 h1 => ?_⟩
  obtain ⟨hi, h1⟩ := h1
  obtain ⟨b, dx, gs, rfl, hb, hl⟩ := insOk_rel r1 q1 hi
  refine ⟨b, dx, gs, rfl, hb, hl, ω, S1, _, a.to x1 r1, h1, fun ws S2 vs H2 x2 r2 q2 h2 => ?_⟩
  exact ⟨w :: (ws ++ us), S2, Qd, X0, r2, .cons (q1.mono x2) (q2.app (hu _ _)), h2, fun w' S' v' H' x' r' q' h' => fi _ _ _ _ (x1.trans (x2.trans x')) r' q' h', .zero⟩
end
theorem kbn_mkD {K : PySem.W.Frag} {x qual : Str} {params : Arguments} {body : List Stmt} {scope : Scope} {dvs : List V} {kws : List (Str × V)} {f : Addr} {fd : FuncData} {ps ks : List Str} {n : Nat} {ix : List Nat} (F : FunD K x qual params body scope dvs kws f fd) (hd : dvs ≠ [])
    (h : ∀ (T : Addr) (kV doc pm : Value) (an : Option Addr) (cdv ct : Value) (us ws its : List Value), us.length = n → ws.length = ks.length → its.length = dvs.length →
      ∃ k, bindArgs (PySem.W.fnOf x qual params body scope (.ref T) kV doc pm an cdv ct) ⟨us, ks.zip ws⟩ = seqItems? (.ref T) >>= k ∧ k (some its.toArray) = pure (ps.zip (DL.pm ix (us ++ ws ++ its)))) :
    ∃ ds, Vals dvs ds ∧ KBn K fd ps n ks (fun a b => DL.pm ix (a ++ b ++ ds)) (fun a b => DL.pm ix (a ++ b ++ dvs)) := by
  obtain ⟨oc, od, dV, kV, doc, pm, an, cdv, ct, osl, rfl, lk, hcd, hD, hK⟩ := F.ex
  rcases hD with ⟨e, _⟩ | ⟨_, T, o, its, m, rfl, lT, oT, rT⟩
  · exact absurd e hd
  · refine ⟨its, rT, fun s us ws X l1 l2 => ?_, fun r rz => ?_⟩
    · refine BindsTo.of_looks fun M => ?_
      obtain ⟨k, e1, e2⟩ := h T kV doc pm an cdv ct us ws its l1 l2 rT.length.symm
      rw [e1]
      exact looks_items X lT oT (.of_pure e2)
    · have := pm_rel (ix := ix) (r.append rz) rT
      exact this
def dMulS : D2 := fun a b S Q => ∃ z n, a = .str z ∧ b = .int n ∧ MulOk z n ∧ sv (Txt.mul z n) ∧ Q (.str (Txt.mul z n)) S
section
variable {X : Cx}
theorem oa_mulS : OD X (binaryOp .Mult) dMulS := by
  intro pins s σ H x y v u Q I rx ry ⟨w1, w2, S, Qd, r, r1, r2, ⟨z, n, e1, e2, hok, hs, q⟩, fi⟩
  subst e1; subst e2
  cases r1
  cases r2
  obtain ⟨t, rfl⟩ := rx
  obtain ⟨t', rfl⟩ := ry
  exact SB.mul hok fun t' k => ⟨.str _, H, I.tok k, ⟨t', rfl⟩, fi.one r (.str _ hs) q⟩
end
theorem mul_zero (z : Str) : Txt.mul z 0 = Str.empty := by unfold Txt.mul; rw [if_pos (by decide)]
theorem mul_one (z : Str) : Txt.mul z 1 = z := by unfold Txt.mul; rw [if_neg (by decide), if_pos (by simp)]
theorem mulOk0 (z : Str) : MulOk z 0 := by unfold MulOk; simp
theorem mulOk1 {z : Str} (h : z.length ≤ 1000000) : MulOk z 1 := by unfold MulOk; simp
theorem sv_empty : sv Str.empty := by decide +kernel
theorem app_G {G : Nat → W → Prop} {acc : List W} {v : W} (h : ∀ j u, acc[j]? = some u → G j u) (hv : G acc.length v) : ∀ j u, (acc ++ [v])[j]? = some u → G j u := by
  intro j u hj
  by_cases hjl : j < acc.length
  · rw [List.getElem?_append_left hjl] at hj; exact h j u hj
  · rw [List.getElem?_append_right (by omega)] at hj
    have hj0 : j - acc.length = 0 := by
      have := (List.getElem?_eq_some_iff.mp hj).1
      simp at this
      omega
    rw [hj0] at hj
    simp at hj
    subst hj
    have : j = acc.length := by omega
    rw [this]; exact hv
theorem lcN {xs : List W} {ok : Sto → Prop} {S1 : Sto} {T : Tg} {te : DE'} {own : List Nat} {ω : Om} {Q : WQ} (G : Nat → W → Prop) (hl : xs.length ≤ 1000000) (hok : ∀ p acc, S1 p = none → ok (up S1 p (.lst acc)))
    (hb : ∀ i w, xs[i]? = some w → ∃ ω2, ζt T w (wp ω own) = some ω2 ∧ ∀ p acc, S1 p = none → ∀ Qe : WQ, (∀ v, G i v → Qe v (up S1 p (.lst acc))) → te ω2 (up S1 p (.lst acc)) Qe)
    (q : ∀ vs : List W, vs.length = xs.length → (∀ i v, vs[i]? = some v → G i v) → Q (.lst vs) S1) : ∀ p, S1 p = none → ∃ P : Nat → List W → Sto → Prop, P 0 [] (up S1 p (.lst [])) ∧ (∀ i acc S', P i acc S' → ok S' ∧ S' p = some (.lst acc)) ∧
      (∀ i w acc S', xs[i]? = some w → P i acc S' → ∃ ω2, ζt T w (wp ω own) = some ω2 ∧ dYes ω2 S' fun b S3 => if b = true then te ω2 S3 fun v S4 => ∃ acc', S4 p = some (.lst acc') ∧ acc'.length < 1000000 ∧ P (i + 1) (acc' ++ [v]) (up S4 p (.lst (acc' ++ [v]))) else ∃ acc', P (i + 1) acc' S3) ∧
      ∀ acc S', P xs.length acc S' → Q (.lst acc) (del S' p) := by
  intro p hp
  refine ⟨fun i acc S' => acc.length = i ∧ i ≤ xs.length ∧ (∀ j v, acc[j]? = some v → G j v) ∧ S' = up S1 p (.lst acc), ⟨rfl, Nat.zero_le _, fun j v h => by simp at h, rfl⟩, ?_, ?_, ?_⟩
  · rintro i acc S' ⟨_, _, _, rfl⟩
    exact ⟨hok p acc hp, up_same⟩
  · rintro i w acc S' hw ⟨hi, hi2, hG, rfl⟩
    obtain ⟨ω2, e, hb⟩ := hb i w hw
    have hlt : i < xs.length := (List.getElem?_eq_some_iff.mp hw).1
    refine ⟨ω2, e, ?_⟩
    show te ω2 (up S1 p (.lst acc)) _
    refine hb p acc hp _ fun v hv => ⟨acc, up_same, by omega, by rw [List.length_append, hi]; rfl, hlt, app_G hG (by rw [hi]; exact hv), by rw [up_up]⟩
  · rintro acc S' ⟨hi, _, hG, rfl⟩
    rw [del_new hp]
    exact q acc hi hG
theorem irange_at {n : Nat} {i : Nat} {w : W} (hw : (irange 0 n)[i]? = some w) : i < n ∧ w = .int (i : Nat) := by
  have hl : (irange 0 n).length = n := by unfold irange; rw [List.length_map, List.length_range]
  have hi : i < n := by have := (List.getElem?_eq_some_iff.mp hw).1; rw [hl] at this; exact this
  refine ⟨hi, ?_⟩
  unfold irange at hw
  rw [List.getElem?_map, List.getElem?_range hi] at hw
  cases hw
  show W.int (0 + (i : Nat)) = _
  rw [Int.zero_add]
theorem irange_len {lo : Int} {n : Nat} : (irange lo n).length = n := by unfold irange; rw [List.length_map, List.length_range]
theorem lcNs {ti te : DE'} {T : Tg} {own : List Nat} {ω : Om} {S : Sto} {Q : WQ} {w : W} {xs : List W} (h : ∀ Q' : WQ, Q' w S → ti ω S Q') (hs : seqW S w = some xs) (hl : xs.length ≤ 1000000) (hok : ∀ p acc, S p = none → seqW (up S p (.lst acc)) w = some xs) (G : Nat → W → Prop)
    (hb : ∀ i w, xs[i]? = some w → ∃ ω2, ζt T w (wp ω own) = some ω2 ∧ ∀ p acc, S p = none → ∀ Qe : WQ, (∀ v, G i v → Qe v (up S p (.lst acc))) → te ω2 (up S p (.lst acc)) Qe)
    (q : ∀ vs : List W, vs.length = xs.length → (∀ i v, vs[i]? = some v → G i v) → Q (.lst vs) S) : dLc (ζD ti) T dYes te own ω S Q := seqI_go h hs (lcN G hl hok hb q)
theorem pick_G {α : Type} {vs : List W} {g : α → W} {R : α → Prop} (h : ∀ (i : Nat) v, vs[i]? = some v → ∃ x, R x ∧ v = g x) : ∃ xs : List α, vs = xs.map g ∧ ∀ x ∈ xs, R x := by
  induction vs with
  | nil => exact ⟨[], rfl, fun x h => by cases h⟩
  | cons v vs ih =>
    obtain ⟨x, hx, rfl⟩ := h 0 _ rfl
    obtain ⟨xs, rfl, hxs⟩ := ih fun i u hu => h (i + 1) u (by simpa using hu)
    exact ⟨x :: xs, rfl, fun y hy => (List.mem_cons.mp hy).elim (fun e => e ▸ hx) (hxs y)⟩
def isDv (S : Sto) (w : W) : Bool := match view S w with
  | .dct _ _ => true
  | _ => false
theorem isDv_inv {S : Sto} {w : W} (h : isDv S w = true) : ∃ ks ws, view S w = .dct ks ws := by
  unfold isDv at h
  split at h
  · exact ⟨_, _, by assumption⟩
  · cases h
def dGet1 (to ti : DE') : DE' := fun ω S Q => to ω S fun w S1 => isDv S1 w = true ∧ ti ω S1 fun k S2 => ∃ ks ws key, view S2 w = .dct ks ws ∧ wkey k = some key ∧ Q ((wval (ks.zip ws) key).getD .non) S2
def dGet2 (to ti tx : DE') : DE' := fun ω S Q => to ω S fun w S1 => isDv S1 w = true ∧ ti ω S1 fun k S2 => tx ω S2 fun x S3 => ∃ ks ws key, view S3 w = .dct ks ws ∧ wkey k = some key ∧ Q ((wval (ks.zip ws) key).getD x) S3
section
variable {X : Cx} {Z : WX} {o e f : Expr} {to ti tx : DE'} {apos cpos : Pos} {k : Nat}
theorem de_get1 (hr : Room k X.A) (ho : DE X Z o to) (he : DE X Z e ti) (m : M1 X o "get" apos e cpos := by exact ⟨rfl, rfl, rfl, rfl⟩) : DE X Z (.Call (.Attribute o "get" apos) [e] [] cpos) (dGet1 to ti) :=
  PE.im (pe_dget1 (by have := hu65 hr; omega) ho he m) fun σ H Q ⟨ω, S, Qd, a, h, fi⟩ => by
    refine ⟨ω, S, _, a, h, fun w S1 v H1 x1 r1 q1 ⟨hd, h1⟩ => ?_⟩
    obtain ⟨ks, ws, ev⟩ := isDv_inv hd
    obtain ⟨b, gs, rfl, hR, _, _⟩ := view_dct r1 q1 ev
    refine ⟨b, rfl, .inl ⟨gs, hR⟩, ω, S1, _, a.to x1 r1, h1, fun k S2 v2 H2 x2 r2 q2 ⟨ks', ws', key, ev2, hk, hq⟩ => ?_⟩
    obtain ⟨b', gs', e', hR', hp, _⟩ := view_dct r2 (q1.mono x2) ev2
    cases e'
    refine ⟨valV gs' key, .inl ⟨gs', key, hR', wkey_rel q2 hk, rfl⟩, ?_⟩
    rcases wval_rel hp key with ⟨w', v', e1, e2, rv⟩ | ⟨e1, e2⟩
    · rw [e1] at hq; rw [e2]; exact fi _ _ _ _ (x1.trans x2) r2 rv hq
    · rw [e1] at hq; rw [e2]; exact fi _ _ _ _ (x1.trans x2) r2 .non hq
theorem de_get2 (hr : Room k X.A) (ho : DE X Z o to) (he : DE X Z e ti) (hf : DE X Z f tx) (m : M2 X o "get" apos e f cpos := by exact ⟨rfl, rfl, rfl, rfl⟩) : DE X Z (.Call (.Attribute o "get" apos) [e, f] [] cpos) (dGet2 to ti tx) :=
  PE.im (pe_dget2 (by have := hu65 hr; omega) ho he hf m) fun σ H Q ⟨ω, S, Qd, a, h, fi⟩ => by
    refine ⟨ω, S, _, a, h, fun w S1 v H1 x1 r1 q1 ⟨hd, h1⟩ => ?_⟩
    obtain ⟨ks, ws, ev⟩ := isDv_inv hd
    obtain ⟨b, gs, rfl, hR, _, _⟩ := view_dct r1 q1 ev
    refine ⟨b, rfl, .inl ⟨gs, hR⟩, ω, S1, _, a.to x1 r1, h1, fun k S2 v2 H2 x2 r2 q2 h2 => ?_⟩
    refine ⟨ω, S2, _, a.to (x1.trans x2) r2, h2, fun x S3 v3 H3 x3 r3 q3 ⟨ks', ws', key, ev2, hk, hq⟩ => ?_⟩
    obtain ⟨b', gs', e', hR', hp, _⟩ := view_dct r3 (q1.mono (x2.trans x3)) ev2
    cases e'
    refine ⟨valV gs' key, .inl ⟨gs', key, hR', wkey_rel (q2.mono x3) hk, rfl⟩, ?_⟩
    rcases wval_rel hp key with ⟨w', v', e1, e2, rv⟩ | ⟨e1, e2⟩
    · rw [e1] at hq; rw [e2]; exact fi _ _ _ _ (x1.trans (x2.trans x3)) r3 rv hq
    · rw [e1] at hq; rw [e2]; exact fi _ _ _ _ (x1.trans (x2.trans x3)) r3 q3 hq
end
section
variable {X : Cx}
end
section
variable {X : Cx} {pins : List (Addr × Obj)} {σ : L2.St} {H : Hp} {s : Shared} {S : Sto}
end
def dMinL : DC' := fun ws S Q => ∃ w x xs, ws = [w] ∧ view S w = .lst (x :: xs) ∧ (∀ y ∈ x :: xs, okD y = true) ∧ PySem.W.AlikeAll (pds (x :: xs)) ∧ ∀ m ∈ x :: xs, pd m = PySem.W.minD (pd x) (pds xs) → Q m S
section
variable {X : Cx}
theorem okD_all {xs : List W} (h : ∀ y ∈ xs, okD y = true) : isDs xs = true ∧ deps xs ≤ 60 := by
  refine ⟨?_, deps_le fun w hw => ?_⟩
  · rw [isDs_all]
    exact List.all_eq_true.mpr fun w hw => by have := h w hw; unfold okD at this; rw [Bool.and_eq_true] at this; exact this.1
  · have := h w hw; unfold okD at this; rw [Bool.and_eq_true] at this; exact of_decide_eq_true this.2
theorem best_mem {pins : List (Addr × Obj)} {σ : L2.St} {H : Hp} {s : Shared} {S : Sto} {d : PyData} (I : Inv X pins σ H s) {xs : List W} {vs : List V} {us : List Value} (rs : RWs X.K S H xs vs) (rv : Vals vs us) (hd : isDs xs = true) {i : Nat} {u : Value} {h' : Heap} {bs : List Addr} (hi : us[i]? = some u) (k : ∀ b o, s.heap.get? b = some o → h'.get? b = some o) (hr : Reads h' u d bs) : ∃ m v, m ∈ xs ∧ RelV v u ∧ RW X.K S H m v ∧ pd m = d := by
  obtain ⟨v, hv, rv'⟩ : ∃ v, vs[i]? = some v ∧ RelV v u := by
    have hl : i < vs.length := by rw [rv.length]; exact (List.getElem?_eq_some_iff.mp hi).1
    obtain ⟨w, hw, r⟩ := rv.get (List.getElem?_eq_getElem hl)
    rw [hi] at hw
    cases hw
    exact ⟨_, List.getElem?_eq_getElem hl, r⟩
  obtain ⟨m, hm, rm⟩ := rs.get' hv
  have md : isD m = true := by
    rw [isDs_all] at hd
    exact List.all_eq_true.mp hd m (List.mem_of_getElem? hm)
  obtain ⟨as, r0⟩ := Dp.reads I _ _ _ (rm.dp md).1 rv'
  exact ⟨m, v, List.mem_of_getElem? hm, rv', rm, SeqAt.Reads.unique _ _ _ _ _ (rm.dp md).2 (PySem.W.reads_keeps k r0) hr⟩
theorem cd_minL {k : Nat} (hr : Room k X.A) (hc : X.calm = true := by rfl) : CD X (.builtin "min") dMinL := fun pins s σ H xs us Q I rx ⟨ws, S, Qd, r, rs, ⟨w, x, l, e, ev, ok, al, q⟩, fi⟩ => by
  subst e
  obtain ⟨v, rfl, r1⟩ := rs.one
  obtain ⟨a, vs, rfl, hH, rl⟩ := view_lst r r1 ev
  rw [Vals.ref1 rx]
  obtain ⟨its, rv, hl, hz⟩ := I.list (show SqL X.K H a vs from .inl (.inl hH))
  obtain ⟨id, dp⟩ := okD_all ok
  obtain ⟨as, ra⟩ := Dp.readsAll I _ _ _ (rl.dp id).1 rv
  have hu := hu65 hr
  have l1 := depth_pds (x :: l)
  refine PySem.W.min_list_data (x := pd x) (xs := pds l) (I.ok.hd hc) hl.isList ra al (by show X.A.units + 1 + PyData.depthAll (pds (x :: l)) < cLine; omega) fun i v h' tk bs hi hrd k => ?_
  obtain ⟨m, v', hm, rv', rm, e⟩ := best_mem I rl rv id (by simpa using hi) k hrd
  exact ⟨v', H, I.kept k, rv', fi.one r rm (q m hm e)⟩
end
def dPopAt : DM' := fun w ws S Q => ∃ a xs i k y, w = .ref a ∧ ws = [.int i] ∧ S a = some (.lst xs) ∧ -(2 ^ 63) ≤ i ∧ i < 2 ^ 63 ∧ seqIndex? i xs.length = some k ∧ xs[k]? = some y ∧ Q y (up S a (.lst (xs.eraseIdx k)))
theorem RWs.eraseIdx {K : PySem.W.Frag} {S : Sto} {H : Hp} : ∀ {ws : List W} {vs : List V} (k : Nat), RWs K S H ws vs → RWs K S H (ws.eraseIdx k) (vs.eraseIdx k)
  | _, _, _, .nil => .nil
  | _, _, 0, .cons _ t => t
  | _, _, k + 1, .cons h t => .cons h (RWs.eraseIdx k t)
section
variable {X : Cx} {Z : WX} {o e : Expr} {to : DE'} {t : DA'} {apos cpos : Pos}
theorem mt_popW : MtR X "list.pop" (uM X.K dPopAt) := fun pins s σ H x xs v us Q I rx rs ⟨w, ws, S, Qd, r, r1, r2, ⟨a, ys, i, k, y, e1, e2, hs, i0, i1, hk, hy, q⟩, fi⟩ => by
  subst e1; subst e2
  cases r1
  obtain ⟨z, rfl, rz⟩ := r2.one
  cases rz
  cases r _ _ hs with
  | @lst _ vs h1 q1 =>
    obtain ⟨v', hv', rv'⟩ := q1.get hy
    exact mt_popAt pins s σ H _ _ v us Q I rx rs ⟨a, vs, i, k, v', rfl, rfl, h1, i0, i1, by rw [← q1.len]; exact hk, hv', fi _ _ _ _ (Nx.wr hs) (r.wr hs (fun _ e => nomatch e) (.lst upd_same ((q1.eraseIdx k).mono (Nx.wr hs)))) (rv'.mono (Nx.wr hs)) q⟩
theorem de_popAt (ho : DE X Z o to) (ha : DA X Z [e] t) (hbase : attributeBase o "pop" X.env (eval o X.env) = eval o X.env := by rfl)
    (hfew : ((backTo cpos (starEach [e] X.env)).all (fun x => !x.1) && (backToKw cpos (keywordEach [] X.env)).all (fun x => x.1.isSome) && decide (([e] : List Expr).length + ([] : List Keyword).length + (if ([] : List Keyword).isEmpty then 0 else 1) < 30)) = true := by rfl)
    (hline : (apos.endLine == cpos.line) = true := by rfl) (hs : starEach [e] X.env = (false, eval e X.env) :: starEach [] X.env := by rfl) (hplain : (backTo cpos (starEach [] X.env)).any (·.1) = false := by rfl) :
    DE X Z (.Call (.Attribute o "pop" apos) [e] [] cpos) (dBM dPopAt to t) := de_bm PySem.F.slot_list_pop PySem.F.type_list_pop mt_popW ho ha hbase hfew hline hs hplain
end
def flt : V → W
  | .non => .non
  | .bl b => .bl b
  | .int i => .int i
  | .str x => .str x
  | .ty n => .ty n
  | .ref a => .ref a
  | _ => .non
section
variable {K : PySem.W.Frag} {S S' : Sto} {H H' : Hp}
theorem RW.flt {w : W} {v : V} (h : RW K S H w v) : RW K S' H' (DL.flt v) v := by
  cases h with
  | non => exact .non
  | bl b => exact .bl b
  | int i => exact .int i
  | str x ok => exact .str x ok
  | ty n => exact .ty n
  | tup h n r => exact .ref _
  | tupK h r => exact .ref _
  | lst h n r => exact .ref _
  | scr h => exact .ref _
  | dct h n e r => exact .ref _
  | ins h o n m e r => exact .ref _
  | ref a => exact .ref _
  | excN a => exact .ref _
  | exc h n e r => exact .ref _
  | lam h n r => exact .ref _
  | dctT h n e r => exact .ref _
theorem RW.flt_inv {w : W} {v v' : V} (h : RW K S H w v) (h' : RW K S' H' (DL.flt v) v') : v' = v := by
  cases h <;> (cases h' <;> rfl)
theorem RWs.flt : ∀ {ws : List W} {vs : List V}, RWs K S H ws vs → RWs K S' H' (vs.map DL.flt) vs
  | _, _, .nil => .nil
  | _, _, .cons h t => .cons h.flt (RWs.flt t)
theorem RWs.flt_inv : ∀ {ws : List W} {vs vs' : List V}, RWs K S H ws vs → RWs K S' H' (vs.map DL.flt) vs' → vs' = vs
  | _, _, _, .nil, .nil => rfl
  | _, _, _, .cons h t, .cons h' t' => by rw [h.flt_inv h', RWs.flt_inv t t']
theorem RWp.flt {κ : Type} {fs : List (κ × W)} {gs : List (κ × V)} (r : RWp K S H fs gs) : RWp K S' H' (gs.map fun p => (p.1, DL.flt p.2)) gs := by
  induction r with
  | nil => exact .nil
  | cons h t ih => exact .cons ⟨rfl, h.2.flt⟩ ih
theorem RWp.flt_inv {κ : Type} {fs : List (κ × W)} {gs gs' : List (κ × V)} (r : RWp K S H fs gs) (r' : RWp K S' H' (gs.map fun p => (p.1, DL.flt p.2)) gs') : gs' = gs := by
  induction r generalizing gs' with
  | nil => cases r'; rfl
  | @cons p q fs gs h t ih =>
    cases r' with
    | @cons _ q' _ gs2 h' t' =>
      obtain ⟨q1, q2⟩ := q
      obtain ⟨z1, z2⟩ := q'
      obtain ⟨e1, e2⟩ := h'
      simp only at e1 e2
      rw [ih t', h.2.flt_inv e2, e1]
end
def hide (S : Sto) (H : Hp) (p : Addr) : Sto := fun a => if a = p then none else match S a with
  | none => none
  | some _ => match H a with
    | some (.lst vs) => some (.lst (vs.map flt))
    | some (.dK gs) => some (.dK (gs.map fun q => (q.1, flt q.2)))
    | some (.dT gs) => some (.dT (gs.map fun q => (q.1, flt q.2)))
    | some (.ins C dx gs) => some (.ins C dx (gs.map fun q => (q.1, flt q.2)))
    | some (.own x) => some (.own x)
    | some (.tup vs) => some (.tup (vs.map flt))
    | some (.tbl ps) => some (.tabF ps)
    | _ => none
section
variable {K : PySem.W.Frag} {S : Sto} {H : Hp} {p : Addr}
theorem hide_at {a : Addr} (h : a ≠ p) : hide S H p a = match S a with
  | none => none
  | some _ => match H a with
    | some (.lst vs) => some (.lst (vs.map flt))
    | some (.dK gs) => some (.dK (gs.map fun q => (q.1, flt q.2)))
    | some (.dT gs) => some (.dT (gs.map fun q => (q.1, flt q.2)))
    | some (.ins C dx gs) => some (.ins C dx (gs.map fun q => (q.1, flt q.2)))
    | some (.own x) => some (.own x)
    | some (.tup vs) => some (.tup (vs.map flt))
    | some (.tbl ps) => some (.tabF ps)
    | _ => none := by unfold hide; rw [if_neg h]
theorem hide_none (r : Rel K S H) (a : Addr) : hide S H p a = none ↔ (a = p ∨ S a = none) := by
  by_cases e : a = p
  · subst e; unfold hide; rw [if_pos rfl]; exact ⟨fun _ => .inl rfl, fun _ => rfl⟩
  · rw [hide_at e]
    cases hs : S a with
    | none => exact ⟨fun _ => .inr rfl, fun _ => rfl⟩
    | some o =>
      simp only
      refine ⟨fun h => ?_, fun h => ?_⟩
      · cases r _ _ hs with
        | lst q _ => rw [q] at h; cases h
        | dK q _ => rw [q] at h; cases h
        | dT q _ => rw [q] at h; cases h
        | ins q _ _ => rw [q] at h; cases h
        | own q => rw [q] at h; cases h
        | tup q _ => rw [q] at h; cases h
        | tab q _ _ => rw [q] at h; cases h
        | tabF q => rw [q] at h; cases h
      · rcases h with h | h
        · exact absurd h e
        · cases h
theorem hide_rel {o : HO} (r : Rel K S H) (hp : ∀ x, S p ≠ some (.own x)) : Rel K (hide S H p) (upd H p o) := by
  intro a u hu
  have e : a ≠ p := fun e => by subst e; rw [(hide_none r a).mpr (.inl rfl)] at hu; cases hu
  rw [hide_at e] at hu
  cases hs : S a with
  | none => rw [hs] at hu; cases hu
  | some w =>
    rw [hs] at hu
    simp only at hu
    cases r _ _ hs with
    | lst q rr => rw [q] at hu; cases hu; exact .lst (by rw [upd_ne e]; exact q) rr.flt
    | dK q rr => rw [q] at hu; cases hu; exact .dK (by rw [upd_ne e]; exact q) (RWp.flt rr)
    | dT q rr => rw [q] at hu; cases hu; exact .dT (by rw [upd_ne e]; exact q) (RWp.flt rr)
    | @ins C dx fs gs q m rr =>
      rw [q] at hu; cases hu
      refine .ins (by rw [upd_ne e]; exact q) ?_ (RWp.flt rr)
      have ed : dx ≠ p := fun z => by subst z; exact hp _ m
      rw [hide_at ed, m]
      cases r _ _ m with
      | own qq => simp only; rw [qq]
    | own q => rw [q] at hu; cases hu; exact .own (by rw [upd_ne e]; exact q)
    | tup q rr => rw [q] at hu; cases hu; exact .tup (by rw [upd_ne e]; exact q) rr.flt
    | tab q _ _ => rw [q] at hu; cases hu; exact .tabF (by rw [upd_ne e]; exact q)
    | tabF q => rw [q] at hu; cases hu; exact .tabF (by rw [upd_ne e]; exact q)
theorem hide_same {H2 : Hp} (r : Rel K S H) (r2 : Rel K (hide S H p) H2) {a : Addr} (e : a ≠ p) (hs : S a ≠ none) : H2 a = H a := by
  cases h : S a with
  | none => exact absurd h hs
  | some w =>
    have hh := hide_at (S := S) (H := H) e
    rw [h] at hh
    simp only at hh
    cases r _ _ h with
    | lst q rr =>
      rw [q] at hh
      cases r2 _ _ hh with
      | lst q2 r3 => rw [q2, q, RWs.flt_inv rr r3]
    | dK q rr =>
      rw [q] at hh
      cases r2 _ _ hh with
      | dK q2 r3 => rw [q2, q, RWp.flt_inv rr r3]
    | dT q rr =>
      rw [q] at hh
      cases r2 _ _ hh with
      | dT q2 r3 => rw [q2, q, RWp.flt_inv rr r3]
    | ins q m rr =>
      rw [q] at hh
      cases r2 _ _ hh with
      | ins q2 m2 r3 => rw [q2, q, RWp.flt_inv rr r3]
    | own q =>
      rw [q] at hh
      cases r2 _ _ hh with
      | own q2 => rw [q2, q]
    | tup q rr =>
      rw [q] at hh
      cases r2 _ _ hh with
      | tup q2 r3 => rw [q2, q, RWs.flt_inv rr r3]
    | tab q _ _ =>
      rw [q] at hh
      cases r2 _ _ hh with
      | tabF q2 => rw [q2, q]
    | tabF q =>
      rw [q] at hh
      cases r2 _ _ hh with
      | tabF q2 => rw [q2, q]
end
def dcf : W → Bool
  | .tup xs | .lst xs => dcfs xs
  | .ins _ _ xs => dcfs xs
  | .dct _ _ => false
  | .exc _ _ _ _ => false
  | .lam _ _ _ _ _ => false
  | .dctT _ _ => false
  | _ => true
where dcfs : List W → Bool
  | [] => true
  | w :: ws => dcf w && dcfs ws
section
variable {K : PySem.W.Frag} {S S1 : Sto} {H2 : Hp} {p : Addr} {od : Obj} {gs : List (Key × V)} {u : HO}
mutual
theorem RW.unhide (hp : H2 p = some (.frz od (.dK gs))) (hs : ∀ a, S1 a = none ↔ (a = p ∨ S a = none)) : ∀ {w : W} {v : V}, RW K S1 H2 w v → dcf w = true → RW K S (upd H2 p u) w v
  | _, _, .non, _ => .non
  | _, _, .bl b, _ => .bl b
  | _, _, .int i, _ => .int i
  | _, _, .str x ok, _ => .str x ok
  | _, _, .ty n, _ => .ty n
  | _, _, @RW.tup _ _ _ a _ _ h n r, d => by
    have e : a ≠ p := fun e => by subst e; rw [hp] at h; cases h
    exact .tup (by rw [upd_ne e]; exact h) (((hs a).mp n).resolve_left e) (RWs.unhide hp hs r d)
  | _, _, .tupK h r, d => .tupK h (RWs.unhide hp hs r d)
  | _, _, @RW.lst _ _ _ a _ _ h n r, d => by
    have e : a ≠ p := fun e => by subst e; rw [hp] at h; cases h
    exact .lst (by rw [upd_ne e]; exact h) (((hs a).mp n).resolve_left e) (RWs.unhide hp hs r d)
  | _, _, @RW.scr _ _ _ a ns h, _ => by
    rcases h with ⟨h | ⟨o, h⟩, n⟩ | h
    · have e : a ≠ p := fun e => by subst e; rw [hp] at h; cases h
      exact .scr (.inl ⟨.inl (by rw [upd_ne e]; exact h), ((hs a).mp n).resolve_left e⟩)
    · have e : a ≠ p := fun e => by subst e; rw [hp] at h; cases h
      exact .scr (.inl ⟨.inr ⟨o, by rw [upd_ne e]; exact h⟩, ((hs a).mp n).resolve_left e⟩)
    · exact .scr (.inr h)
  | _, _, .dct .., d => nomatch d
  | _, _, @RW.ins _ _ _ a C dx _ _ _ h o n m e r, d => by
    have e1 : a ≠ p := fun e => by subst e; rw [hp] at h; cases h
    have e2 : dx ≠ p := fun e => by subst e; rw [hp] at o; cases o
    exact .ins (by rw [upd_ne e1]; exact h) (by rw [upd_ne e2]; exact o) (((hs a).mp n).resolve_left e1) (((hs dx).mp m).resolve_left e2) e (RWs.unhide hp hs r d)
  | _, _, .ref a, _ => .ref a
  | _, _, .excN a, _ => .excN a
  | _, _, .exc .., d => nomatch d
  | _, _, .lam .., d => nomatch d
  | _, _, .dctT .., d => nomatch d
theorem RWs.unhide (hp : H2 p = some (.frz od (.dK gs))) (hs : ∀ a, S1 a = none ↔ (a = p ∨ S a = none)) : ∀ {ws : List W} {vs : List V}, RWs K S1 H2 ws vs → dcf.dcfs ws = true → RWs K S (upd H2 p u) ws vs
  | _, _, .nil, _ => .nil
  | _, _, .cons h t, d => by
    rw [dcf.dcfs, Bool.and_eq_true] at d
    exact .cons (RW.unhide hp hs h d.1) (RWs.unhide hp hs t d.2)
end
end
def dLit (xs : List W) : DI' := fun _ S R => R xs (fun _ => True) S
def dLcK (i : Nat) (T : Tg) (tt : DT') (te : DE') (own : List Nat) : DE' := fun ω S Q => ∃ p kvs, ω.s[i]? = some (some (.ref p)) ∧ S p = some (.dK kvs) ∧ (∀ z ∈ kvs, svK z.1) ∧
  ∀ S1, (∀ a, S1 a = none ↔ (a = p ∨ S a = none)) → dLc (dLit (kvs.map fun z => kW z.1)) T tt te own (ω.set i (some (.dct (kvs.map (·.1)) (kvs.map (·.2))))) S1 fun w S2 => dcf w = true ∧ S2 = S1 ∧ Q w S
theorem src_k {K : PySem.W.Frag} {S0 : Sto} {H0 : Hp} {d : Addr} {o : Obj} {gs : List (Key × V)} (hk : ∀ z ∈ gs, svK z.1) (h : H0 d = some (.frz o (.dK gs))) (n : S0 d = none) : Src K S0 H0 (Itk d o gs) (gs.map fun z => kW z.1) (fun _ => True) := by
  have hl : (gs.map fun z => kW z.1).length = gs.length := List.length_map ..
  refine ⟨fun i S H x r _ hi => ⟨x.keep _ _ h n, by rw [hl] at hi; exact hi⟩, fun i S H v H' x r _ hi y => ?_, fun i S H x r _ hi => ⟨x.keep _ _ h n, by rw [hi, hl]; exact Nat.le_refl _⟩⟩
  obtain ⟨e, k, v', hkv, rfl⟩ := y
  subst e
  exact ⟨kW k, by rw [List.getElem?_map, hkv]; rfl, Nx.refl, r, kW_rel (hk _ (List.mem_of_getElem? hkv))⟩
section
variable {Z : WX} {T : Tg} {tt : DT'} {te tk tv : DE'}
theorem lc_core {K : PySem.W.Frag} {vs : List Nat} (hT : ∀ i ∈ tix T, i ∈ vs) {σ : L2.St} {H1 : Hp} {Q : VK} {ω : Om} {S1 : Sto} {J : It} {xs : List W} {ok : Sto → Prop} {Qd : WQ} (a : At K Z S1 H1 σ ω) (src : Src K S1 H1 J xs ok)
    (hp : ∀ p, S1 p = none → ∃ P : Nat → List W → Sto → Prop, P 0 [] (up S1 p (.lst [])) ∧ (∀ i acc S', P i acc S' → ok S' ∧ S' p = some (.lst acc)) ∧
      (∀ i w acc S', xs[i]? = some w → P i acc S' → ∃ ω2, ζt T w (wp ω vs) = some ω2 ∧ tt ω2 S' fun b S3 => if b = true then te ω2 S3 fun v S4 => ∃ acc', S4 p = some (.lst acc') ∧ acc'.length < 1000000 ∧ P (i + 1) (acc' ++ [v]) (up S4 p (.lst (acc' ++ [v]))) else ∃ acc', P (i + 1) acc' S3) ∧
      ∀ acc S', P xs.length acc S' → Qd (.lst acc) (del S' p)) (f : ∀ w S' v H', Nx S1 H1 S' H' → Rel K S' H' → RW K S' H' w v → Qd w S' → Q v H') : tLc (fun _ H R => R J H) (gOf K T) (uT K Z0 tt) (uE K Z0 te) vs σ H1 Q := by
  show ∀ D, H1 D = none → _
  intro D nD
  have r1 := a.rel
  obtain ⟨P, p0, pk, ps, pe⟩ := hp D (r1.free nD)
  have aw := a.wipe vs
  have r2 : Rel K (up S1 D (.lst [])) (upd H1 D (.lst [])) := r1.newS nD (.lst upd_same .nil)
  refine ⟨fun i m H' => m = xs.length - i ∧ i ≤ xs.length ∧ ∃ acc S', Rel K S' H' ∧ Nx S1 H1 S' H' ∧ P i acc S', ⟨xs.length, by simp, Nat.zero_le _, [], _, r2, Nx.newS nD, p0⟩, ?_⟩
  rintro i m H' ⟨rfl, hi, acc, S', r', x', p⟩
  by_cases hlt : i < xs.length
  · refine .inr ⟨src.go i S' H' x' r' (pk _ _ _ p).1 hlt, fun H2 => ∃ acc S2, Rel K S2 H2 ∧ Nx S1 H1 S2 H2 ∧ P (i + 1) acc S2, fun H2 ⟨acc2, S2, r2, x2, p2⟩ => ⟨xs.length - (i + 1), by omega, rfl, hlt, acc2, S2, r2, x2, p2⟩, fun v H2 y => ?_⟩
    obtain ⟨w, ew, x2, r2, q2⟩ := src.yld i S' H' v H2 x' r' (pk _ _ _ p).1 hlt y
    obtain ⟨ω2, eb, hb⟩ := ps i w acc S' ew p
    obtain ⟨σ3, a3, hw, hq⟩ := tbind_ok eb (aw.to (x'.trans x2) r2) q2
    refine hq _ ⟨?_, ω2, S', _, a3, hb, fun b S3 H3 x3 r3 h3 => ?_⟩
    · rw [hw vs hT]
      have : ∀ (σ : L2.St) (us : List Nat), (∀ i ∈ us, i ∈ vs) → L2.wipe (L2.wipe σ us) vs = L2.wipe σ vs := by
        intro σ us
        induction us with
        | nil => intro _; rfl
        | cons u us ih =>
          intro hu
          show L2.wipe ((L2.wipe σ us).set u none) vs = _
          rw [wipe_set (hu u (List.mem_cons_self ..))]
          exact ih fun i hi => hu i (List.mem_cons_of_mem _ hi)
      exact this σ vs fun _ h => h
    · cases b with
      | true =>
        rw [if_pos rfl] at h3 ⊢
        refine ⟨ω2, S3, _, a3.to x3 r3, h3, fun w4 S4 v4 H4 x4 r4 q4 h4 => ?_⟩
        obtain ⟨acc', hs, hl, p5⟩ := h4
        cases r4 _ _ hs with
        | @lst _ vs' hH rs =>
          refine ⟨vs', hH, by rw [← rs.len]; exact sz_lt hl, acc' ++ [w4], _, r4.wr hs (fun _ z => by cases z) (.lst upd_same ((rs.app (.cons q4 .nil)).mono (Nx.wr hs))), x'.trans (x2.trans (x3.trans (x4.trans (Nx.wr hs)))), p5⟩
      | false =>
        rw [if_neg Bool.false_ne_true] at h3 ⊢
        obtain ⟨acc', p5⟩ := h3
        exact ⟨acc', S3, r3, x'.trans (x2.trans x3), p5⟩
  · have e : i = xs.length := by omega
    subst e
    obtain ⟨ok', hs⟩ := pk _ _ _ p
    obtain ⟨xf, rf, qf⟩ := r'.frz hs
    exact .inl ⟨src.stop _ S' H' x' r' ok' rfl, f _ _ _ _ (x'.trans xf) rf qf (pe _ _ p)⟩
end
theorem set_same {σ : L2.St} {i : Nat} {v : V} (h : σ[i]? = some (some v)) : σ.set i (some v) = σ := by
  refine List.ext_getElem? fun j => ?_
  by_cases c : i = j
  · subst c
    rw [List.getElem?_set_self (List.getElem?_eq_some_iff.mp h).1, h]
  · rw [List.getElem?_set_ne c]
section
variable {X : Cx} {Z : WX} {tg elt : Expr} {ifs : List Expr} {T : Tg} {tt : DT'} {te : DE'} {pos p0 : Pos} {scope : Scope} {own : List (Str × Nat)} {i : Nat} {x : Str}
theorem uLcK {K : PySem.W.Frag} {vs : List Nat} (hT : ∀ i ∈ tix T, i ∈ vs) {σ : L2.St} {H : Hp} {Q : VK} (h : uE K Z (dLcK i T tt te vs) σ H Q) : tLockE (tLc (iKeys (tVar i)) (gOf K T) (uT K Z0 tt) (uE K Z0 te) vs) σ H Q := by
  obtain ⟨ω, S, Qd, a, ⟨p, kvs, hi, hS, hk, h⟩, fi⟩ := h
  obtain ⟨v, hv, rv⟩ := a.rs.at' i _ hi
  cases rv
  have r := a.rel
  cases r _ _ hS with
  | @dK _ gs hH rp =>
    refine ⟨p, .dK gs, hH, True.intro, fun od => ?_⟩
    have hn := hide_none (p := p) r
    have x1 : Nx S H (hide S H p) (upd H p (.frz od (.dK gs))) := ⟨fun b o hb nb => by
      rw [upd_ne (fun e => by subst e; rw [hS] at nb; cases nb)]; exact hb, fun b o _ nb => (hn b).mpr (.inr nb)⟩
    have r1 : Rel K (hide S H p) (upd H p (.frz od (.dK gs))) := hide_rel r (fun z e => by rw [hS] at e; cases e)
    have a1 := a.to x1 r1
    have es : gs = (kvs.map (·.1)).zip (gs.map (·.2)) := by rw [RWp.fst rp, zip_prodV]
    have rd : RW K (hide S H p) (upd H p (.frz od (.dK gs))) (.dct (kvs.map (·.1)) (kvs.map (·.2))) (.ref p) :=
      .dct (vs := gs.map (·.2)) (.inr ⟨od, by rw [upd_same, ← es]⟩) ((hn p).mpr (.inl rfl)) (by rw [List.length_map, List.length_map, rp.len]) ((RWp.snd rp).mono x1)
    have a2 := a1.set rd i
    rw [set_same hv] at a2
    have hkg : ∀ z ∈ gs, svK z.1 := fun z hz => by
      have : z.1 ∈ gs.map (·.1) := List.mem_map.mpr ⟨z, hz, rfl⟩
      rw [← RWp.fst rp] at this
      obtain ⟨y, hy, e⟩ := List.mem_map.mp this
      rw [← e]; exact hk y hy
    have src := src_k (K := K) (S0 := hide S H p) (H0 := upd H p (.frz od (.dK gs))) (d := p) (o := od) hkg upd_same ((hn p).mpr (.inl rfl))
    have ek : (gs.map fun z => kW z.1) = kvs.map fun z => kW z.1 := by
      have := congrArg (List.map kW) (RWp.fst rp)
      rw [List.map_map, List.map_map] at this
      exact this.symm
    rw [ek] at src
    have hd := h (hide S H p) hn
    refine ⟨_, hv, p, od, rfl, .inl ⟨gs, upd_same, ?_⟩⟩
    refine lc_core (Q := fun v H' => H' p = some (.frz od (.dK gs)) ∧ Q v (upd H' p (.dK gs))) (tt := tt) (te := te) (Qd := fun w S2 => dcf w = true ∧ S2 = hide S H p ∧ Qd w S) hT a2 src hd fun w S' v H' x' r' q' hz => ?_
    obtain ⟨dc, e, hq⟩ := hz
    subst e
    have hpf : H' p = some (.frz od (.dK gs)) := x'.keep _ _ upd_same ((hn p).mpr (.inl rfl))
    refine ⟨hpf, ?_⟩
    have ext : ∀ b o, H b = some o → upd H' p (.dK gs) b = some o := fun b o hb => by
      by_cases e : b = p
      · subst e; rw [hH] at hb; cases hb; rw [upd_same]
      · rw [upd_ne e]
        cases hs : S b with
        | none => exact x'.keep _ _ (by rw [upd_ne e]; exact hb) ((hn b).mpr (.inr hs))
        | some o' => rw [hide_same r r' e (by rw [hs]; exact fun z => nomatch z)]; exact hb
    exact fi w S v _ (Nx.ofExt ext) (r.ext ext) (RW.unhide hpf hn q' dc) hq
theorem de_lcK (hN : X.N.Nodup) (ok : BlkOk X.N X.env.scope scope own)
    (hg : ∀ (s : Shared) (H : Hp) (C : Addr) (cl : List (Str × Addr)) (fp : List Addr), PG (X.blk s H scope (compEnvC scope cl C X.env) fp) tg (gOf X.K T)) (ht : ∀ (s : Shared) (H : Hp) (C : Addr) (cl : List (Str × Addr)) (fp : List Addr), DTs (X.blk s H scope (compEnvC scope cl C X.env) fp) Z0 ifs tt)
    (he : ∀ (s : Shared) (H : Hp) (C : Addr) (cl : List (Str × Addr)) (fp : List Addr), DE (X.blk s H scope (compEnvC scope cl C X.env) fp) Z0 elt te) (hx : X.N[i]? = some x := by rfl) (hvi : Vis X.env.scope x := by first | exact Or.inl rfl | exact Or.inr (Or.inl rfl) | exact Or.inr (Or.inr rfl)) (hT : ∀ i ∈ tix T, i ∈ own.map (·.2) := by decide) (hc : X.calm = true := by rfl) (hs : ∀ y, foldedSetIterable (.Name x p0) X.env y = pure y := by intro _; rfl)
    (hd : (x == ("__debug__" : Str)) = false := by decide) (hcd : (x == ("__classdict__" : Str)) = false := by decide) :
    DE X Z (.ListComp elt [⟨tg, .Name x p0, ifs, 0⟩] scope pos) (dLcK i T tt te (own.map (·.2))) := PE.im (pe_lock (pe_lc hc hN (pi_keys (pe_var hx hvi hd hcd)) ok hg ht he hs)) fun _ _ _ => uLcK hT
end
def dDcF (C : Addr) (f : Str) (i : Nat) (T : Tg) (tk tv : DE') (own : List Nat) : DE' := fun ω S Q => ω.ex = XF ∧ ∃ w ks ws, ω.s[i]? = some (some w) ∧ fget S C f w = some (.dct ks ws) ∧ (∀ k ∈ ks, svK k) ∧
  ∀ p, S p = none → ∃ P : Nat → Sto → Prop, P 0 (up S p (.dK [])) ∧
    (∀ j k S', ks[j]? = some k → P j S' → ∃ ω2, ζt T (kW k) (wp ω own) = some ω2 ∧ tk ω2 S' fun y S3 => tv ω2 S3 fun z S4 => ∃ acc key, wkey y = some key ∧ S4 p = some (.dK acc) ∧ acc.length < 1000000 ∧ P (j + 1) (up S4 p (.dK (wput acc key z)))) ∧
    ∀ S', P ks.length S' → Q (.ref p) S'
section
variable {X : Cx} {Z : WX} {tg kx vx : Expr} {T : Tg} {tk tv : DE'} {pos p0 p1 : Pos} {scope : Scope} {own : List (Str × Nat)} {i : Nat} {x f : Str} {C : Addr}
theorem dc_core2 {K : PySem.W.Frag} {vs : List Nat} (hT : ∀ i ∈ tix T, i ∈ vs) {σ : L2.St} {H1 : Hp} {Q : VK} {ω : Om} {S1 : Sto} {J : It} {xs : List W} {Qd : WQ} (a : At K Z S1 H1 σ ω) (src : Src K S1 H1 J xs (fun _ => True))
    (hp : ∀ p, S1 p = none → ∃ P : Nat → Sto → Prop, P 0 (up S1 p (.dK [])) ∧
      (∀ j w S', xs[j]? = some w → P j S' → ∃ ω2, ζt T w (wp ω vs) = some ω2 ∧ tk ω2 S' fun y S3 => tv ω2 S3 fun z S4 => ∃ acc key, wkey y = some key ∧ S4 p = some (.dK acc) ∧ acc.length < 1000000 ∧ P (j + 1) (up S4 p (.dK (wput acc key z)))) ∧
      ∀ S', P xs.length S' → Qd (.ref p) S') (f : ∀ w S' v H', Nx S1 H1 S' H' → Rel K S' H' → RW K S' H' w v → Qd w S' → Q v H') : tDc (fun _ H R => R J H) (gOf K T) (uT K Z0 dYes) (uE K Z0 tk) (uE K Z0 tv) vs σ H1 Q := by
  show ∀ D, H1 D = none → _
  intro D nD
  have r1 := a.rel
  obtain ⟨P, p0, ps, pe⟩ := hp D (r1.free nD)
  have aw := a.wipe vs
  have r2 : Rel K (up S1 D (.dK [])) (upd H1 D (.dK [])) := r1.newS nD (.dK upd_same .nil)
  refine ⟨fun i m H' => m = xs.length - i ∧ i ≤ xs.length ∧ ∃ S', Rel K S' H' ∧ Nx S1 H1 S' H' ∧ P i S', ⟨xs.length, by simp, Nat.zero_le _, _, r2, Nx.newS nD, p0⟩, ?_⟩
  rintro i m H' ⟨rfl, hi, S', r', x', p⟩
  by_cases hlt : i < xs.length
  · refine .inr ⟨src.go i S' H' x' r' trivial hlt, fun H2 => ∃ S2, Rel K S2 H2 ∧ Nx S1 H1 S2 H2 ∧ P (i + 1) S2, fun H2 ⟨S2, r2, x2, p2⟩ => ⟨xs.length - (i + 1), by omega, rfl, hlt, S2, r2, x2, p2⟩, fun v H2 y => ?_⟩
    obtain ⟨w, ew, x2, r2, q2⟩ := src.yld i S' H' v H2 x' r' trivial hlt y
    obtain ⟨ω2, eb, hb⟩ := ps i w S' ew p
    obtain ⟨σ3, a3, hw, hq⟩ := tbind_ok eb (aw.to (x'.trans x2) r2) q2
    refine hq _ ⟨?_, ω2, S', fun b S3 => b = true ∧ S3 = S', a3, ⟨rfl, rfl⟩, fun b S3 H3 x3 r3 h3 => ?_⟩
    · rw [hw vs hT]
      have : ∀ (σ : L2.St) (us : List Nat), (∀ i ∈ us, i ∈ vs) → L2.wipe (L2.wipe σ us) vs = L2.wipe σ vs := by
        intro σ us
        induction us with
        | nil => intro _; rfl
        | cons u us ih =>
          intro hu
          show L2.wipe ((L2.wipe σ us).set u none) vs = _
          rw [wipe_set (hu u (List.mem_cons_self ..))]
          exact ih fun i hi => hu i (List.mem_cons_of_mem _ hi)
      exact this σ vs fun _ h => h
    · obtain ⟨rfl, rfl⟩ := h3
      rw [if_pos rfl]
      refine ⟨ω2, _, _, a3.to x3 r3, hb, fun y4 S4 v4 H4 x4 r4 q4 h4 => ?_⟩
      refine ⟨ω2, S4, _, a3.to (x3.trans x4) r4, h4, fun z5 S5 v5 H5 x5 r5 q5 ⟨acc, key, hkey, hs, hl, p6⟩ => ?_⟩
      cases r5 _ _ hs with
      | @dK _ gs hH rs =>
        exact ⟨gs, key, wkey_rel (q4.mono x5) hkey, hH, by rw [← rs.len]; exact sz_lt hl, _, r5.wr hs (fun _ z => nomatch z) (.dK upd_same (RWp.mono (Nx.wr hs) (wput_rel rs key q5))), x'.trans (x2.trans (x3.trans (x4.trans (x5.trans (Nx.wr hs))))), p6⟩
  · have e : i = xs.length := by omega
    subst e
    exact .inl ⟨src.stop _ S' H' x' r' trivial rfl, f _ _ _ _ x' r' (.ref _) (pe _ p)⟩
theorem ps_setDc {wi : TI} {ifs : List Expr} {iter : Expr} {g : TG} {tt : TT} {tk' tv' : TE} {j : Nat} {y : Str} {py spos : Pos} (hc : X.calm = true) (hN : X.N.Nodup) (hy : X.N[j]? = some y) (hyl : X.env.scope.names.lookup y = some .local)
    (hsw : swapsWith (.DictComp kx vx [⟨tg, iter, ifs, 0⟩] scope pos) (some (.Name y py)) spos.line X.env = pure true) (hi : PI X tg iter wi) (ok : BlkOk X.N X.env.scope scope own)
    (hg : ∀ (s : Shared) (H : Hp) (C : Addr) (cl : List (Str × Addr)) (fp : List Addr), PG (X.blk s H scope (compEnvC scope cl C X.env) fp) tg g) (ht : ∀ (s : Shared) (H : Hp) (C : Addr) (cl : List (Str × Addr)) (fp : List Addr), PTs (X.blk s H scope (compEnvC scope cl C X.env) fp) ifs tt)
    (hk : ∀ (s : Shared) (H : Hp) (C : Addr) (cl : List (Str × Addr)) (fp : List Addr), PE (X.blk s H scope (compEnvC scope cl C X.env) fp) kx tk') (he : ∀ (s : Shared) (H : Hp) (C : Addr) (cl : List (Str × Addr)) (fp : List Addr), PE (X.blk s H scope (compEnvC scope cl C X.env) fp) vx tv') (hs : ∀ x, foldedSetIterable iter X.env x = pure x) :
    PS X (.Assign [.Name y py] (.DictComp kx vx [⟨tg, iter, ifs, 0⟩] scope pos) spos) (tAsg (tDc wi g tt tk' tv' (own.map (·.2))) (gName j)) := by
  refine ⟨fun pins s σ H D I h => ?_⟩
  rw [exec_Assign_Name_used _ _ _ _ hsw]
  refine wpAny_bind (wpAny_standAt (wpAny_bind ?_))
  show wpAny _ X.A (do let _ ← comprehension (.DictComp kx vx [⟨tg, iter, ifs, 0⟩] scope pos) scope X.env (firstIterPos [⟨tg, iter, ifs, 0⟩] pos) newDict false (eval iter X.env) (some (assign (.Name y py) X.env))) _ _ s
  have h : tDc wi g tt tk' tv' (own.map (·.2)) σ H (fun x H1 => gName j x σ H1 D.nx) := h
  refine wpAny_bind (thn (dc_core (Qf := fun _ s' => SP X pins D .next s') hc hN I hi ok hg ht hk he hs h fun L C s' m H' I' q hn f => ?_) fun _ s' hq => wpAny_pure (wpAny_pure hq))
  show wpAny _ _ (assign (.Name y py) X.env (.ref L)) _ _ _
  refine wpAny_assign_Name (store_ok2 (v := V.ref L) I' hN hy (.inl hyl) rfl (fun s2 I2 ⟨a, sb, ha⟩ => ?_) (.inr hyl))
  obtain ⟨f0, f1, f2, f3, f4, f5⟩ := f
  have haC : C ≠ a := by
    rcases ha with z | z
    · rw [z]; exact f1
    · exact fun e => f4 y a z e.symm
  refine ⟨m, hn.sameBut sb haC, fun h3 sb3 => ?_⟩
  exact ⟨_, H', I2.turned (t' := s2.toks) (fun b o hb e => (sb3.2 b hb).trans e) f0 f1 f3 f4 f5, q⟩
theorem sw_trueD {kx vx : Expr} {gs : List Comprehension} {scope : Scope} {pos py : Pos} {y : Str} {l : Nat} {env : Env} (hk : env.scope.kind = .function) (hy : env.scope.names.lookup y = some .local) (hl : (py.line == pos.line) = true)
    (ha : (scope.names.any fun (n, k) => n == y && (k == .local || k == .cell)) = false) : swapsWith (.DictComp kx vx gs scope pos) (some (.Name y py)) l env = pure true := by
  have ky : env.kindOf y = some .local := hy
  have hb : env.blockKind = .function := by unfold Env.blockKind; rw [hk]; rfl
  unfold swapsWith
  simp only [hb, ky, ha, Expr.pos, hl]
  rfl
theorem ds_setDcF {j : Nat} {y : Str} {py spos : Pos} (c : Cls X.K C) (n : NoAttr X.K C f) (hN : X.N.Nodup) (ok : BlkOk X.N X.env.scope scope own)
    (hg : ∀ (s : Shared) (H : Hp) (C : Addr) (cl : List (Str × Addr)) (fp : List Addr), PG (X.blk s H scope (compEnvC scope cl C X.env) fp) tg (gOf X.K T))
    (hk : ∀ (s : Shared) (H : Hp) (C : Addr) (cl : List (Str × Addr)) (fp : List Addr), DE (X.blk s H scope (compEnvC scope cl C X.env) fp) Z0 kx tk) (he : ∀ (s : Shared) (H : Hp) (C : Addr) (cl : List (Str × Addr)) (fp : List Addr), DE (X.blk s H scope (compEnvC scope cl C X.env) fp) Z0 vx tv)
    (hsw : swapsWith (.DictComp kx vx [⟨tg, .Attribute (.Name x p0) f p1, [], 0⟩] scope pos) (some (.Name y py)) spos.line X.env = pure true)
    (hx : X.N[i]? = some x := by rfl) (hvi : Vis X.env.scope x := by first | exact Or.inl rfl | exact Or.inr (Or.inl rfl) | exact Or.inr (Or.inr rfl)) (hT : ∀ i ∈ tix T, i ∈ own.map (·.2) := by decide) (hy : X.N[j]? = some y := by rfl) (hyl : X.env.scope.names.lookup y = some .local := by rfl) (hc : X.calm = true := by rfl) (hs : ∀ y, foldedSetIterable (.Attribute (.Name x p0) f p1) X.env y = pure y := by intro _; rfl)
    (hb : attributeBase (.Name x p0) f X.env (eval (.Name x p0) X.env) = eval (.Name x p0) X.env := by rfl) (hd : (x == ("__debug__" : Str)) = false := by decide) (hcd : (x == ("__classdict__" : Str)) = false := by decide) :
    DS X Z0 (.Assign [.Name y py] (.DictComp kx vx [⟨tg, .Attribute (.Name x p0) f p1, [], 0⟩] scope pos) spos) (ξa j (dDcF C f i T tk tv (own.map (·.2)))) := by
  have base := ps_setDc (kx := kx) (vx := vx) (tk' := uE X.K Z0 tk) (tv' := uE X.K Z0 tv) (tt := uT X.K Z0 dYes) (pos := pos) hc hN hy hyl hsw (pi_keys (tg := tg) (pe_fld (pe_var hx hvi hd hcd) hb)) ok hg (fun s H C cl fp => (dts_nil : DTs (X.blk s H scope (compEnvC scope cl C X.env) fp) Z0 [] dYes)) hk he hs
  refine PS.or (ps_lock base) base fun D σ H ⟨ω, S, Dd, a, ⟨ex0, w, ks, ws, hi, hf, hk2, hp⟩, fi⟩ => ?_
  obtain ⟨v, hv, rv⟩ := a.rs.at' i _ hi
  obtain ⟨b, dx, gs, z, rfl, hB, hl, rz⟩ := fget_rel a.rel rv hf
  cases rz with
  | @dct d _ _ vs hR nd el rr =>
    have hkg : ∀ q ∈ ks.zip vs, svK q.1 := fun q hq => hk2 _ (List.of_mem_zip hq).1
    have ek : ((ks.zip vs).map fun q => kW q.1) = ks.map kW := by
      have : (ks.zip vs).map (·.1) = ks := List.map_fst_zip (by omega)
      have := congrArg (List.map kW) this
      rw [List.map_map] at this
      exact this
    have core : ∀ (od : Obj) (H1 : Hp) (Q1 : VK), At X.K Z0 S H1 σ ω → H1 d = some (.frz od (.dK (ks.zip vs))) → H1 b = some (.ins C dx gs) → (∀ w S' v H', Nx S H1 S' H' → Rel X.K S' H' → RW X.K S' H' w v → Dd.nx (ω.set j (some w)) S' → Q1 v H') → tDc (iKeys (tFld X.K (tVar i) f)) (gOf X.K T) (uT X.K Z0 dYes) (uE X.K Z0 tk) (uE X.K Z0 tv) (own.map (·.2)) σ H1 Q1 := fun od H1 Q1 a1 h1 h2 f1 => by
      have src := src_k (K := X.K) (S0 := S) (H0 := H1) (d := d) (o := od) hkg h1 nd
      rw [ek] at src
      refine ⟨_, hv, b, C, dx, gs, _, rfl, h2, c, n, hl, d, od, rfl, .inl ⟨_, h1, ?_⟩⟩
      refine dc_core2 (tk := tk) (tv := tv) (Qd := fun w S' => Dd.nx (ω.set j (some w)) S') hT a1 src (fun p hps => ?_) f1
      obtain ⟨P, q0, qs, qe⟩ := hp p hps
      refine ⟨P, q0, fun j w' S' hw pj => ?_, fun S' h => qe S' (by rw [List.length_map] at h; exact h)⟩
      rw [List.getElem?_map] at hw
      cases hkj : ks[j]? with
      | none => rw [hkj] at hw; cases hw
      | some k =>
        rw [hkj] at hw
        cases hw
        exact qs j k S' hkj pj
    rcases hR with hH | ⟨o, hH⟩
    · refine .inl ⟨d, .dK (ks.zip vs), hH, True.intro, fun od => ?_⟩
      have eb : b ≠ d := fun e => by subst e; rw [hB] at hH; cases hH
      have aL := a.sw (Sw.lock (od := od) hH nd) ex0
      refine core od _ _ aL upd_same (by rw [upd_ne eb]; exact hB) fun w' S' v' H' x' r' q' h' => ?_
      have hd' : H' d = some (.frz od (.dK (ks.zip vs))) := x'.keep _ _ upd_same nd
      have n' : S' d = none := x'.dom _ _ upd_same nd
      refine ⟨hd', fi.nx _ _ _ _ (Nx.opened hH nd x') ?_ h'⟩
      have a2 : At X.K Z0 S' H' (σ.set j (some v')) (ω.set j (some w')) := (aL.to x' r').set q' j
      exact a2.sw (Sw.open hd' n') ex0
    · refine .inr (core o H _ a hH hB fun w' S' v' H' x' r' q' h' => ?_)
      exact fi.nx _ _ _ _ x' ((a.to x' r').set q' j) h'
end
section
variable {X : Cx} {Z : WX} {e o : Expr} {es : List Expr} {t tk : DA'} {to : DE'} {C : Addr} {m : Str} {pos apos p : Pos} {k j n nk : Nat} {dsp : DSp} {us : List W} {ks : List Str} {ix : List Nat} {kws : List Keyword}
end
def dAsgL (is : List Nat) (te : DE') : DS' := fun D ω S => te ω S fun w S1 => ∃ ws, view S1 w = .lst ws ∧ ∃ ω', ζe (is.map Tg.nm) ws ω = some ω' ∧ D.nx ω' S1
section
variable {X : Cx} {Z : WX} {e : Expr} {es : List Expr} {te : DE'} {pos tp : Pos} {kk : Nat} {is : List Nat}
theorem ds_asgL (he : DE X Z e te) (hg : PGs X es (gsOf X.K (is.map Tg.nm))) (hn : (assignEach es X.env).length = is.length := by rfl) (hst : (assignEach es X.env).findIdx? (·.1) = none := by rfl) (hc : X.calm = true := by rfl) (hs : swapsWithSole [.Tuple es kk tp] e pos.line X.env = pure false := by rfl)
    (hw : swappedStores [.Tuple es kk tp] e X.env = pure none := by rfl) (h1 : (assignEach [.Tuple es kk tp] X.env).map (·.2) = [assign (.Tuple es kk tp) X.env] := by rfl) :
    DS X Z (.Assign [.Tuple es kk tp] e pos) (dAsgL is te) := PS.im (ps_asg he (pg_lst hc hg hn hst) hs hw h1) fun D σ H ⟨ω, S, Dd, a, h, f⟩ => by
  refine ⟨ω, S, _, a, h, fun w S1 v H1 x1 r1 q1 ⟨ws, ev, ω', e', h1⟩ => ?_⟩
  obtain ⟨b, vs, rfl, hH, rl⟩ := view_lst r1 q1 ev
  obtain ⟨σ', a', _, hq⟩ := tbinds_ok e' (a.to x1 r1) rl
  have hl := tbinds_len (H := H1) (S := S1) (K := X.K) e'
  exact ⟨b, vs, rfl, .inl (.inl hH), by rw [← rl.len, hl, List.length_map], hq _ (f.nx _ _ _ _ x1 a' h1)⟩
end
theorem lcBI {xs : List W} {ok : Sto → Prop} {S1 : Sto} {T : Tg} {tt : DT'} {te : DE'} {own : List Nat} {ω : Om} {Q : WQ} {b : Addr} (hB : Bg S1 b) (I : Nat → List W → Prop) (h0 : I 0 []) (hl : xs.length ≤ 100000) (hok : ∀ p acc g s, S1 p = none → p ≠ b → ok (up (up S1 p (.lst acc)) b (bagO g s)))
    (hb : ∀ i w acc, xs[i]? = some w → I i acc → ∃ ω2, ζt T w (wp ω own) = some ω2 ∧ ∀ S', Bg S' b → ∀ (Kt : W → Sto → Prop) (Kf : Sto → Prop), (∀ v, I (i + 1) (acc ++ [v]) → aft S' b (Kt v)) → (I (i + 1) acc → aft S' b Kf) → tt ω2 S' fun c S3 => if c = true then te ω2 S3 Kt else Kf S3)
    (q : ∀ vs : List W, vs.length ≤ xs.length → I xs.length vs → ∀ p, S1 p = none → p ≠ b → ∀ g s, BagOk g s → Q (.ref p) (up (up S1 p (.lst vs)) b (bagO g s))) : ∀ p, S1 p = none → ∃ P : Nat → List W → Sto → Prop, P 0 [] (up S1 p (.lst [])) ∧ (∀ i acc S', P i acc S' → ok S' ∧ S' p = some (.lst acc)) ∧
      (∀ i w acc S', xs[i]? = some w → P i acc S' → ∃ ω2, ζt T w (wp ω own) = some ω2 ∧ tt ω2 S' fun b S3 => if b = true then te ω2 S3 fun v S4 => ∃ acc', S4 p = some (.lst acc') ∧ acc'.length < 1000000 ∧ P (i + 1) (acc' ++ [v]) (up S4 p (.lst (acc' ++ [v]))) else ∃ acc', P (i + 1) acc' S3) ∧
      ∀ acc S', P xs.length acc S' → Q (.ref p) S' := by
  intro p hp
  have hne : p ≠ b := hB.ne hp
  obtain ⟨g0, s0, e0, ok0⟩ := hB
  refine ⟨fun i acc S' => acc.length ≤ i ∧ i ≤ xs.length ∧ I i acc ∧ ∃ g s, BagOk g s ∧ S' = up (up S1 p (.lst acc)) b (bagO g s), ⟨Nat.le_refl _, Nat.zero_le _, h0, g0, s0, ok0, ?_⟩, ?_, ?_, ?_⟩
  · exact (up_self (by rw [up_ne (Ne.symm hne)]; exact e0)).symm
  · rintro i acc S' ⟨_, _, _, g, s, _, rfl⟩
    exact ⟨hok p acc g s hp hne, by rw [up_ne hne, up_same]⟩
  · rintro i w acc S' hw ⟨hi, hi2, hI, g, s, hgs, rfl⟩
    obtain ⟨ω2, e, hb⟩ := hb i w acc hw hI
    have hlt : i < xs.length := (List.getElem?_eq_some_iff.mp hw).1
    refine ⟨ω2, e, hb _ (Bg.up hgs) _ _ (fun v hv g' s' ok' => ?_) (fun hv g' s' ok' => ?_)⟩
    · refine ⟨acc, by rw [up_ne hne, up_ne hne, up_same], by omega, by rw [List.length_append]; simp; omega, hlt, hv, g', s', ok', ?_⟩
      rw [up_up, ← up_comm hne, up_up]
    · exact ⟨acc, by omega, hlt, hv, g', s', ok', by rw [up_up]⟩
  · rintro acc S' ⟨hi, _, hI, g, s, hgs, rfl⟩
    exact q acc hi hI p hp hne g s hgs
theorem lcMBr2 {ta : DA'} {te : DE'} {tt : DT'} {T : Tg} {own : List Nat} {ω : Om} {S : Sto} {Q : WQ} {b : Addr} {lo hi : Int} (h : ∀ Q' : List W → Sto → Prop, Q' [.int lo, .int hi] S → ta ω S Q') (h1 : -1000 ≤ lo ∧ lo ≤ 1000 ∧ -1000 ≤ hi ∧ hi ≤ 1000) (hB : Bg S b) (I : Nat → List W → Prop) (h0 : I 0 [])
    (hb : ∀ (i : Nat) acc, i < (hi - lo).toNat → I i acc → ∃ ω2, ζt T (.int (lo + (i : Nat))) (wp ω own) = some ω2 ∧ ∀ S', Bg S' b → ∀ (Kt : W → Sto → Prop) (Kf : Sto → Prop), (∀ v, I (i + 1) (acc ++ [v]) → aft S' b (Kt v)) → (I (i + 1) acc → aft S' b Kf) → tt ω2 S' fun c S3 => if c = true then te ω2 S3 Kt else Kf S3)
    (q : ∀ vs : List W, vs.length ≤ (hi - lo).toNat → I (hi - lo).toNat vs → ∀ p, S p = none → p ≠ b → ∀ g s, BagOk g s → Q (.ref p) (up (up S p (.lst vs)) b (bagO g s))) : dLcM (ζB ta) T tt te own ω S Q := by
  refine h _ ⟨⟨by omega, by omega, by omega, by omega⟩, ?_⟩
  refine lcBI hB I h0 (by rw [irange_len]; omega) (fun _ _ _ _ _ _ => trivial) (fun i w acc hw hI => ?_) (fun vs hv hI => q vs (by rw [irange_len] at hv; exact hv) (by rw [irange_len] at hI; exact hI))
  have hi' : i < (hi - lo).toNat := by have := (List.getElem?_eq_some_iff.mp hw).1; rw [irange_len] at this; exact this
  have e : (irange lo (hi - lo).toNat)[i]? = some (.int (lo + (i : Nat))) := by
    unfold irange
    rw [List.getElem?_map, List.getElem?_range hi']
    rfl
  rw [e] at hw
  cases hw
  exact hb i acc hi' hI
abbrev FM := List (Str × Int)
def flook (m : FM) (n : Str) : Option Int := (m.find? fun p => decide (p.1 = n)).map (·.2)
def fput (m : FM) (n : Str) (v : Int) : FM := if (m.any fun p => decide (p.1 = n)) = true then m.map (fun p => if p.1 = n then (p.1, v) else p) else m ++ [(n, v)]
def fdel (m : FM) (n : Str) : FM := m.filter fun p => decide (p.1 ≠ n)
abbrev fkeys (m : FM) : List Str := m.map (·.1)
theorem inr_eq {a b : Str} : (decide ((Sum.inr a : Key) = Sum.inr b)) = decide (a = b) := by
  by_cases h : a = b
  · rw [decide_eq_true h, decide_eq_true (by rw [h])]
  · rw [decide_eq_false h, decide_eq_false (fun e => h (Sum.inr.inj e))]
theorem wval_rkv (m : FM) (n : Str) : wval (rkv m) (Sum.inr n) = (flook m n).map W.int := by
  unfold wval flook rkv
  rw [List.find?_map]
  have e : ((fun kv : Key × W => decide (kv.1 = Sum.inr n)) ∘ fun p : Str × Int => ((Sum.inr p.1 : Key), W.int p.2)) = fun p : Str × Int => decide (p.1 = n) := by
    funext p; exact inr_eq
  rw [e]
  cases m.find? (fun p => decide (p.1 = n)) <;> rfl
theorem wput_rkv (m : FM) (n : Str) (v : Int) : wput (rkv m) (Sum.inr n) (.int v) = rkv (fput m n v) := by
  unfold wput fput
  have e : ((rkv m).any fun kv => decide (kv.1 = Sum.inr n)) = m.any fun p => decide (p.1 = n) := by
    unfold rkv
    rw [List.any_map]
    congr 1
    funext p; exact inr_eq
  rw [e]
  by_cases c : (m.any fun p => decide (p.1 = n)) = true
  · rw [if_pos c, if_pos c]
    unfold rkv
    rw [List.map_map, List.map_map]
    refine List.map_congr_left fun p _ => ?_
    show (if (Sum.inr p.1 : Key) = Sum.inr n then ((Sum.inr p.1 : Key), W.int v) else (Sum.inr p.1, W.int p.2)) = _
    by_cases h : p.1 = n
    · rw [if_pos (by rw [h])]; simp [h]
    · rw [if_neg (fun e => h (Sum.inr.inj e))]; simp [h]
  · rw [if_neg c, if_neg c]
    unfold rkv
    rw [List.map_append]; rfl
theorem wdrop_rkv (m : FM) (n : Str) : wdrop (rkv m) (Sum.inr n) = rkv (fdel m n) := by
  unfold wdrop fdel rkv
  rw [List.filter_map]
  congr 1
  refine List.filter_congr fun p _ => ?_
  show decide ((Sum.inr p.1 : Key) ≠ Sum.inr n) = decide (p.1 ≠ n)
  by_cases h : p.1 = n <;> simp [h]
theorem flook_put (m : FM) (n : Str) (v : Int) (k : Str) : flook (fput m n v) k = if k = n then some v else flook m k := by
  unfold fput
  by_cases c : (m.any fun p => decide (p.1 = n)) = true
  · rw [if_pos c]
    induction m with
    | nil => cases c
    | cons p m ih =>
      unfold flook
      rw [List.map_cons, List.find?_cons, List.find?_cons]
      by_cases hp : p.1 = n
      · rw [if_pos hp]
        by_cases hk : k = n
        · rw [if_pos hk]
          have : decide (p.1 = k) = true := decide_eq_true (by rw [hp, hk])
          simp only [this]; rfl
        · rw [if_neg hk]
          have h1 : decide (p.1 = k) = false := decide_eq_false (by rw [hp]; exact fun e => hk e.symm)
          simp only [h1]
          by_cases c' : (m.any fun p => decide (p.1 = n)) = true
          · have := ih c'
            rw [if_neg hk] at this
            exact this
          · have e : (m.map fun p => if p.1 = n then (p.1, v) else p) = m := by
              have : ∀ q ∈ m, (if q.1 = n then (q.1, v) else q) = q := fun q hq => by
                rw [if_neg]
                intro e
                exact c' (List.any_eq_true.mpr ⟨q, hq, decide_eq_true e⟩)
              rw [List.map_congr_left this, List.map_id'']
              intro x; rfl
            rw [e]
      · rw [if_neg hp]
        have c' : (m.any fun p => decide (p.1 = n)) = true := by
          rw [List.any_cons, decide_eq_false hp, Bool.false_or] at c
          exact c
        cases h1 : decide (p.1 = k) with
        | true =>
          simp only
          have hk : k ≠ n := fun e => hp (by rw [of_decide_eq_true h1, e])
          rw [if_neg hk]
        | false =>
          simp only
          exact ih c'
  · rw [if_neg c]
    unfold flook
    rw [List.find?_append]
    by_cases hk : k = n
    · rw [if_pos hk]
      have : m.find? (fun p => decide (p.1 = k)) = none := List.find?_eq_none.mpr fun q hq e => c (List.any_eq_true.mpr ⟨q, hq, by rw [hk] at e; exact e⟩)
      rw [this]
      simp [hk]
    · rw [if_neg hk]
      have : [(n, v)].find? (fun p => decide (p.1 = k)) = none := List.find?_eq_none.mpr fun q hq e => by
        rw [List.mem_singleton.mp hq] at e
        exact hk (of_decide_eq_true e).symm
      rw [this]
      cases m.find? (fun p => decide (p.1 = k)) <;> rfl
theorem flook_cons (p : Str × Int) (l : FM) (k : Str) : flook (p :: l) k = if p.1 = k then some p.2 else flook l k := by
  unfold flook
  rw [List.find?_cons]
  by_cases c : p.1 = k <;> simp [c]
theorem flook_del (m : FM) (n k : Str) : flook (fdel m n) k = if k = n then none else flook m k := by
  induction m with
  | nil => unfold flook fdel; simp
  | cons p m ih =>
    have e0 : fdel (p :: m) n = if p.1 = n then fdel m n else p :: fdel m n := by
      unfold fdel
      rw [List.filter_cons]
      by_cases c : p.1 = n <;> simp [c]
    rw [e0, flook_cons]
    by_cases c : p.1 = n
    · rw [if_pos c, ih]
      by_cases h : k = n
      · rw [if_pos h, if_pos h]
      · rw [if_neg h, if_neg h, if_neg (fun e : p.1 = k => h (by rw [← e]; exact c))]
    · rw [if_neg c, flook_cons, ih]
      by_cases h : k = n
      · rw [if_pos h, if_pos h, if_neg (fun e : p.1 = k => c (by rw [e]; exact h))]
      · rw [if_neg h, if_neg h]
theorem flook_mem {m : FM} {n : Str} {v : Int} (h : flook m n = some v) : (n, v) ∈ m := by
  unfold flook at h
  cases hf : m.find? (fun p => decide (p.1 = n)) with
  | none => rw [hf] at h; cases h
  | some p =>
    rw [hf] at h
    cases h
    have := List.find?_some hf
    have e : p.1 = n := of_decide_eq_true this
    rw [← e]
    exact List.mem_of_find?_eq_some hf
theorem flook_some {m : FM} {n : Str} : (∃ v, flook m n = some v) ↔ n ∈ fkeys m := by
  constructor
  · rintro ⟨v, h⟩; exact List.mem_map.mpr ⟨_, flook_mem h, rfl⟩
  · intro h
    obtain ⟨p, hp, e⟩ := List.mem_map.mp h
    unfold flook
    cases hf : m.find? (fun p => decide (p.1 = n)) with
    | none => exact absurd (decide_eq_true e) (List.find?_eq_none.mp hf p hp)
    | some q => exact ⟨q.2, rfl⟩
theorem flook_none {m : FM} {n : Str} : flook m n = none ↔ n ∉ fkeys m := by
  rw [← flook_some]
  cases flook m n with
  | none => simp
  | some v => simp
theorem flook_of {m : FM} (nd : (fkeys m).Nodup) {n : Str} {v : Int} (h : (n, v) ∈ m) : flook m n = some v := by
  induction m with
  | nil => cases h
  | cons p m ih =>
    rw [fkeys, List.map_cons, List.nodup_cons] at nd
    unfold flook
    rw [List.find?_cons]
    rcases List.mem_cons.mp h with e | h
    · subst e; simp
    · have : p.1 ≠ n := fun e => nd.1 (by rw [e]; exact List.mem_map.mpr ⟨_, h, rfl⟩)
      rw [decide_eq_false this]
      exact ih nd.2 h
theorem fkeys_put (m : FM) (n : Str) (v : Int) : fkeys (fput m n v) = if n ∈ fkeys m then fkeys m else fkeys m ++ [n] := by
  unfold fput
  by_cases c : (m.any fun p => decide (p.1 = n)) = true
  · rw [if_pos c, if_pos (by obtain ⟨p, hp, e⟩ := List.any_eq_true.mp c; exact List.mem_map.mpr ⟨p, hp, of_decide_eq_true e⟩)]
    unfold fkeys
    rw [List.map_map]
    refine List.map_congr_left fun p _ => ?_
    show (if p.1 = n then (p.1, v) else p).1 = p.1
    split <;> rfl
  · rw [if_neg c, if_neg (fun h => c (by obtain ⟨p, hp, e⟩ := List.mem_map.mp h; exact List.any_eq_true.mpr ⟨p, hp, decide_eq_true e⟩))]
    unfold fkeys
    rw [List.map_append]; rfl
theorem fkeys_put_nd {m : FM} (nd : (fkeys m).Nodup) (n : Str) (v : Int) : (fkeys (fput m n v)).Nodup := by
  rw [fkeys_put]
  split
  · exact nd
  · rename_i h
    exact List.nodup_append.mpr ⟨nd, by simp, fun a ha b hb => by rw [List.mem_singleton.mp hb]; exact fun e => h (e ▸ ha)⟩
theorem mem_fkeys_put {m : FM} {n k : Str} {v : Int} : k ∈ fkeys (fput m n v) ↔ k = n ∨ k ∈ fkeys m := by
  rw [fkeys_put]
  split
  · rename_i h; exact ⟨.inr, fun z => z.elim (fun e => e ▸ h) id⟩
  · rw [List.mem_append, List.mem_singleton]; exact ⟨fun z => z.elim .inr .inl, fun z => z.elim .inr .inl⟩
theorem fkeys_del (m : FM) (n : Str) : fkeys (fdel m n) = (fkeys m).filter fun k => decide (k ≠ n) := by
  unfold fkeys fdel
  rw [List.filter_map]; rfl
theorem nodup_sub_len {α : Type} [DecidableEq α] : ∀ {l1 l2 : List α}, l1.Nodup → (∀ a ∈ l1, a ∈ l2) → l1.length ≤ l2.length
  | [], _, _, _ => Nat.zero_le _
  | a :: l1, l2, nd, h => by
    rw [List.nodup_cons] at nd
    have ha : a ∈ l2 := h a (List.mem_cons_self ..)
    have := nodup_sub_len (l1 := l1) (l2 := l2.erase a) nd.2 fun b hb => (List.mem_erase_of_ne (fun e : b = a => nd.1 (by rw [← e]; exact hb))).mpr (h b (List.mem_cons_of_mem _ hb))
    rw [List.length_erase_of_mem ha] at this
    have hp : 0 < l2.length := List.length_pos_of_mem ha
    rw [List.length_cons]
    omega
abbrev Edge := Str → Str → Int → Prop
inductive Walk (E : Edge) (s : Str) : Str → Int → Prop
  | nil : Walk E s s 0
  | step {u v : Str} {x c : Int} : Walk E s u x → E u v c → Walk E s v (x + c)
structure DM (E : Edge) (s : Str) (f : Str → Option Int) : Prop where
  at0 : f s = some 0
  feas : ∀ u v c x, E u v c → f u = some x → ∃ y, f v = some y ∧ y ≤ x + c
  walk : ∀ v y, f v = some y → Walk E s v y
theorem walk_nonneg {E : Edge} {s v : Str} {y : Int} (hc : ∀ u v c, E u v c → 0 ≤ c) (w : Walk E s v y) : 0 ≤ y := by
  induction w with
  | nil => exact Int.le_refl _
  | step _ e ih => have := hc _ _ _ e; omega
theorem DM.congr {E E' : Edge} {s : Str} {f : Str → Option Int} (h : DM E s f) (he : ∀ u v c, E u v c ↔ E' u v c) : DM E' s f := by
  refine ⟨h.at0, fun u v c x e => h.feas u v c x ((he u v c).mpr e), fun v y hv => ?_⟩
  have : ∀ {v y}, Walk E s v y → Walk E' s v y := fun w => by
    induction w with
    | nil => exact .nil
    | step _ e ih => exact .step ih ((he _ _ _).mp e)
  exact this (h.walk v y hv)
structure DJ (names : List Str) (E Ed : Edge) (s : Str) (least ahead : FM) : Prop where
  nl : (fkeys least).Nodup
  na : (fkeys ahead).Nodup
  dis : ∀ n, n ∈ fkeys least → n ∉ fkeys ahead
  sl : ∀ n ∈ fkeys least, n ∈ names
  sa : ∀ n ∈ fkeys ahead, n ∈ names
  wl : ∀ n x, flook least n = some x → Walk E s n x
  wa : ∀ n x, flook ahead n = some x → Walk E s n x
  s0 : flook least s = some 0 ∨ flook ahead s = some 0
  edge : ∀ u x v c, flook least u = some x → Ed u v c → (∃ y, flook least v = some y ∧ y ≤ x + c) ∨ ∃ y, flook ahead v = some y ∧ y ≤ x + c
  mono : ∀ u x v y, flook least u = some x → flook ahead v = some y → x ≤ y
theorem DJ.init {names : List Str} {E : Edge} {s : Str} (hs : s ∈ names) : DJ names E E s [] [(s, 0)] := by
  have l0 : ∀ n, flook [] n = none := fun _ => rfl
  have l1 : flook [(s, 0)] s = some 0 := by unfold flook; simp
  refine ⟨.nil, by simp, fun n h => (by cases h), fun n h => (by cases h), fun n h => (by rw [List.mem_singleton.mp h]; exact hs), fun n x h => (by rw [l0] at h; cases h), fun n x h => ?_, .inr l1, fun u x v c h => (by rw [l0] at h; cases h), fun u x v y h => (by rw [l0] at h; cases h)⟩
  have := flook_mem h
  rw [List.mem_singleton] at this
  cases this
  exact .nil
theorem DJ.take {names : List Str} {E : Edge} {s p : Str} {m : Int} {least ahead : FM} (h : DJ names E E s least ahead) (hp : flook ahead p = some m) (hm : ∀ v y, flook ahead v = some y → m ≤ y) :
    DJ names E (fun u v c => E u v c ∧ u ≠ p) s (fput least p m) (fdel ahead p) ∧ (∀ u x, flook (fput least p m) u = some x → x ≤ m) := by
  have hpa : p ∈ fkeys ahead := flook_some.mp ⟨m, hp⟩
  have hpl : p ∉ fkeys least := fun e => h.dis p e hpa
  refine ⟨⟨fkeys_put_nd h.nl _ _, ?_, fun n hn => ?_, fun n hn => ?_, fun n hn => ?_, fun n x hn => ?_, fun n x hn => ?_, ?_, fun u x v c hu he => ?_, fun u x v y hu hv => ?_⟩, fun u x hu => ?_⟩
  · rw [fkeys_del]; exact h.na.filter _
  · rw [fkeys_del, List.mem_filter]
    rintro ⟨h1, h2⟩
    rcases mem_fkeys_put.mp hn with e | e
    · exact of_decide_eq_true h2 e
    · exact h.dis n e h1
  · rcases mem_fkeys_put.mp hn with e | e
    · rw [e]; exact h.sa p hpa
    · exact h.sl n e
  · rw [fkeys_del, List.mem_filter] at hn; exact h.sa n hn.1
  · rw [flook_put] at hn
    split at hn
    · rename_i e; cases hn; rw [e]; exact h.wa p _ hp
    · exact h.wl n x hn
  · rw [flook_del] at hn
    split at hn
    · cases hn
    · exact h.wa n x hn
  · rw [flook_put, flook_del]
    by_cases e : s = p
    · rw [if_pos e]
      refine .inl ?_
      rcases h.s0 with z | z
      · exact absurd (flook_some.mp ⟨_, z⟩) (e ▸ hpl)
      · rw [e, hp] at z; exact z
    · rw [if_neg e, if_neg e]; exact h.s0
  · obtain ⟨he, hne⟩ := he
    rw [flook_put, if_neg hne] at hu
    rcases h.edge u x v c hu he with ⟨y, hy, le⟩ | ⟨y, hy, le⟩
    · refine .inl ⟨y, ?_, le⟩
      rw [flook_put, if_neg (fun e : v = p => hpl (flook_some.mp ⟨y, by rw [← e]; exact hy⟩))]; exact hy
    · by_cases e : v = p
      · refine .inl ⟨y, ?_, le⟩
        rw [flook_put, if_pos e]
        rw [e, hp] at hy; exact hy
      · exact .inr ⟨y, by rw [flook_del, if_neg e]; exact hy, le⟩
  · rw [flook_del] at hv
    split at hv
    · cases hv
    · rw [flook_put] at hu
      split at hu
      · cases hu; exact hm v y hv
      · exact h.mono u x v y hu hv
  · rw [flook_put] at hu
    split at hu
    · cases hu; exact Int.le_refl _
    · exact h.mono u x p m hu hp
theorem DJ.look {names : List Str} {E Ed : Edge} {s p v : Str} {m c : Int} {least ahead : FM} (h : DJ names E Ed s least ahead) (hp : flook least p = some m) (hm : ∀ u x, flook least u = some x → x ≤ m) (he : E p v c) (hE : ∀ u v c, E u v c → 0 ≤ c) (hv : v ∈ names) :
    (∀ y, flook least v = some y → DJ names E (fun u w d => Ed u w d ∨ (u = p ∧ w = v ∧ d = c)) s least ahead) ∧
    (flook least v = none → DJ names E (fun u w d => Ed u w d ∨ (u = p ∧ w = v ∧ d = c)) s least (fput ahead v (if (flook ahead v).getD (m + c) < m + c then (flook ahead v).getD (m + c) else m + c))) := by
  have hc : 0 ≤ c := hE _ _ _ he
  refine ⟨fun y hy => ⟨h.nl, h.na, h.dis, h.sl, h.sa, h.wl, h.wa, h.s0, fun u x w d hu hd => ?_, h.mono⟩, fun hn => ?_⟩
  · rcases hd with hd | ⟨rfl, rfl, rfl⟩
    · exact h.edge u x w d hu hd
    · rw [hp] at hu; cases hu
      exact .inl ⟨y, hy, by have := hm _ _ hy; omega⟩
  · obtain ⟨z, hz⟩ : ∃ z, z = (if (flook ahead v).getD (m + c) < m + c then (flook ahead v).getD (m + c) else m + c) := ⟨_, rfl⟩
    rw [← hz]
    have z1 : z ≤ m + c := by rw [hz]; split <;> omega
    have z2 : m ≤ z := by
      rw [hz]
      cases ha : flook ahead v with
      | none => simp; omega
      | some y => have := h.mono p m v y hp ha; simp only [Option.getD_some]; split <;> omega
    have z3 : ∀ y, flook ahead v = some y → z ≤ y := fun y ha => by rw [hz, ha]; simp only [Option.getD_some]; split <;> omega
    have z4 : Walk E s v z := by
      have w1 : Walk E s v (m + c) := .step (h.wl p m hp) he
      rw [hz]
      cases ha : flook ahead v with
      | none => simpa using w1
      | some y => simp only [Option.getD_some]; split; exact h.wa v y ha; exact w1
    have hvl : v ∉ fkeys least := flook_none.mp hn
    refine ⟨h.nl, fkeys_put_nd h.na _ _, fun n hl ha => ?_, h.sl, fun n hn' => ?_, h.wl, fun n x hx => ?_, ?_, fun u x w d hu hd => ?_, fun u x w y hu hy => ?_⟩
    · rcases mem_fkeys_put.mp ha with e | e
      · exact hvl (e ▸ hl)
      · exact h.dis n hl e
    · rcases mem_fkeys_put.mp hn' with e | e
      · rw [e]; exact hv
      · exact h.sa n e
    · rw [flook_put] at hx
      split at hx
      · rename_i e; cases hx; rw [e]; exact z4
      · exact h.wa n x hx
    · rcases h.s0 with e | e
      · exact .inl e
      · refine .inr ?_
        rw [flook_put]
        split
        · rename_i es
          rw [es] at e
          have le := z3 0 e
          have m0 : 0 ≤ m := walk_nonneg hE (h.wl p m hp)
          congr 1; omega
        · exact e
    · have up : ∀ y, flook ahead w = some y → y ≤ x + d → ∃ y, flook (fput ahead v z) w = some y ∧ y ≤ x + d := fun y hy le => by
        rw [flook_put]
        by_cases e : w = v
        · rw [if_pos e]; exact ⟨z, rfl, by have := z3 y (e ▸ hy); omega⟩
        · rw [if_neg e]; exact ⟨y, hy, le⟩
      rcases hd with hd | ⟨rfl, rfl, rfl⟩
      · rcases h.edge u x w d hu hd with ⟨y, hy, le⟩ | ⟨y, hy, le⟩
        · exact .inl ⟨y, hy, le⟩
        · exact .inr (up y hy le)
      · rw [hp] at hu; cases hu
        exact .inr ⟨z, by rw [flook_put, if_pos rfl], z1⟩
    · rw [flook_put] at hy
      split at hy
      · cases hy; have := hm u x hu; omega
      · exact h.mono u x w y hu hy
theorem DJ.done {names : List Str} {E : Edge} {s : Str} {least : FM} (h : DJ names E E s least []) : DM E s (flook least) := by
  refine ⟨h.s0.resolve_right (fun e => by cases e), fun u v c x he hu => ?_, h.wl⟩
  rcases h.edge u x v c hu he with r | ⟨y, hy, _⟩
  · exact r
  · cases hy
theorem DJ.mon {names : List Str} {E Ed Ed' : Edge} {s : Str} {least ahead : FM} (h : DJ names E Ed s least ahead) (hi : ∀ u v c, Ed' u v c → Ed u v c) : DJ names E Ed' s least ahead :=
  ⟨h.nl, h.na, h.dis, h.sl, h.sa, h.wl, h.wa, h.s0, fun u x v c hu he => h.edge u x v c hu (hi u v c he), h.mono⟩
def Re (S S' : Sto) : Prop := ∀ K H, Rel K S H → Nx S H S' H ∧ Rel K S' H
def dRe (te : DE') : DE' := fun ω S Q => te ω S fun w S1 => ∃ S2, Re S1 S2 ∧ Q w S2
theorem de_re {X : Cx} {Z : WX} {e : Expr} {te : DE'} (h : DE X Z e te) : DE X Z e (dRe te) := PE.im h fun σ H Q ⟨ω, S, Qd, a, h, fi⟩ => ⟨ω, S, _, a, h, fun w S1 v H1 x1 r1 q1 ⟨S2, re, hq⟩ => by
  obtain ⟨x2, r2⟩ := re _ _ r1
  exact fi w S2 v H1 (x1.trans x2) r2 (q1.mono x2) hq⟩
def stL (S : Sto) (l : Addr) (ks : List Key) (qs : List Addr) (ls : List (List W)) : Sto := fun a => if a = l then some (.dK (ks.zip (qs.map W.ref))) else match (qs.zip ls).lookup a with
  | some x => some (.lst x)
  | none => S a
theorem look_zip {β : Type} {qs : List Addr} {ls : List β} (nd : qs.Nodup) {i : Nat} {q : Addr} {x : β} (hq : qs[i]? = some q) (hx : ls[i]? = some x) : (qs.zip ls).lookup q = some x := by
  induction qs generalizing ls i with
  | nil => simp at hq
  | cons a qs ih =>
    rw [List.nodup_cons] at nd
    cases ls with
    | nil => simp at hx
    | cons b ls =>
      rw [List.zip_cons_cons, List.lookup_cons]
      cases i with
      | zero => simp at hq hx; subst hq; subst hx; simp
      | succ i =>
        have hq' : qs[i]? = some q := by simpa using hq
        have hne : q ≠ a := fun e => nd.1 (e ▸ List.mem_of_getElem? hq')
        rw [beq_eq_false_iff_ne.mpr hne]
        exact ih nd.2 hq' (by simpa using hx)
theorem look_zip_none {β : Type} {qs : List Addr} {ls : List β} {a : Addr} (h : a ∉ qs) : (qs.zip ls).lookup a = none := by
  induction qs generalizing ls with
  | nil => rfl
  | cons b qs ih =>
    cases ls with
    | nil => rfl
    | cons c ls =>
      rw [List.zip_cons_cons, List.lookup_cons, beq_eq_false_iff_ne.mpr (fun e : a = b => h (by rw [e]; exact List.mem_cons_self ..))]
      exact ih fun hm => h (List.mem_cons_of_mem _ hm)
section
variable {S : Sto} {l : Addr} {ks : List Key} {qs : List Addr} {ls : List (List W)}
theorem stL_l : stL S l ks qs ls l = some (.dK (ks.zip (qs.map W.ref))) := by unfold stL; rw [if_pos rfl]
theorem stL_q (hl : l ∉ qs) (nd : qs.Nodup) {i : Nat} {q : Addr} {x : List W} (hq : qs[i]? = some q) (hx : ls[i]? = some x) : stL S l ks qs ls q = some (.lst x) := by
  have e : q ≠ l := fun e => hl (e ▸ List.mem_of_getElem? hq)
  unfold stL
  rw [if_neg e, look_zip nd hq hx]
theorem stL_o {a : Addr} (h1 : a ≠ l) (h2 : a ∉ qs) : stL S l ks qs ls a = S a := by
  unfold stL
  rw [if_neg h1, look_zip_none h2]
theorem stL_none {a : Addr} (he : qs.length = ls.length) (nd : qs.Nodup) (h : stL S l ks qs ls a = none) : a ≠ l ∧ a ∉ qs ∧ S a = none := by
  have h1 : a ≠ l := fun e => by subst e; rw [stL_l] at h; cases h
  have h2 : a ∉ qs := fun hm => by
    obtain ⟨i, hi⟩ := List.getElem?_of_mem hm
    have hlt : i < ls.length := by rw [← he]; exact (List.getElem?_eq_some_iff.mp hi).1
    unfold stL at h
    rw [if_neg h1, look_zip nd hi (List.getElem?_eq_getElem hlt)] at h
    cases h
  exact ⟨h1, h2, by rw [stL_o h1 h2] at h; exact h⟩
theorem stL_up (he : qs.length = ls.length) (hl : l ∉ qs) (nd : qs.Nodup) {i : Nat} {q : Addr} {x : List W} (hq : qs[i]? = some q) : up (stL S l ks qs ls) q (.lst x) = stL S l ks qs (ls.set i x) := by
  funext a
  have e : q ≠ l := fun e => hl (e ▸ List.mem_of_getElem? hq)
  by_cases c : a = q
  · subst c
    rw [up_same, stL_q hl nd hq (List.getElem?_set_self (by rw [← he]; exact (List.getElem?_eq_some_iff.mp hq).1))]
  · rw [up_ne c]
    by_cases c2 : a = l
    · subst c2; rw [stL_l, stL_l]
    · unfold stL
      rw [if_neg c2, if_neg c2]
      by_cases hm : a ∈ qs
      · obtain ⟨j, hj⟩ := List.getElem?_of_mem hm
        have hji : i ≠ j := fun e => by subst e; rw [hq] at hj; exact c (Option.some.inj hj).symm
        have hjl : j < ls.length := by rw [← he]; exact (List.getElem?_eq_some_iff.mp hj).1
        rw [look_zip nd hj (List.getElem?_eq_getElem hjl), look_zip nd hj (x := ls[j]) (by rw [List.getElem?_set_ne hji]; exact List.getElem?_eq_getElem hjl)]
      · rw [look_zip_none hm, look_zip_none hm]
theorem stL_re (he : ks.length = qs.length) (he2 : qs.length = ls.length) (nd : qs.Nodup) (hl : l ∉ qs) (hS : S l = none) (hQ : ∀ q ∈ qs, S q = none) : Re (stL S l ks qs ls) (up S l (.dK (ks.zip (ls.map W.lst)))) := by
  intro K H r
  have x : Nx (stL S l ks qs ls) H (up S l (.dK (ks.zip (ls.map W.lst)))) H := ⟨fun _ _ h _ => h, fun b o _ n => by
    obtain ⟨h1, h2, h3⟩ := stL_none he2 nd n
    rw [up_ne h1]; exact h3⟩
  refine ⟨x, fun a o ha => ?_⟩
  by_cases c : a = l
  · subst c
    rw [up_same] at ha
    cases ha
    cases r _ _ stL_l with
    | @dK _ gs hH rp =>
      refine .dK hH ?_
      have key : ∀ (ks' : List Key) (qs' : List Addr) (ls' : List (List W)) (gs' : List (Key × V)), qs'.length = ls'.length → (∀ (i : Nat) q l', qs'[i]? = some q → ls'[i]? = some l' → q ∈ qs ∧ stL S a ks qs ls q = some (.lst l')) → RWp K (stL S a ks qs ls) H (ks'.zip (qs'.map W.ref)) gs' → RWp K (up S a (.dK (ks.zip (ls.map W.lst)))) H (ks'.zip (ls'.map W.lst)) gs' := by
        intro ks'
        induction ks' with
        | nil => intro qs' ls' gs' _ _ h; cases h; exact .nil
        | cons k ks' ih =>
          intro qs' ls' gs' el hq h
          cases qs' with
          | nil => cases ls' with
            | nil => cases h; exact .nil
            | cons _ _ => cases el
          | cons q qs' => cases ls' with
            | nil => cases el
            | cons l' ls' =>
              rw [List.map_cons, List.zip_cons_cons] at h ⊢
              cases h with
              | @cons _ g _ gs'' h1 t =>
                obtain ⟨e1, rq⟩ := h1
                obtain ⟨hm, hst⟩ := hq 0 q l' rfl rfl
                refine .cons ⟨e1, ?_⟩ (ih qs' ls' gs'' (by simpa using el) (fun i q l' h1 h2 => hq (i + 1) q l' (by simpa using h1) (by simpa using h2)) t)
                obtain ⟨g1, g2⟩ := g
                simp only at rq
                cases rq
                cases r _ _ hst with
                | lst hh rr => exact .lst hh (by rw [up_ne (fun e : q = a => hl (by rw [← e]; exact hm))]; exact hQ q hm) (rr.mono x)
      exact key ks qs ls gs he2 (fun i q l' h1 h2 => ⟨List.mem_of_getElem? h1, stL_q hl nd h1 h2⟩) rp
  · rw [up_ne c] at ha
    have hnq : a ∉ qs := fun hm => by rw [hQ a hm] at ha; cases ha
    have h1 : stL S l ks qs ls a = some o := by rw [stL_o c hnq]; exact ha
    refine (r _ _ h1).mono x rfl fun d hd => ?_
    have d1 : d ≠ l := fun e => by subst e; rw [stL_l] at hd; cases hd
    have d2 : d ∉ qs := fun hm => by
      obtain ⟨i, hi⟩ := List.getElem?_of_mem hm
      have hlt : i < ls.length := by rw [← he2]; exact (List.getElem?_eq_some_iff.mp hi).1
      rw [stL_q hl nd hi (List.getElem?_eq_getElem hlt)] at hd
      cases hd
    rw [up_ne d1]
    rw [stL_o d1 d2] at hd
    exact hd
end
abbrev pairIS (e : Int × Str) : W := .tup [.int e.1, .str e.2]
theorem dlt_pair {a b : Int} {n k : Str} (h : a ≠ b) : PySem.W.dataLt (pd (pairIS (a, n))) (pd (pairIS (b, k))) = decide (a < b) := by
  show PySem.W.dataLt (.tuple [.int a, .str n]) (.tuple [.int b, .str k]) = _
  rw [PySem.W.dataLt_pair (by simp [PySem.W.alike]) (by simp [PySem.W.alike])]
  have : PyData.eqv (.int a) (.int b) = false := by rw [PyData.eqv]; simpa using h
  rw [this]
  simp only [Bool.false_eq_true, if_false]
  exact PySem.W.dataLt_int a b
theorem min_pairs {x : Int × Str} {xs : List (Int × Str)} : ∃ e ∈ x :: xs, PySem.W.minD (pd (pairIS x)) (pds (xs.map pairIS)) = pd (pairIS e) ∧ ∀ f ∈ x :: xs, e.1 ≤ f.1 := by
  have gen : ∀ (ys : List (Int × Str)) (x : Int × Str), ∃ e ∈ x :: ys, (pds (ys.map pairIS)).foldl (fun a y => if PySem.W.dataLt y a then y else a) (pd (pairIS x)) = pd (pairIS e) ∧ ∀ f ∈ x :: ys, e.1 ≤ f.1 := by
    intro ys
    induction ys with
    | nil => intro x; exact ⟨x, List.mem_cons_self .., rfl, fun f hf => by rw [List.mem_singleton.mp hf]; exact Int.le_refl _⟩
    | cons y ys ih =>
      intro x
      rw [List.map_cons, pds, List.foldl_cons]
      by_cases c : PySem.W.dataLt (pd (pairIS y)) (pd (pairIS x)) = true
      · rw [if_pos c]
        obtain ⟨e, he, h1, h2⟩ := ih y
        have hyx : y.1 ≤ x.1 := by
          by_cases q : y.1 = x.1
          · omega
          · have := dlt_pair (n := y.2) (k := x.2) q
            rw [show (pairIS (y.1, y.2)) = pairIS y from rfl, show (pairIS (x.1, x.2)) = pairIS x from rfl, c] at this
            have := of_decide_eq_true this.symm
            omega
        refine ⟨e, List.mem_cons_of_mem _ he, h1, fun f hf => ?_⟩
        rcases List.mem_cons.mp hf with rfl | hf
        · have := h2 y (List.mem_cons_self ..); omega
        · exact h2 f hf
      · rw [if_neg c]
        obtain ⟨e, he, h1, h2⟩ := ih x
        have hxy : x.1 ≤ y.1 := by
          by_cases q : y.1 = x.1
          · omega
          · have := dlt_pair (n := y.2) (k := x.2) q
            rw [show (pairIS (y.1, y.2)) = pairIS y from rfl, show (pairIS (x.1, x.2)) = pairIS x from rfl, Bool.eq_false_iff.mpr c] at this
            have := of_decide_eq_false this.symm
            omega
        refine ⟨e, ?_, h1, fun f hf => ?_⟩
        · rcases List.mem_cons.mp he with rfl | he
          · exact List.mem_cons_self ..
          · exact List.mem_cons_of_mem _ (List.mem_cons_of_mem _ he)
        · rcases List.mem_cons.mp hf with rfl | hf
          · exact h2 f (List.mem_cons_self ..)
          · rcases List.mem_cons.mp hf with rfl | hf
            · have := h2 x (List.mem_cons_self ..); omega
            · exact h2 f (List.mem_cons_of_mem _ hf)
  exact gen xs x
theorem pd_pair {e f : Int × Str} (h : pd (pairIS e) = pd (pairIS f)) : e = f := by
  have h : PyData.tuple [.int e.1, .str e.2] = PyData.tuple [.int f.1, .str f.2] := h
  simp only [PyData.tuple.injEq, List.cons.injEq, PyData.int.injEq, PyData.str.injEq, and_true] at h
  exact Prod.ext h.1 h.2
theorem alike_pairs (xs : List (Int × Str)) : PySem.W.AlikeAll (pds (xs.map pairIS)) := by
  rw [pds_map, List.map_map]
  constructor
  · intro a ha b hb
    obtain ⟨e, _, rfl⟩ := List.mem_map.mp ha
    obtain ⟨f, _, rfl⟩ := List.mem_map.mp hb
    show PySem.W.alike (.tuple [.int e.1, .str e.2]) (.tuple [.int f.1, .str f.2]) = true
    simp [PySem.W.alike, PySem.W.alikeAll]
  · intro a ha
    obtain ⟨e, _, rfl⟩ := List.mem_map.mp ha
    exact fun h => nomatch h
def slowB (h : Int) : Bool := decide (h = 7 ∨ h = 8 ∨ h = 16 ∨ h = 17)
def cost (h : Int) (r : Rd4) : Int := if slowB h = true then r.m + r.s else r.m
def shutW : Option (List Int) → W
  | none => .non
  | some ns => .lst (ns.map W.int)
def shutB (o : Option (List Int)) (i : Nat) : Bool := match o with
  | none => false
  | some ns => decide ((i : Int) ∈ ns)
def rdE (rs : List Rd4) (h : Int) (o : Option (List Int)) : Edge := fun u v c => ∃ (i : Nat) (r : Rd4), rs[i]? = some r ∧ shutB o i = false ∧ c = cost h r ∧ ((r.a = u ∧ r.b = v) ∨ (r.a = v ∧ r.b = u))
def adjE (names : List Str) (ls : List (List (Str × Int))) : Edge := fun u v c => ∃ (i : Nat) (l : List (Str × Int)), names[i]? = some u ∧ ls[i]? = some l ∧ (v, c) ∈ l
abbrev stepW (e : Str × Int) : W := .tup [.str e.1, .int e.2]
abbrev stepsW (l : List (Str × Int)) : List W := l.map stepW
def linksW (names : List Str) (ls : List (List (Str × Int))) : W := .dct (names.map Sum.inr) (ls.map fun l => .lst (stepsW l))
def fmW (m : FM) : W := .dct (m.map fun p => Sum.inr p.1) (m.map fun p => .int p.2)
theorem slow_any (S : Sto) (h : Int) : inW S (.int h) (.tup [.int 7, .int 8, .int 16, .int 17]) = some (slowB h) := by
  rw [inW_tup rfl rfl]
  congr 1
  simp only [List.any_cons, List.any_nil, weq_int, Bool.or_false]
  unfold slowB
  by_cases h7 : h = 7
  · subst h7; rfl
  by_cases h8 : h = 8
  · subst h8; rfl
  by_cases h16 : h = 16
  · subst h16; rfl
  by_cases h17 : h = 17
  · subst h17; rfl
  rw [decide_eq_false (fun e => h7 e.symm), decide_eq_false (fun e => h8 e.symm), decide_eq_false (fun e => h16 e.symm), decide_eq_false (fun e => h17 e.symm), decide_eq_false (by rintro (e | e | e | e); exact h7 e; exact h8 e; exact h16 e; exact h17 e)]
  rfl
theorem okD_ints (ns : List Int) : okD (.lst (ns.map W.int)) = true := (ND.lst (n := 0) fun w hw => by
  obtain ⟨i, _, rfl⟩ := List.mem_map.mp hw
  exact .int i).ok (by decide)
theorem any_ints (ns : List Int) (i : Int) : ((ns.map W.int).any fun y => weq y (.int i)) = decide (i ∈ ns) := by
  induction ns with
  | nil => rfl
  | cons n ns ih =>
    rw [List.map_cons, List.any_cons, ih, weq_int]
    by_cases c : n = i
    · subst c; simp
    · rw [decide_eq_false c, Bool.false_or]
      by_cases c2 : i ∈ ns
      · rw [decide_eq_true c2, decide_eq_true (List.mem_cons_of_mem _ c2)]
      · rw [decide_eq_false c2, decide_eq_false (fun z => (List.mem_cons.mp z).elim (fun e => c e.symm) c2)]
theorem shut_in (S : Sto) (ns : List Int) (i : Int) : inW S (.int i) (.lst (ns.map W.int)) = some (decide (i ∈ ns)) := by rw [inW_lst rfl (okD_ints ns), any_ints]
theorem wval_at {ks : List Str} {ws : List W} (nd : ks.Nodup) {i : Nat} {n : Str} {w : W} (hk : ks[i]? = some n) (hw : ws[i]? = some w) : wval ((ks.map Sum.inr : List Key).zip ws) (Sum.inr n) = some w := by
  induction ks generalizing ws i with
  | nil => simp at hk
  | cons k ks ih =>
    rw [List.nodup_cons] at nd
    cases ws with
    | nil => simp at hw
    | cons v ws =>
      unfold wval
      rw [List.map_cons, List.zip_cons_cons, List.find?_cons]
      cases i with
      | zero => simp at hk hw; subst hk; subst hw; simp
      | succ i =>
        have hk' : ks[i]? = some n := by simpa using hk
        have hne : k ≠ n := fun e => nd.1 (e ▸ List.mem_of_getElem? hk')
        have : decide ((Sum.inr k : Key) = Sum.inr n) = false := by simpa using hne
        simp only [this]
        exact ih nd.2 hk' (by simpa using hw)
theorem adjE_set {names : List Str} {ls : List (List (Str × Int))} (nd : names.Nodup) (he : names.length = ls.length) {i : Nat} {n : Str} {l : List (Str × Int)} {e : Str × Int} (hn : names[i]? = some n) (hl : ls[i]? = some l) (u v : Str) (c : Int) :
    adjE names (ls.set i (l ++ [e])) u v c ↔ adjE names ls u v c ∨ (u = n ∧ e = (v, c)) := by
  have hlt : i < ls.length := (List.getElem?_eq_some_iff.mp hl).1
  constructor
  · rintro ⟨j, l', h1, h2, h3⟩
    by_cases c' : i = j
    · subst c'
      rw [List.getElem?_set_self hlt] at h2
      cases h2
      rw [hn] at h1
      cases h1
      rcases List.mem_append.mp h3 with h3 | h3
      · exact .inl ⟨i, l, hn, hl, h3⟩
      · exact .inr ⟨rfl, (List.mem_singleton.mp h3).symm⟩
    · rw [List.getElem?_set_ne c'] at h2
      exact .inl ⟨j, l', h1, h2, h3⟩
  · rintro (⟨j, l', h1, h2, h3⟩ | ⟨rfl, rfl⟩)
    · by_cases c' : i = j
      · subst c'
        rw [hl] at h2
        cases h2
        exact ⟨i, _, h1, List.getElem?_set_self hlt, List.mem_append_left _ h3⟩
      · exact ⟨j, l', h1, by rw [List.getElem?_set_ne c']; exact h2, h3⟩
    · exact ⟨i, _, hn, List.getElem?_set_self hlt, List.mem_append_right _ (List.mem_singleton.mpr rfl)⟩
theorem rdE_take {rs : List Rd4} {h : Int} {o : Option (List Int)} {i : Nat} {r : Rd4} (hr : rs[i]? = some r) (u v : Str) (c : Int) :
    rdE (rs.take (i + 1)) h o u v c ↔ rdE (rs.take i) h o u v c ∨ (shutB o i = false ∧ c = cost h r ∧ ((r.a = u ∧ r.b = v) ∨ (r.a = v ∧ r.b = u))) := by
  have hlt : i < rs.length := (List.getElem?_eq_some_iff.mp hr).1
  constructor
  · rintro ⟨j, r', h1, h2⟩
    rw [List.getElem?_take] at h1
    split at h1
    · by_cases e : j = i
      · subst e
        rw [hr] at h1
        cases h1
        exact .inr h2
      · exact .inl ⟨j, r', by rw [List.getElem?_take, if_pos (by omega)]; exact h1, h2⟩
    · cases h1
  · rintro (⟨j, r', h1, h2⟩ | h2)
    · rw [List.getElem?_take] at h1
      split at h1
      · exact ⟨j, r', by rw [List.getElem?_take, if_pos (by omega)]; exact h1, h2⟩
      · cases h1
    · exact ⟨i, r, by rw [List.getElem?_take, if_pos (by omega)]; exact hr, h2⟩
theorem rdE_nn {ps : List (Str × Int)} {rs : List Rd4} (R : RsOk ps rs) {h : Int} {o : Option (List Int)} {u v : Str} {c : Int} (e : rdE rs h o u v c) : 0 ≤ c ∧ c ≤ 120 ∧ u ∈ ps.map (·.1) ∧ v ∈ ps.map (·.1) := by
  obtain ⟨i, r, hr, _, rfl, hh⟩ := e
  obtain ⟨h1, h2, _, h3, h4⟩ := R.ok r (List.mem_of_getElem? hr)
  refine ⟨?_, ?_, ?_, ?_⟩
  · unfold cost; split <;> omega
  · unfold cost; split <;> omega
  · rcases hh with ⟨e, _⟩ | ⟨_, e⟩ <;> rw [← e] <;> assumption
  · rcases hh with ⟨_, e⟩ | ⟨e, _⟩ <;> rw [← e] <;> assumption
theorem rkv_zip (m : FM) : (m.map fun p => (Sum.inr p.1 : Key)).zip (m.map fun p => W.int p.2) = rkv m := by
  unfold rkv
  induction m with
  | nil => rfl
  | cons p m ih => rw [List.map_cons, List.map_cons, List.zip_cons_cons, ih]; rfl
theorem fm_val (m : FM) (n : Str) : wval ((m.map fun p => (Sum.inr p.1 : Key)).zip (m.map fun p => W.int p.2)) (Sum.inr n) = (flook m n).map W.int := by rw [rkv_zip, wval_rkv]
theorem sv_name {x : Str} (h : isName (.str x) = true) : sv x := by
  have h : (decide (1 ≤ x.length) && decide (x.length ≤ 8) && x.cps.toList.all az) = true := h
  rw [Bool.and_eq_true, Bool.and_eq_true] at h
  refine sv_iff.mpr ⟨fun c hc => ?_, ?_⟩
  · have := List.all_eq_true.mp h.2 c hc
    unfold az at this
    rw [Bool.and_eq_true] at this
    have h2 := of_decide_eq_true this.2
    omega
  · exact Nat.le_trans (of_decide_eq_true h.1.2) (sz_of (by decide))
theorem nodup_idx {α : Type} {l : List α} (nd : l.Nodup) {i j : Nat} {x : α} (h1 : l[i]? = some x) (h2 : l[j]? = some x) : i = j := by
  have key : ∀ {i j : Nat}, l[i]? = some x → l[j]? = some x → ¬ i < j := fun {i j} h1 h2 lt => by
    refine nodup_take nd h2 ?_
    refine List.mem_of_getElem? (i := i) ?_
    rw [List.getElem?_take, if_pos lt]
    exact h1
  have := key h1 h2
  have := key h2 h1
  omega
theorem tru_v {i : Nat} {ω : Om} {S : Sto} {Q : Bool → Sto → Prop} {w : W} {b : Bool} (h : ω.s[i]? = some (some w)) (ht : tru S w = some b) (q : Q b S) : ζO (ζF i) ω S Q := by
  unfold ζO
  refine var_go h ?_
  show (match tru S w with | some b => Q b S | none => False)
  rw [ht]
  exact q
theorem tru_fm {S : Sto} {a : Addr} {m : FM} (h : S a = some (.dK (rkv m))) : tru S (.ref a) = some (!m.isEmpty) := by
  unfold tru
  rw [view_refD h]
  simp only
  cases m <;> rfl
theorem fm_pairs {m : FM} (nd : (fkeys m).Nodup) : (m.map fun p => kW (Sum.inr p.1)).map (fun w => match w with | .str n => .tup [.int ((flook m n).getD 0), .str n] | _ => .non) = (m.map fun p => (p.2, p.1)).map pairIS := by
  rw [List.map_map, List.map_map]
  refine List.map_congr_left fun p hp => ?_
  show W.tup [.int ((flook m p.1).getD 0), .str p.1] = .tup [.int p.2, .str p.1]
  rw [flook_of nd (show (p.1, p.2) ∈ m from hp)]
  rfl
theorem dcfs_all {ws : List W} (h : ∀ w ∈ ws, dcf w = true) : dcf.dcfs ws = true := by
  induction ws with
  | nil => rfl
  | cons w ws ih => rw [dcf.dcfs, h w (List.mem_cons_self ..), ih fun x hx => h x (List.mem_cons_of_mem _ hx)]; rfl
theorem look_none {fs : List (Str × W)} {m : Str} (h : m ∉ fs.map (·.1)) : fs.lookup m = none := by
  induction fs with
  | nil => rfl
  | cons p fs ih =>
    obtain ⟨k, v⟩ := p
    rw [List.map_cons, List.mem_cons, not_or] at h
    rw [List.lookup_cons, beq_eq_false_iff_ne.mpr h.1]
    exact ih h.2
theorem lcK_go {i : Nat} {T : Tg} {te : DE'} {own : List Nat} {ω : Om} {S : Sto} {Q : WQ} {p : Addr} {kvs : List (Key × W)} (hi : ω.s[i]? = some (some (.ref p))) (hS : S p = some (.dK kvs)) (hk : ∀ z ∈ kvs, svK z.1) (g : W → W) (hl : kvs.length ≤ 1000)
    (hb : ∀ z ∈ kvs, ∃ ω2, ζt T (kW z.1) (wp (ω.set i (some (.dct (kvs.map (·.1)) (kvs.map (·.2))))) own) = some ω2 ∧ ∀ (S' : Sto) (Qe : WQ), Qe (g (kW z.1)) S' → te ω2 S' Qe) (hd : ∀ z ∈ kvs, dcf (g (kW z.1)) = true) (q : Q (.lst (kvs.map fun z => g (kW z.1))) S) : dLcK i T dYes te own ω S Q := by
  refine ⟨p, kvs, hi, hS, hk, fun S1 hS1 => ?_⟩
  refine lcM (xs := kvs.map fun z => kW z.1) (ok := fun _ => True) (S1 := S1) (T := T) (te := te) (own := own) (ω := ω.set i (some (.dct (kvs.map (·.1)) (kvs.map (·.2))))) (Q := fun w S2 => dcf w = true ∧ S2 = S1 ∧ Q w S) g (by rw [List.length_map]; omega) (fun _ _ _ => trivial) (fun w hw => ?_) ⟨?_, rfl, ?_⟩
  · obtain ⟨z, hz, rfl⟩ := List.mem_map.mp hw
    obtain ⟨ω2, e, h⟩ := hb z hz
    exact ⟨ω2, e, fun p acc _ Qe h' => h _ Qe h'⟩
  · refine dcfs_all fun w hw => ?_
    rw [List.map_map] at hw
    obtain ⟨z, hz, rfl⟩ := List.mem_map.mp hw
    exact hd z hz
  · rw [List.map_map]; exact q
theorem del_go {i j : Nat} {ω : Om} {S : Sto} {D : Out} {a : Addr} {n : Str} {kvs : List (Key × W)} (hi : ω.s[i]? = some (some (.ref a))) (hj : ω.s[j]? = some (some (.str n))) (hS : S a = some (.dK kvs)) (hs : (wval kvs (Sum.inr n)).isSome = true) (k : D.nx ω (up S a (.dK (wdrop kvs (Sum.inr n))))) : dDel (ζF i) (ζF j) D ω S := by
  unfold dDel
  refine var_go hi (var_go hj ?_)
  show (match S a, wkey (.str n) with | some (.dK kvs), some k => (wval kvs k).isSome = true ∧ D.nx ω (up S a (.dK (wdrop kvs k))) | _, _ => False)
  rw [hS, wkey_str]
  exact ⟨hs, k⟩
theorem put_go {te : DE'} {i j : Nat} {ω : Om} {S : Sto} {D : Out} {a : Addr} {n : Str} {kvs : List (Key × W)} (v : W) (he : ∀ Q : WQ, Q v S → te ω S Q) (hi : ω.s[i]? = some (some (.ref a))) (hj : ω.s[j]? = some (some (.str n))) (hS : S a = some (.dK kvs)) (hl : kvs.length < 1000000) (k : D.nx ω (up S a (.dK (wput kvs (Sum.inr n) v)))) : ξe (ζF i) (ζF j) te D ω S := by
  unfold ξe
  refine he _ (var_go hi (var_go hj ?_))
  show (match S a with | some (.dK kvs) => (match wkey (.str n) with | some k => kvs.length < 1000000 ∧ D.nx ω (up S a (.dK (wput kvs k v))) | none => False) | some (.dT kvs) => _ | _ => False)
  rw [hS, wkey_str]
  exact ⟨hl, k⟩
end DL
namespace HT
open PySem PyProof.Rows
section
variable {prog : Program} {w : World} {A : Around} {E : Value → Shared → Prop} {s : Shared}
theorem sliceApplied_two {sl : Addr} {vl vu vs : Value} {st : Int} {Q : Int × Int × Nat → Shared → Prop} (hs : s.heap.IsSliceOf sl vl vu vs) (pl : IsPart vl none) (pu : IsPart vu none) (ps : IsPart vs (some st))
    (h : (st = 1 ∧ Q (0, 1, 2) s) ∨ (st = -1 ∧ Q (1, -1, 2) s)) : wpAny (model prog w) A (Builtin.Slice.sliceApplied (.ref sl) (pure ((2 : Nat) : Int))) Q E s := by
  obtain ⟨os, hos, hcs, hds⟩ := id hs
  unfold Builtin.Slice.sliceApplied Builtin.Slice.sliceFields
  refine wpAny_bind (wpAny_bind (wpAny_field hos hds (x := vl) rfl (wpAny_bind (wpAny_field hos hds (x := vu) rfl (wpAny_bind (wpAny_field hos hds (x := vs) rfl (wpAny_pure ?_)))))))
  refine wpAny_bind (slicePart_ ps ?_)
  rcases h with ⟨rfl, h⟩ | ⟨rfl, h⟩
  · show wpAny _ _ (if ((1 : Int) == 0) = true then _ else _) _ _ s
    rw [if_neg (by decide)]
    refine wpAny_bind (slicePart_ pl (wpAny_bind (slicePart_ pu (wpAny_bind (wpAny_pure ?_)))))
    exact wpAny_pure h
  · show wpAny _ _ (if ((-1 : Int) == 0) = true then _ else _) _ _ s
    rw [if_neg (by decide)]
    refine wpAny_bind (slicePart_ pl (wpAny_bind (slicePart_ pu (wpAny_bind (wpAny_pure ?_)))))
    exact wpAny_pure h
theorem getItem_two {t sl : Addr} {a b : Value} {vl vu vs : Value} {st : Int} {Q : Value → Shared → Prop} (ht : IsTup s.heap t #[a, b]) (hs : s.heap.IsSliceOf sl vl vu vs) (pl : IsPart vl none) (pu : IsPart vu none) (ps : IsPart vs (some st))
    (h : (st = 1 ∧ Q (.ref t) s) ∨ (st = -1 ∧ Q (.ref s.heap.objs.size) { s with heap := s.heap.push { cls := .type "tuple", data := .seq #[b, a] } })) : wpAny (model prog w) A (getItem (.ref t) (.ref sl)) Q E s := by
  obtain ⟨os, hos, hcs, hds⟩ := id hs
  have hTs : s.TypeIs (.ref sl) "slice" := ⟨os, hos, hcs⟩
  have htake : sizeOk (.seq #[b, a]) := by show 2 ≤ sizeLine; decide
  unfold getItem
  try with_reducible refine wpAny_holding ?_
  first | refine wpAny_bind (wpAny_pure ?_) | skip
  refine wpAny_bind (wpAny_sequenceKey ht.typeIs (by decide) ?_)
  refine wpAny_bind (wpAny_callSpecial?_slot (name := Str.ofString "__getitem__") ht.typeIs PyProof.Rows.slot_tuple_getitem
    (wpAny_call_entry PyProof.Rows.slot_tuple_getitem ht.typeIs entry_tuple_getitem ?_ (args_tuple_getitem _ _)))
  show wpAny _ _ (Builtin.Tuple.tupleItemsOf (.ref t) >>= _) _ _ s
  refine wpAny_bind (tupleItemsOf_ ht ?_)
  refine wpAny_bind (wpAny_typeOf hTs ?_)
  rw [if_pos (by decide)]
  refine wpAny_bind (sliceApplied_two hs pl pu ps ?_)
  rcases h with ⟨rfl, h⟩ | ⟨rfl, h⟩
  · refine .inl ⟨rfl, ?_⟩
    show wpAny _ _ (if (((0 : Int) == 0 && (1 : Int) == 1 && 2 == 2) = true) then _ else _) _ _ s
    rw [if_pos (by decide)]
    refine wpAny_bind ?_
    show wpAny _ _ (typeOf (.ref t) >>= fun T => pure (T == .type "tuple")) _ _ s
    refine wpAny_bind (wpAny_typeOf ht.typeIs (wpAny_pure ?_))
    first
      | rw [if_pos (by decide)]
      | simp only [beq_self_eq_true, if_true]
    first
      | exact wpAny_bind (wpAny_rule (wpAny_pure ⟨_, rfl, wpAny_pure h⟩))
      | exact wpAny_bind (wpAny_rule (wpAny_bind (wpAny_pure (wpAny_pure ⟨_, rfl, wpAny_pure h⟩))))
  · refine .inr ⟨rfl, ?_⟩
    show wpAny _ _ (if (((1 : Int) == 0 && (-1 : Int) == 1 && 2 == 2) = true) then _ else _) _ _ s
    rw [if_neg (by decide)]
    have e : ((List.range 2).filterMap fun (m : Nat) => (#[a, b] : Array Value)[((1 : Int) + (m : Int) * (-1)).toNat]?).toArray = #[b, a] := rfl
    rw [e]
    first
      | exact wpAny_bind (m := Builtin.Tuple.tupleExact _) (wpAny_newObj_type (wpAny_pure ⟨_, rfl, wpAny_pure h⟩) htake)
      | exact wpAny_bind (m := Builtin.Tuple.tupleExact _) (wpAny_newObj_type (wpAny_bind (wpAny_pure (wpAny_pure ⟨_, rfl, wpAny_pure h⟩))) htake)
      | exact wpAny_bind (wpAny_bind (m := Builtin.Tuple.tupleExact _) (wpAny_newObj_type (wpAny_pure (wpAny_pure ⟨_, rfl, wpAny_pure h⟩)) htake))
      | exact wpAny_bind (wpAny_bind (m := Builtin.Tuple.tupleExact _) (wpAny_newObj_type (wpAny_pure ⟨_, rfl, wpAny_pure h⟩) htake))
end
end HT
namespace DL
open PySem PySem.Spec PyProof.Rows L2
def dSlk2 (Q : WQ) (w : W) : WQ := fun st S2 => ∃ x y, view S2 w = .tup [x, y] ∧ ((st = .int 1 ∧ Q (.tup [x, y]) S2) ∨ (st = .int (-1) ∧ Q (.tup [y, x]) S2))
def dSlT (te ts : DE') : DE' := fun ω S Q => te ω S fun w S1 => ts ω S1 (dSlk2 Q w)
section
variable {X : Cx} {Z : WX}
theorem de_slT {e st : Expr} {te ts : DE'} {p3 pos : Pos} (he : DE X Z e te) (hs : DE X Z st ts) (hop : ∀ (v w : Value), subscripted (.Slice none none (some st) p3) false v w = operate [v, w] (getItem v w) := by intro _ _; rfl) : DE X Z (.Subscript e (.Slice none none (some st) p3) pos) (dSlT te ts) := by
  refine ⟨fun pins s σ H Q I ⟨ω, S, Qd, a, h, f⟩ => ?_⟩
  refine Subscript_ (thn (he.run pins s σ H (fun v H1 => ∃ w S1, Nx S H S1 H1 ∧ Rel X.K S1 H1 ∧ RW X.K S1 H1 w v ∧ ts ω S1 (dSlk2 Qd w)) I ⟨ω, S, _, a, h, fun w S1 v H1 x1 r1 q1 h1 => ⟨w, S1, x1, r1, q1, h1⟩⟩) fun v s1 ⟨x, H1, I1, rx, w, S1, x1, r1, q1, h1⟩ => ?_)
  refine wpAny_Slice (thn (po_none.run pins s1 σ H1 (fun o H2 => o = none ∧ H2 = H1) I1 ⟨rfl, rfl⟩) fun vl s2 ⟨l, H2, I2, pl, el, e2⟩ => ?_)
  subst el e2
  refine thn (po_none.run pins s2 σ H2 (fun o H3 => o = none ∧ H3 = H2) I2 ⟨rfl, rfl⟩) fun vu s3 ⟨u, H3, I3, pu, eu, e3⟩ => ?_
  subst eu e3
  have hst : PO X (some st) (tPart (uE X.K Z ts)) := po_some hs
  refine thn (hst.run pins s3 σ H3 (fun o H4 => ∃ S2 i y z, o = some i ∧ Nx S1 H3 S2 H4 ∧ Rel X.K S2 H4 ∧ view S2 w = .tup [y, z] ∧ ((i = 1 ∧ Qd (.tup [y, z]) S2) ∨ (i = -1 ∧ Qd (.tup [z, y]) S2))) I3 ?_) fun vs s4 ⟨o, H4, I4, ps, S2, i, y, z, eo, x2, r2, ev, hq⟩ => ?_
  · refine ⟨ω, S1, _, a.to x1 r1, h1, fun w2 S2 v2 H4 x2 r2 q2 h2 => ?_⟩
    obtain ⟨y, z, ev, ⟨rfl, h2⟩ | ⟨rfl, h2⟩⟩ := h2
    · cases q2; exact ⟨1, rfl, S2, 1, y, z, rfl, x2, r2, ev, .inl ⟨rfl, h2⟩⟩
    · cases q2; exact ⟨-1, rfl, S2, -1, y, z, rfl, x2, r2, ev, .inr ⟨rfl, h2⟩⟩
  subst eo
  have I5 : Inv X pins σ H4 { s4 with heap := s4.heap.push { cls := .type "slice", data := .fields #[vl, vu, vs] } } := I4.kept (t' := s4.toks) fun b ob q => Heap.get?_push_of_some _ q
  obtain ⟨ad, vs', rfl, h1', s1'⟩ := view_tup (q1.mono x2) ev
  have rself := view_tup_self (q1.mono x2) ev
  cases rx
  obtain ⟨c, d, rfl, rc, rd⟩ := s1'.two
  obtain ⟨its, r, ht, hz⟩ := I5.tuple h1'
  obtain ⟨u1, u2, rfl, ru1, ru2⟩ : ∃ u1 u2, its = [u1, u2] ∧ RelV c u1 ∧ RelV d u2 := by
    cases r with
    | cons h1 t => cases t with
      | cons h2 t => cases t; exact ⟨_, _, rfl, h1, h2⟩
  refine tail_any (ops := [.ref ad, .ref s4.heap.objs.size]) ht.typeIs (PyProof.Rows.slot_tuple_getitem.lookup) ?_ (by with_unfolding_all rfl)
  refine HT.getItem_two (a := u1) (b := u2) (st := i) ht (Heap.IsSliceOf.new _ vl vu vs) pl pu ps ?_
  rcases hq with ⟨rfl, q⟩ | ⟨rfl, q⟩
  · exact .inl ⟨rfl, .ref ad, H4, I5, rfl, f _ _ _ _ (x1.trans x2) r2 rself q⟩
  · refine .inr ⟨rfl, ?_⟩
    have fr := I5.hok.fresh (Nat.le_refl _)
    refine ⟨.ref _, _, I5.laid (t' := s4.toks) (o := .tup [d, c]) (fun b ob q => Heap.get?_push_of_some _ q) (Nat.le_refl _) ?_, rfl, f _ _ _ _ (x1.trans (x2.trans (Nx.new fr))) (r2.new fr) (.tup upd_same (r2.free fr) (.cons (rd.mono (Nx.new fr)) (.cons (rc.mono (Nx.new fr)) .nil))) q⟩
    exact ⟨by show 2 ≤ sizeLine; decide, _, .cons ru2 (.cons ru1 .nil), _, Heap.get?_push_size _ rfl, rfl, 0, rfl⟩
end
theorem wsort_two (a b : Int) : wsort [.int a, .int b] = if b < a then [.int b, .int a] else [.int a, .int b] := by
  unfold wsort
  have e : [W.int a, .int b].zip (pds [W.int a, .int b]) = [(W.int a, PyData.int a), (W.int b, PyData.int b)] := rfl
  rw [e]
  have e2 : ∀ le : (W × PyData) → (W × PyData) → Bool, List.mergeSort [(W.int a, PyData.int a), (W.int b, PyData.int b)] le = if le (W.int a, PyData.int a) (W.int b, PyData.int b) then [(W.int a, PyData.int a), (W.int b, PyData.int b)] else [(W.int b, PyData.int b), (W.int a, PyData.int a)] := by
    intro le
    simp [List.mergeSort, List.MergeSort.Internal.splitInTwo, List.merge]
  rw [e2]
  have e3 : PySem.W.dataLe false Prod.snd (W.int a, PyData.int a) (W.int b, PyData.int b) = !decide (b < a) := by
    rw [← PySem.W.dataLt_int b a]
    rfl
  rw [e3]
  by_cases c : b < a <;> simp [c]
theorem perm_erase {α : Type} : ∀ {xs : List α} {k : Nat} {y : α}, xs[k]? = some y → (y :: xs.eraseIdx k).Perm xs
  | [], k, y, h => by simp at h
  | x :: xs, 0, y, h => by simp at h; subst h; exact .refl _
  | x :: xs, k + 1, y, h => by
    have h' : xs[k]? = some y := by simpa using h
    exact (List.Perm.swap x y _).trans ((perm_erase h').cons x)
theorem lcRI {ti te : DE'} {T : Tg} {own : List Nat} {ω : Om} {S : Sto} {Q : WQ} {n : Int} (h : ∀ Q' : WQ, Q' (.int n) S → ti ω S Q') (hb : 0 ≤ n ∧ n ≤ 100000) (I : Nat → List W → Sto → Prop) (h0 : I 0 [] S)
    (st : ∀ (i : Nat) acc S0, i < n.toNat → acc.length = i → I i acc S0 → ∃ ω2, ζt T (.int (i : Nat)) (wp ω own) = some ω2 ∧ ∀ q, S0 q = none → ∀ Qe : WQ, (∀ v S1, I (i + 1) (acc ++ [v]) S1 → S1 q = none → Qe v (up S1 q (.lst acc))) → te ω2 (up S0 q (.lst acc)) Qe)
    (fin : ∀ acc S0, acc.length = n.toNat → I n.toNat acc S0 → Q (.lst acc) S0) : dLc (ζA (ζm ti ζR)) T dYes te own ω S Q := by
  refine h _ ⟨⟨by omega, by omega⟩, fun q hq => ⟨fun i acc S' => acc.length = i ∧ i ≤ n.toNat ∧ ∃ S0, I i acc S0 ∧ S0 q = none ∧ S' = up S0 q (.lst acc), ⟨rfl, Nat.zero_le _, S, h0, hq, rfl⟩, ?_, ?_, ?_⟩⟩
  · rintro i acc S' ⟨_, _, S0, _, _, rfl⟩
    exact ⟨trivial, up_same⟩
  · rintro i w acc S' hw ⟨hi, hi2, S0, hI, hq0, rfl⟩
    obtain ⟨hlt, rfl⟩ := irange_at hw
    obtain ⟨ω2, e, hb'⟩ := st i acc S0 hlt hi hI
    refine ⟨ω2, e, ?_⟩
    show te ω2 (up S0 q (.lst acc)) _
    refine hb' q hq0 _ fun v S1 hI1 hq1 => ⟨acc, up_same, by omega, by rw [List.length_append, hi]; rfl, hlt, S1, hI1, hq1, by rw [up_up]⟩
  · rintro acc S' ⟨hi, _, S0, hI, hq0, rfl⟩
    rw [del_new hq0]
    rw [irange_len] at hi hI
    exact fin acc S0 hi hI
theorem seqIx {r : Int} {n : Nat} (h0 : 0 ≤ r) (h1 : r < (n : Int)) : seqIndex? r n = some r.toNat := by
  unfold seqIndex?
  simp only [if_neg (show ¬ r < 0 by omega), decide_eq_true h0, decide_eq_true h1, Bool.and_self, if_true]
section
variable {X : Cx} {k : Nat}
end
def ltP (e f : Int × Str) : Prop := e.1 < f.1 ∨ (e.1 = f.1 ∧ e.2.cps.toList < f.2.cps.toList)
instance (e f : Int × Str) : Decidable (ltP e f) := by unfold ltP; infer_instance
def ltL (a b : List Str) : Prop := a.map (fun x => x.cps.toList) < b.map (fun x => x.cps.toList)
instance (a b : List Str) : Decidable (ltL a b) := by unfold ltL; infer_instance
section
variable {X : Cx} {k : Nat}
end
section
variable {X : Cx} {Z : WX} {o e f : Expr} {to ti tx : DE'} {apos cpos : Pos}
end
section
variable {X : Cx} {Z : WX} {o : Expr} {to : DE'} {apos cpos : Pos}
end
section
variable {X : Cx} {Z : WX} {tg kx vx iter : Expr} {di : DI'} {T : Tg} {tk tv : DE'} {pos : Pos} {scope : Scope} {own : List (Str × Nat)}
end
section
variable {S : Sto} {qs : List Addr} {ls : List (List W)}
end
theorem app_go {i : Nat} {te : DE'} {ω : Om} {S : Sto} {D : Out} {a : Addr} {xs : List W} (w : W) (hi : ω.s[i]? = some (some (.ref a))) (hS : S a = some (.lst xs)) (he : ∀ Q : WQ, Q w S → te ω S Q) (hl : xs.length < 1000000) (k : D.nx ω (up S a (.lst (xs ++ [w])))) : ζr (dBM ξc (ζF i) (ζm te ζR)) D ω S := by
  refine drop_go (bm_go (var_go hi ⟨isL_ref hS, he _ ?_⟩))
  simp only [ζR, ξc, hS]
  exact ⟨hl, k⟩
end DL
namespace DL
open PySem PySem.Spec PyProof.Rows L2 PpSet
end DL
namespace My
open PySem PySem.Spec PyProof.Rows L2
section
variable {prog : Program} {w : World} {A : Around} {E : Value → Shared → Prop} {s : Shared} {z TI TO i1 i2 : Addr} {fp1 fp2 : List Addr} {n1 n2 i : Nat} {P1 P2 : Nat → Value → Prop} {St1 St2 : Nat → Heap → Prop} {a1 a2 f : Value} {b : Bool}
end
end My
namespace DL
open PySem PySem.Spec PyProof.Rows L2 PpSet My
end DL
namespace DL
open PySem PySem.Spec PyProof.Rows L2
def frzX (Ed : XW) : XD := fun c fs _ S' => ∃ S2, Frz .non S' .non S2 ∧ Ed c fs S2
theorem frzX.mk {Ed : XW} {c : Value} {fs : Option (List (Str × W))} {l : List (Option W)} {S : Sto} (h : Ed c fs S) : frzX Ed c fs l S := ⟨S, .same, h⟩
theorem Xr.to {K : PySem.W.Frag} {S S' : Sto} {H H' : Hp} {fs : Option (List (Str × W))} {d : Option Addr} (x : Nx S H S' H') (h : Xr K S H fs d) : Xr K S' H' fs d := by
  cases fs <;> cases d <;> first | exact h | skip
  obtain ⟨gs, h1, n, r⟩ := h
  exact ⟨gs, x.keep _ _ h1 n, x.dom _ _ h1 n, RWp.mono x r⟩
theorem frzX.fin {K : PySem.W.Frag} {S : Sto} {H : Hp} {Ed : XW} {E : XK} (fx : FinX K S H Ed E) : FinW K (fun c d _ H' => E c d H') S H (frzX Ed) := fun c fs l S' σ' H' d x r' _ xr ⟨S2, fz, e⟩ => by
  obtain ⟨x2, r2, _⟩ := fz.ok r' .non
  exact fx c fs S2 H' d (x.trans x2) r2 (xr.to x2) e
section
variable {P : Program} {w : World} {K : PySem.W.Frag} {mg : Str → Option Value} {base : Heap}
theorem Fun.okXF {x qual : Str} {st : Stmt} {f : Addr} {fd : FuncData} {N ps : List Str} {k : Nat} {dsp : DSp} (F : Fun K x qual st f fd) (sc : FnScope N ps (defScope st)) (td : DS')
    (hb : ∀ (cdv : Value) (A : Around) (outer : List Env) (s : Shared) (H : Hp) (E : XK), Room k (A.deeper (envOfC qual (defScope st) s.heap.objs.size f cdv)) → DSs (cxOf (L2.CX P w) P w K mg base N qual (defScope st) f cdv A outer s H E) (fun c d _ H' => E c d H') (defBody st) td)
    (len : ∀ ws S Q E, dsp ws S Q E → ws.length = ps.length) (hd : ∀ ws S Q E, dsp ws S Q E → td { nx := fun _ S' => frzQ Q .non S', rt := frzQ Q } ⟨ζh N ws, frzX E⟩ S) : FnOk P w K mg base (L2.CX P w) (k + 1) f fd ps (uSp K dsp) := by
  refine F.okX sc (fun vs H Q E ⟨ws, S, Qd, Ed, r, rs, h, _⟩ => by rw [← rs.len]; exact len _ _ _ _ h) fun cdv A outer s H vs Q E hr ⟨ws, S, Qd, Ed, r, rs, h, f, fx⟩ => ⟨_, hb cdv A outer s H E hr, ?_⟩
  exact ⟨⟨ζh N ws, frzX Ed⟩, S, _, ⟨r, RS.start rs, frzX.fin fx⟩, hd ws S Qd Ed h, ⟨fun ω' S' σ' H' x a q => f.frz _ _ _ _ x a.rel .non q, f.frz, fun _ _ _ _ _ _ q => q.elim, fun _ _ _ _ _ _ q => q.elim⟩⟩
theorem FunD.okXF {x qual : Str} {st : Stmt} {f : Addr} {fd : FuncData} {dvs : List V} {kws : List (Str × V)} {N ps : List Str} {k : Nat} {dsp : DSp} (F : FunD K x qual (defArgs st) (defBody st) (defScope st) dvs kws f fd) (sc : FnScope N ps (defScope st)) (td : DS')
    (hb : ∀ (cdv : Value) (A : Around) (outer : List Env) (s : Shared) (H : Hp) (E : XK), Room k (A.deeper (envOfC qual (defScope st) s.heap.objs.size f cdv)) → DSs (cxOf (L2.CX P w) P w K mg base N qual (defScope st) f cdv A outer s H E) (fun c d _ H' => E c d H') (defBody st) td)
    (len : ∀ ws S Q E, dsp ws S Q E → ws.length = ps.length) (hd : ∀ ws S Q E, dsp ws S Q E → td { nx := fun _ S' => frzQ Q .non S', rt := frzQ Q } ⟨ζh N ws, frzX E⟩ S) : FnOk P w K mg base (L2.CX P w) (k + 1) f fd ps (uSp K dsp) := by
  refine F.ok sc (fun vs H Q E ⟨ws, S, Qd, Ed, r, rs, h, _⟩ => by rw [← rs.len]; exact len _ _ _ _ h) fun cdv A outer s H vs Q E hr ⟨ws, S, Qd, Ed, r, rs, h, f, fx⟩ => ⟨_, hb cdv A outer s H E hr, ?_⟩
  exact ⟨⟨ζh N ws, frzX Ed⟩, S, _, ⟨r, RS.start rs, frzX.fin fx⟩, hd ws S Qd Ed h, ⟨fun ω' S' σ' H' x a q => f.frz _ _ _ _ x a.rel .non q, f.frz, fun _ _ _ _ _ _ q => q.elim, fun _ _ _ _ _ _ q => q.elim⟩⟩
end
theorem run_fnX {X : Cx} {Z : WX} {k : Nat} {f : Addr} {fd : FuncData} {ps : List Str} {dsp : DSp} {dvs : List V} {ds : List Value} {us : List W} {pins : List (Addr × Obj)} {σ : L2.St} {H : Hp} {s : Shared} {Q : VK} {ws : List W} {vs : List V} {xs : List Value} {ω : Om} {S : Sto} {Qd : WQ}
    (F : FnOk X.prog X.w X.K X.mg X.base (L2.CX X.prog X.w) k f fd ps (uSp X.K dsp)) (hr : Room k X.A) (hb : Binds X.K fd ps ds) (hd : Vals dvs ds) (hu : Flat X.K us dvs) (tk : Takes X Z) (I : Inv X pins σ H s) (r : Vals vs xs)
    (a : At X.K Z S H σ ω) (rs : RWs X.K S H ws vs) (h : dsp (ws ++ us) S Qd fun c fs S' => ω.ex c fs ω.s S') (fi : Fin X.K S H Qd Q) : wpAny (model X.prog X.w) X.A (call (.ref f) xs) (EP X pins σ Q) X.xe s := by
  have hsp : uSp X.K dsp (vs ++ dvs) H Q (fun cls d H' => Z cls d σ H') := ⟨ws ++ us, S, Qd, _, a.rel, rs.app (hu _ _), h, fi, fun c fs S' H' d x r' xr e => a.fx c fs ω.s S' σ H' d x r' (a.rs.mono x) xr e⟩
  have r2 : Vals (vs ++ dvs) (xs ++ ds) := r.append hd
  have hl : (xs ++ ds).length = ps.length := by rw [← r2.length]; exact F.len _ _ _ _ hsp
  refine wpAny_call (codeAny_mono (F.run X.A X.stack s H ⟨xs, []⟩ (xs ++ ds) (vs ++ dvs) Q _ hr I.env0 (hb s xs I.kIn hl) r2 hsp) fun res s' hq => ?_)
  cases res with
  | error e => exact tk e s' (XE.of_call I (fun _ _ _ z => z) hq)
  | ok fl =>
    cases fl with
    | ret u => exact I.after hq
    | next => exact False.elim hq
    | brk => exact False.elim hq
    | cont => exact False.elim hq
section
variable (P : Program) (w : World) (K : PySem.W.Frag) (mg : Str → Option Value) (base : Heap) (k : Nat)
def MthX (C : Addr) (m : Str) (dsp : DSp) (us : List W) : Prop :=
  ∃ (f : Addr) (fd : FuncData) (ps : List Str) (dvs : List V) (ds : List Value), FnOk P w K mg base (L2.CX P w) k f fd ps (uSp K dsp) ∧ Meth K C m f ∧ Binds K fd ps ds ∧ Vals dvs ds ∧ Flat K us dvs
end
def dMthX (C : Addr) (m : Str) (dsp : DSp) (us : List W) (to : DE') (t : DA') : DE' := fun ω S Q => to ω S fun w S1 => insOk S1 C m w ∧ t ω S1 fun ws S2 => dsp (w :: (ws ++ us)) S2 Q fun c fs S' => ω.ex c fs ω.s S'
section
variable {X : Cx} {Z : WX} {e o : Expr} {es : List Expr} {t : DA'} {to : DE'} {C : Addr} {x m : Str} {pos apos p : Pos} {k j : Nat} {dsp : DSp} {us : List W}
theorem de_mthX {pl : Sem Bool} (c : Cls X.K C) (d : MthX X.prog X.w X.K X.mg X.base k C m dsp us) (tk : Takes X Z) (hr : Room j X.A) (ho : DE X Z o to) (ha : DA X Z (e :: es) t) (hk : k ≤ j := by decide)
    (hst : starEach (e :: es) X.env = (false, eval e X.env) :: starEach es X.env := by rfl) (hpl : (backTo pos (starEach es X.env)).any (·.1) = false := by rfl)
    (ht : eval (.Call (.Attribute o m apos) (e :: es) [] pos) X.env = (do
      let ov ← eval o X.env
      standAt apos.atName
      let (f, first) ← holding [ov] (getMethod ov m pl)
      callWith pos f first (backTo pos (starEach (e :: es) X.env)) (backToKw pos (keywordEach [] X.env))) := by rfl) :
    DE X Z (.Call (.Attribute o m apos) (e :: es) [] pos) (dMthX C m dsp us to t) := by
  obtain ⟨f, fd, ps, dvs, ds, F, hm, hb, hd, hu⟩ := d
  refine ⟨fun pins s σ H Q I ⟨ω, S, Qd, a, h, fi⟩ => ?_⟩
  refine PySem.W.methodCall_KW (pl := pl) (thn (ho.run pins s σ H (fun v H1 => ∃ b dx gs w S1, v = .ref b ∧ H1 b = some (.ins C dx gs) ∧ gs.lookup m = none ∧ Nx S H S1 H1 ∧ Rel X.K S1 H1 ∧ RW X.K S1 H1 w v ∧ t ω S1 fun ws S2 => dsp (w :: (ws ++ us)) S2 Qd fun c fs S' => ω.ex c fs ω.s S') I ?_) fun u s1 ⟨x, H1, I1, rx, b, dx, gs, w, S1, ex, eb, l, x1, r1, q1, q⟩ => ?_) ht
  · refine ⟨ω, S, _, a, h, fun w S1 v H1 x1 r1 q1 ⟨hi, h1⟩ => ?_⟩
    obtain ⟨b, dx, gs, rfl, hb, hl⟩ := insOk_rel r1 q1 hi
    exact ⟨b, dx, gs, w, S1, rfl, hb, hl, x1, r1, q1, h1⟩
  subst ex
  obtain rfl : u = Value.ref b := rx
  refine getmeth_ok I1 eb c hm l ?_
  refine PySem.W.callWith_K (first := [.ref b]) (h₀ := X.base) I.ok.mod.kin hm.kp (thn (ha.run pos pins s1 σ H1 (fun vs H2 => ∃ ws S2, Nx S1 H1 S2 H2 ∧ Rel X.K S2 H2 ∧ RWs X.K S2 H2 ws vs ∧ dsp (w :: (ws ++ us)) S2 Qd fun c fs S' => ω.ex c fs ω.s S') I1 ⟨ω, S1, _, a.to x1 r1, q, fun ws S2 vs H2 x2 r2 q2 h2 => ⟨ws, S2, x2, r2, q2, h2⟩⟩) fun xs s2 ⟨vs, H2, I2, rv, ws, S2, x2, r2, q2, h2⟩ => ⟨I2.kIn, ?_⟩) hst hpl
  exact run_fnX (ws := w :: ws) (vs := .ref b :: vs) (xs := .ref b :: xs) F (hr.mono hk) hb hd hu tk I2 (.cons rfl rv) (a.to (x1.trans x2) r2) (.cons (q1.mono x2) q2) h2 fun w' S' v H' x' r' q' h' => fi _ _ _ _ (x1.trans (x2.trans x')) r' q' h'
end
def spExc (C : Addr) (ns : List Str) (ok : List V → Prop) : Sp := fun vs H Q _ => ∃ (a : Addr) (us : List V), vs = .ref a :: us ∧ us.length = ns.length ∧ ok us ∧ H a = some (exo a C none) ∧ ∀ dx, H dx = none → dx ≠ a → Q .non (upd (upd H dx (exd dx (ns.zip us).reverse)) a (exo a C (some dx)))
def dRaise (C : Addr) (ns : List Str) (ok : List W → Prop) (t : DA') : DS' := fun _ ω S => t ω S fun ws S1 => ws.length = ns.length ∧ ok ws ∧ ω.ex (.ref C) (some (ns.zip ws).reverse) ω.s S1
theorem RWp.app {κ : Type} {K : PySem.W.Frag} {S : Sto} {H : Hp} {fs fs' : List (κ × W)} {gs gs' : List (κ × V)} (r : RWp K S H fs gs) (r' : RWp K S H fs' gs') : RWp K S H (fs ++ fs') (gs ++ gs') := by
  induction r with
  | nil => exact r'
  | cons h t ih => exact .cons h ih
theorem RWp.reverse {κ : Type} {K : PySem.W.Frag} {S : Sto} {H : Hp} {fs : List (κ × W)} {gs : List (κ × V)} (r : RWp K S H fs gs) : RWp K S H fs.reverse gs.reverse := by
  induction r with
  | nil => exact .nil
  | cons h t ih =>
    rw [List.reverse_cons, List.reverse_cons]
    exact ih.app (.cons h .nil)
section
variable {X : Cx} {Z : WX} {e : Expr} {t : DA'} {C : Addr} {ns : List Str} {okV : List V → Prop} {okW : List W → Prop} {pos : Pos}
theorem ds_raise (tk : Takes X Z) (hp : PMk X e (tMkO C (spExc C ns okV) [] (uA X.K Z t))) (hn : ns.length ≤ 1000) (hok : ∀ S H ws vs, RWs X.K S H ws vs → okW ws → okV vs) (hc : X.calm = true := by rfl) : DS X Z (.Raise (some e) none pos) (dRaise C ns okW t) :=
  PS.im (ps_raise hc tk hp) fun D σ H ⟨ω, S, Dd, a, h, f⟩ => by
    refine ⟨ω, S, _, a, h, fun ws S1 vs H1 x1 r1 q1 ⟨hl, ok, he⟩ => ⟨by rw [← q1.len, hl]; exact hn, fun b nb => ?_⟩⟩
    show spExc C ns okV (.ref b :: (vs ++ [])) _ _ _
    rw [List.append_nil]
    refine ⟨b, vs, rfl, by rw [← q1.len, hl], hok _ _ _ _ q1 ok, upd_same, fun dx nd hne => ⟨rfl, dx, (ns.zip vs).reverse, upd_same, by rw [upd_ne hne, upd_same], ?_, ?_⟩⟩
    · rw [upd_ne hne] at nd; exact nd
    · have n1 : H1 dx = none := by rw [upd_ne hne] at nd; exact nd
      have eH : upd (L2.del (upd (upd (upd H1 b (exo b C none)) dx (exd dx (ns.zip vs).reverse)) b (exo b C (some dx))) b) dx (.xd (ns.zip vs).reverse) = upd H1 dx (.xd (ns.zip vs).reverse) := by
        funext c
        by_cases c1 : c = dx
        · subst c1; rw [upd_same, upd_same]
        · rw [upd_ne c1, upd_ne c1]
          by_cases c2 : c = b
          · subst c2; rw [L2.del_same, nb]
          · rw [L2.del_ne c2, upd_ne c2, upd_ne c1, upd_ne c2]
      rw [eH]
      have xn : Nx S1 H1 S1 (upd H1 dx (.xd (ns.zip vs).reverse)) := Nx.new n1
      exact a.fx (.ref C) (some (ns.zip ws).reverse) ω.s S1 σ _ (some dx) (x1.trans xn) (r1.new n1) (a.rs.mono (x1.trans xn)) ⟨_, upd_same, r1.free n1, RWp.mono xn (RWp.zip (by rw [← q1.len, hl]) q1).reverse⟩ he
end
section
variable {X : Cx} {Z : WX} {x : Str} {c : Value} {body suite : List Stmt} {b₀ : Stmt} {np pos' pos : Pos} {tb ts : DS'}
end
end DL
namespace PySem.SeqAt
open AutoSeq1 (wpAny_loadPart')
open MeetsSeq MeetsSeq2 MeetsSeq3
section
variable {prog : Program} {w : World} {A : Around} {s : Shared} {K : PySem.W.Frag} {C f x dx : Addr} {E : Value → Shared → Prop} {mA : PySem.Str → Option Value}
end
end PySem.SeqAt
namespace My
open PySem PySem.Spec PyProof.Rows L2 SeqAt
section
variable {X : Cx} {n : Nat} {CX : CXT} {C f : Addr} {fd : FuncData} {ps : List PySem.Str} {sp : Sp} {E : XK} {pins : List (Addr × Obj)} {σ : L2.St} {H : Hp} {s : Shared}
end
end My
namespace DL
open PySem PySem.Spec PyProof.Rows L2 My
section
variable {X : Cx} {n : Nat} {C f : Addr} {fd : FuncData} {ps : List PySem.Str} {dsp : DSp}
end
end DL
namespace My
open PySem PySem.Spec PyProof.Rows L2
section
variable {X : Cx} {pins : List (Addr × Obj)} {σ : L2.St} {H : Hp} {s : Shared} {a C : Addr} {f : Str} {y : V} {u : Value} {Q : Unit → Shared → Prop} {E : Value → Shared → Prop} {A : Around}
end
section
variable {X : Cx} {o e : Expr} {es : List Expr} {to te : TE} {ta : TA} {f : Str} {p p' p1 p2 pos : Pos}
end
section
variable {X : Cx} {pins : List (Addr × Obj)} {σ : L2.St} {H : Hp} {s : Shared} {a C dx : Addr} {f : Str} {y : V} {u : Value} {fs : List (Str × V)} {Q : Unit → Shared → Prop} {E : Value → Shared → Prop} {A : Around}
end
section
variable {X : Cx} {o e : Expr} {to te : TE} {f : Str} {p' pos : Pos}
end
end My
namespace DL
open PySem PySem.Spec PyProof.Rows L2
section
variable {X : Cx} {Z : WX} {e : Expr} {es : List Expr} {t : DA'} {C : Addr} {ns : List Str} {okV : List V → Prop} {okW : List W → Prop} {x : Str} {p pos pos' : Pos} {k j : Nat}
end
end DL
namespace My
open PySem PySem.Spec PySem.Calls PyProof.Rows L2 PySem.W
section
variable {prog : Program} {w : World} {A : Around} {E : Value → Shared → Prop} {s : Shared} {K : PySem.W.Frag} {x C f : Addr} {ox : Obj} {od : Option Obj}
end
section
variable {X : Cx} {n : Nat} {CX : CXT} {C f : Addr} {fd : FuncData} {ps : List PySem.Str} {sp : Sp} {E : XK} {pins : List (Addr × Obj)} {σ : L2.St} {H : Hp} {s : Shared}
end
end My
namespace DL
open PySem PySem.Spec PyProof.Rows L2
section
variable {X : Cx} {Z : WX} {C f : Addr} {fd : FuncData} {ps : List Str} {dsp : DSp} {n j : Nat}
end
end DL
namespace DL
open PySem PySem.Spec PyProof.Rows L2 My
def dIdx : DM' := fun w ws S Q => match w, ws with
  | .lst xs, [y] => okD (.lst xs) = true ∧ okD y = true ∧ ∃ (j : Nat) (z : W), xs[j]? = some z ∧ weq z y = true ∧ (∀ (m : Nat) (z' : W), m < j → xs[m]? = some z' → weq z' y = false) ∧ Q (.int (j : Nat)) S
  | _, _ => False
section
variable {X : Cx} {Z : WX}
theorem mt_idx (hu : X.A.units + 65 < cLine) : MtR X "list.index" (uM X.K dIdx) := fun pins s σ H x xs v us Q I rx rs ⟨w, ws, S, Qd, r, r1, r2, q, fi⟩ => by
  refine mt_indexD hu pins s σ H x xs v us Q I rx rs ?_
  unfold dIdx at q
  split at q
  · rename_i ys y
    obtain ⟨z, rfl, rz⟩ := r2.one
    obtain ⟨o1, o2, j, z0, h1, h2, h3, h4⟩ := q
    obtain ⟨e1, e2⟩ := r1.shaped o1
    obtain ⟨e3, e4⟩ := rz.shaped o2
    rw [pd] at e1 e2
    obtain ⟨a, rfl⟩ : ∃ a, x = V.ref a := by cases r1; exact ⟨_, rfl⟩
    refine ⟨a, z, pd y, pds ys, j, pd z0, rfl, rfl, e1, e3, e2, e4, ?_, h2, fun m z' hm hz => ?_, fi.one r (.int _) h4⟩
    · rw [pds_map, List.getElem?_map, h1]; rfl
    · rw [pds_map, List.getElem?_map] at hz
      obtain ⟨z2, h5, rfl⟩ := Option.map_eq_some_iff.mp hz
      exact h3 m z2 hm h5
  · exact q.elim
end
end DL
namespace DL
open PySem PySem.Spec PyProof.Rows L2
def exW (a : Addr) (d : Option Addr) (fs : Option (List (Str × W))) : W := .exc a d ((fs.getD []).map (·.1)) ((fs.getD []).map (·.2))
section
variable {K : PySem.W.Frag} {S : Sto} {H : Hp} {fs : Option (List (Str × W))} {d : Option Addr}
theorem Xr.rw (h : Xr K S H fs d) (a : Addr) : RW K S H (exW a d fs) (.ref a) := by
  cases fs <;> cases d <;> first | exact h.elim | skip
  · exact .excN a
  · obtain ⟨gs, e, n, r⟩ := h
    have hk := RWp.fst r
    show RW K S H (.exc a (some _) (List.map (fun x : Str × W => x.1) _) (List.map (fun x : Str × W => x.2) _)) (.ref a)
    simp only [Option.getD_some]
    refine .exc (vs := gs.map (·.2)) ?_ n (by simp [RWp.len r]) (RWp.snd r)
    rw [hk, zip_prodV, e]
theorem Xr.iss (h : Xr K S H fs d) : fs.isSome = d.isSome := by
  cases fs <;> cases d <;> first | exact h.elim | rfl
end
def dTryAs (K : PySem.W.Frag) (C : Value) (i : Nat) (tb : DS') (ts : Addr → Value → Option Addr → DS') : DS' := fun D ω S => tb { nx := fun ω' S' => D.nx ⟨ω'.s, ω.ex⟩ S', rt := D.rt, bk := fun ω' S' => D.bk ⟨ω'.s, ω.ex⟩ S', ct := fun ω' S' => D.ct ⟨ω'.s, ω.ex⟩ S' }
  ⟨ω.s, fun c fs l S' => ∃ b, PySem.W.exmOne K c C = some b ∧ (b = true → ∀ a d, fs.isSome = d.isSome → ts a c d { nx := fun _ _ => False, rt := D.rt } ⟨l.set i (some (exW a d fs)), XF⟩ S') ∧ (b = false → ω.ex c fs l S')⟩ S
section
variable {X : Cx} {Z : WX} {x n : Str} {c : Value} {i : Nat} {body suite : List Stmt} {b₀ : Stmt} {np pos' pos : Pos} {tb : DS'} {ts : Addr → Value → Option Addr → DS'}
theorem ds_tryAs (hN : X.N.Nodup) (hc : Names X x c) (tk : Takes X Z) (hb : ∀ (W : WX) (pn : List (Addr × Obj)) (xe : Value → Shared → Prop), Takes (X.tr pn xe) W → PassesOwn (model X.prog X.w) X.A X.env xe → DSs (X.tr pn xe) W body tb)
    (hsu : ∀ (a : Addr) (oe : Obj) (cls : Value) (d : Option Addr) (pn : List (Addr × Obj)), Zc cls d oe → (∃ vs, oe.data = .fields vs) → DSs (X.suite a ((a, oe) :: pn)) Z0 (b₀ :: suite) (ts a cls d)) (hi : X.N[i]? = some n := by rfl) (hs : X.stack = X.env :: X.outer := by rfl) (hf : X.env.frame = some X.env.locals := by rfl) (hl : X.env.kindOf n = some .local := by rfl) :
    DS X Z (.Try body [.ExceptHandler (some (.Name x np)) (some n) (b₀ :: suite) pos'] [] [] pos) (dTryAs X.K c i tb ts) :=
  PS.im (ps_try_as (tb := fun W => uS X.K W tb) (ts := fun a cls d => uS X.K Z0 (ts a cls d)) hs hf hN hi hl hc tk hb hsu) fun D σ H ⟨ω, S, Dd, a, h, f⟩ => by
    refine ⟨⟨ω.s, fun c' fs l S' => ∃ b, PySem.W.exmOne X.K c' c = some b ∧ (b = true → ∀ a d, fs.isSome = d.isSome → ts a c' d { nx := fun _ _ => False, rt := Dd.rt } ⟨l.set i (some (exW a d fs)), XF⟩ S') ∧ (b = false → ω.ex c' fs l S')⟩, S, { nx := fun ω' S' => Dd.nx ⟨ω'.s, ω.ex⟩ S', rt := Dd.rt, bk := fun ω' S' => Dd.bk ⟨ω'.s, ω.ex⟩ S', ct := fun ω' S' => Dd.ct ⟨ω'.s, ω.ex⟩ S' }, ⟨a.rel, a.rs, fun cl fs l S' σ' H' d x' r rs xr ⟨b, e, ht, hf'⟩ => ⟨b, e, fun hbt p np => ?_, fun hb0 => a.fx cl fs l S' σ' H' d x' r rs xr (hf' hb0)⟩⟩, h, ?_⟩
    · exact ⟨⟨l.set i (some (exW p d fs)), XF⟩, S', _, ⟨r, rs.set (xr.rw p) i, .zero⟩, ht hbt p d xr.iss, ⟨fun _ _ _ _ _ _ q => q.elim, (fun w2 S2 v2 H2 x2 => f.rt w2 S2 v2 H2 (x'.trans x2)), fun _ _ _ _ _ _ q => q.elim, fun _ _ _ _ _ _ q => q.elim⟩⟩
    · exact ⟨fun ω' S' σ' H' x a' q => f.nx ⟨ω'.s, ω.ex⟩ _ _ _ x ⟨a'.rel, a'.rs, a.fx.to x⟩ q, f.rt, fun ω' S' σ' H' x a' q => f.bk ⟨ω'.s, ω.ex⟩ _ _ _ x ⟨a'.rel, a'.rs, a.fx.to x⟩ q, fun ω' S' σ' H' x a' q => f.ct ⟨ω'.s, ω.ex⟩ _ _ _ x ⟨a'.rel, a'.rs, a.fx.to x⟩ q⟩
end
section
variable {Y : Cx} {Z : WX} {a D : Addr} {oe : Obj} {cls : Value} {d : Option Addr}
theorem exc_kit {pins : List (Addr × Obj)} {σ : L2.St} {S : Sto} {H : Hp} {s : Shared} {ns : List Str} {ws : List W} {v : V} (T : ExcC Y.K D) (hp : (a, oe) ∈ Y.pn) (hz : Zc (.ref D) d oe) (hf : ∃ vs, oe.data = .fields vs) (I : Inv Y pins σ H s) (r : RW Y.K S H (.exc a d ns ws) v) :
    v = .ref a ∧ ∃ Pr : Heap → Prop, PySem.W.KitX Y.K (.ref a) (.ref D) Pr ∧ Pr s.heap := by
  have stands := (I.pin (a, oe) (List.mem_append_left _ hp)).1
  obtain ⟨vs, hv⟩ := hf
  cases r with
  | excN =>
    refine ⟨rfl, _, PySem.W.handS_kitx_exc (ox := oe) T.hg T.hk T.hs T.hd T.ha T.hn T.ht T.hm, ?_⟩
    obtain ⟨oc, od, oda, osl⟩ := oe
    obtain ⟨z1, z2⟩ := hz
    simp only at z1 z2 hv
    subst z1 z2 hv
    exact ⟨stands, rfl, rfl, trivial⟩
  | @exc _ dd _ _ us h n e rs =>
    have keeps : ObjOk Y.prog Y.w H s.heap dd (.xd (ns.zip us)) := I.hok dd _ h
    obtain ⟨mA, within, _⟩ := keeps
    obtain ⟨od, o1, _⟩ := lookIn_ns within
    have isC : (PySem.W.clsIn Y.K D).isSome = true := by
      obtain ⟨cd, c1, _⟩ := PySem.W.any_some T.hd
      rw [c1]; rfl
    exact ⟨rfl, _, PySem.W.kitx_exc (ox := oe) (od := some od) isC T.hg T.hk T.hs T.ha T.hn T.ht T.hm, ⟨stands, hz.1, (by unfold PySem.W.notCls; rw [hv] <;> rfl), (by rw [hz.2]; exact o1)⟩⟩
def clsW : W → Option Value
  | .ref p => some (.ref p)
  | .ty n => some (.type n)
  | _ => none
def dIsE (K : PySem.W.Frag) (Ds : List Addr) (a : Addr) (cls : Value) (d : Option Addr) : DC' := fun ws S Q => ∃ D ∈ Ds, cls = .ref D ∧ ∃ ns xs c cv b, ws = [.exc a d ns xs, c] ∧ clsW c = some cv ∧ PySem.W.kitOne K (.ref D) cv = some b ∧ Q (.bl b) S
theorem cd_isE {Ds : List Addr} (T : ∀ D ∈ Ds, ExcC Y.K D) (hp : (a, oe) ∈ Y.pn) (hz : Zc cls d oe) (hf : ∃ vs, oe.data = .fields vs) : CD Y (.builtin "isinstance") (dIsE Y.K Ds a cls d) := fun pins s σ H xs us Q I rx ⟨ws, S, Qd, r, rs, ⟨D, hD, ec, ns, zs, c, cv, b, e, hc, hk, q⟩, fi⟩ => by
  subst e
  subst ec
  obtain ⟨v1, v2, rfl, r1, r2⟩ := rs.two
  obtain ⟨rfl, Pr, kit, pr⟩ := exc_kit (T D hD) hp hz hf I r1
  cases rx with
  | cons a1 rx =>
    cases rx with
    | cons a2 rx =>
      cases rx
      cases a1
      rename_i u2
      have e2 : u2 = cv := by
        cases c <;> first | cases hc | skip
        all_goals cases r2; exact a2
      subst e2
      exact PySem.W.kia_one kit I.kIn pr hk (fun z => nomatch z) fun tk => ⟨.bl b, H, I.tok tk, rfl, fi.one r (.bl b) q⟩
def dXf (Ds : List Addr) (a : Addr) (cls : Value) (d : Option Addr) (f : Str) (te : DE') : DE' := fun ω S Q => te ω S fun w S1 => ∃ D ∈ Ds, cls = .ref D ∧ ∃ ns xs v, w = .exc a d ns xs ∧ d.isSome = true ∧ (ns.zip xs).lookup f = some v ∧ Q v S1
theorem de_xf {Ds : List Addr} {e : Expr} {te : DE'} {pos : Pos} {f : Str} (T : ∀ D ∈ Ds, ExcC Y.K D ∧ PySem.W.findIn Y.K (.ref D) f = some none) (hp : (a, oe) ∈ Y.pn) (hz : Zc cls d oe) (hf : ∃ vs, oe.data = .fields vs) (he : DE Y Z e te) (hb : attributeBase e f Y.env (eval e Y.env) = eval e Y.env := by rfl) : DE Y Z (.Attribute e f pos) (dXf Ds a cls d f te) := by
  refine ⟨fun pins s σ H Q I ⟨ω, S, Qd, at0, h, fi⟩ => ?_⟩
  refine attr_of hb (thn (he.run pins s σ H (fun v H1 => ∃ D ∈ Ds, cls = .ref D ∧ ∃ ns xs u S1, Nx S H S1 H1 ∧ Rel Y.K S1 H1 ∧ RW Y.K S1 H1 (.exc a d ns xs) v ∧ d.isSome = true ∧ (ns.zip xs).lookup f = some u ∧ Qd u S1) I ⟨ω, S, _, at0, h, fun w S1 v H1 x1 r1 q1 ⟨D, hD, ec, ns, xs, u, e1, e2, e3, e4⟩ => ⟨D, hD, ec, ns, xs, u, S1, x1, r1, e1 ▸ q1, e2, e3, e4⟩⟩) fun v s1 ⟨x, H1, I1, rx, D, hD, ec, ns, xs, u, S1, x1, r1, q1, e2, e3, e4⟩ => ?_)
  subst ec
  have stands := (I1.pin (a, oe) (List.mem_append_left _ hp)).1
  obtain ⟨T, no⟩ := T D hD
  obtain ⟨vs, hv⟩ := hf
  cases q1 with
  | excN => cases e2
  | @exc _ dd _ _ us h1 n1 e rs =>
    cases (show v = Value.ref a from rx)
    have keeps : ObjOk Y.prog Y.w H1 s1.heap dd (.xd (ns.zip us)) := I1.hok dd _ h1
    obtain ⟨mA, within, hr⟩ := keeps
    obtain ⟨od, o1, o2⟩ := lookIn_ns within
    obtain ⟨y, hy, ry⟩ := RWp.look (RWp.zip e rs) e3
    obtain ⟨t, ht, rt⟩ := RelO.some_of (v := y) (o := mA f) (by rw [← hy]; exact hr f)
    have J : PySem.W.InstAt s1.heap a oe D (some od) := ⟨stands, hz.1, (by unfold PySem.W.notCls; rw [hv] <;> rfl), (by rw [hz.2]; exact o1)⟩
    exact HandSPX.exc_get I1.kIn J T.hg T.hk T.hs (PySem.W.findObj_own T.hd no rfl (by rw [o2, ht])) (handed_of rt) ⟨y, H1, I1.tok _, rt, fi u S1 y H1 x1 r1 ry e4⟩
end
section
variable (P : Program) (w : World) (K : PySem.W.Frag) (mg : Str → Option Value) (base : Heap)
structure FnP (k : Nat) (f : Addr) (fd : FuncData) (ps : List Str) (sp : Sp) (p : Addr × Obj) : Prop where
  many : ∀ vs H Q E, sp vs H Q E → vs.length = ps.length
  go : ∀ (A : Around) (outer : List Env) (s : Shared) (H : Hp) (as : Args) (us : List Value) (vs : List V) (Q : VK) (E : XK),
    L2H.RoomH k A → L2H.PinOk outer H s p → Env0 P w K mg base A outer s H → BindsTo s fd as (ps.zip us) → Vals vs us → sp vs H Q E → codeAny (model P w) A (.call (.ref f) as) (CR CX0 outer P w H s Q E) s
end
section
variable {P : Program} {w : World} {K : PySem.W.Frag} {mg : Str → Option Value} {base : Heap}
theorem Fun.okP {x qual : Str} {st : Stmt} {f : Addr} {fd : FuncData} {N ps : List Str} {k : Nat} {dsp : DSp} {p : Addr × Obj} (F : Fun K x qual st f fd) (sc : FnScope N ps (defScope st)) (td : DS')
    (hb : ∀ (cdv : Value) (A : Around) (outer : List Env) (s : Shared) (H : Hp) (E : XK), L2H.RoomH k (A.deeper (envOfC qual (defScope st) s.heap.objs.size f cdv)) → DSs (L2H.cxH CX0 P w K mg base N qual (defScope st) f cdv A outer s H E p) Z0 (defBody st) td)
    (len : ∀ ws S Q E, dsp ws S Q E → ws.length = ps.length) (hd : ∀ ws S Q E, dsp ws S Q E → td { nx := fun _ S' => frzQ Q .non S', rt := frzQ Q } ⟨ζh N ws, XF⟩ S) : FnP P w K mg base (k + 1) f fd ps (uSp K dsp) p := by
  obtain ⟨oc, od, kV, doc, pm, an, cdv, ct, osl, rfl, lk, hcd⟩ := F.ex
  have many : ∀ vs H Q E, uSp K dsp vs H Q E → vs.length = ps.length := fun vs H Q E ⟨ws, S, Qd, Ed, r, rs, h, _⟩ => by rw [← rs.len]; exact len _ _ _ _ h
  refine ⟨many, fun A outer s H as us vs Q E room pinned around bound rel want => ?_⟩
  have inK : K.In s.heap := around.mod.kin.keeps fun b o e => (around.bs b o e).1
  have unlimited : s.heap.NoLimit := around.mod.nolimit.keeps fun b o e => (around.bs b o e).1
  have inSc : ∀ y ∈ ps.zip us, (defScope st).names.lookup y.1 = some .local ∨ ((defScope st).names.lookup y.1 = some .cell ∧ ((cellsFrom (s.heap.objs.size + 1) (defScope st).names []).lookup y.1).isSome = true) := by
    rintro ⟨n, v⟩ hy
    rcases sc.par n (List.of_mem_zip hy).1 with q | q
    · exact .inl q
    · exact .inr ⟨q, PySem.W.cellsFrom_some _ _ _ (.inl q)⟩
  refine codeAny_call_function room.depth (inK _ _ lk) rfl sc.co sc.gen rfl (PySem.W.codeRec_of inK hcd) (bound _ _ _ _ ?_)
  refine wpAny_newFunctionEnv_cells sc.kind inSc fun env made s1 started => ?_
  subst made
  refine ⟨unlimited.keeps started.toInCall.keep, codeAny_func ?_⟩
  have J := L2H.inv_startH (CX := CX0) (E := E) sc pinned around (many _ _ _ _ want) rel started
  obtain ⟨ws, S, Qd, Ed, r, rs, h, f', _⟩ := want
  have body := hb cdv A outer s H E (room.deeper _)
  have out : ∀ {σ' : L2.St} {H' : Hp} {v : V} {u : Value} {s' : Shared}, Inv (L2H.cxH CX0 P w K mg base N qual (defScope st) f cdv A outer s H E p) [] σ' H' s' → RelV v u → Q v H' → CE outer P w H s Q u s' := fun {σ' H' v u s'} J' rv q => ⟨v, H', J'.os, J'.bare, J'.base, J'.hok, rv, q⟩
  refine wpAny_mono (body.run [] s1 (L2.start N vs) H { nx := fun _ H' => Q .non H', rt := Q, bk := fun _ _ => False, ct := fun _ _ => False } J ⟨⟨ζh N ws, XF⟩, S, _, ⟨r, RS.start rs, .zero⟩, hd ws S Qd Ed h, ⟨fun ω' S' σ' H' x a q => f'.frz _ _ _ _ x a.rel .non q, f'.frz, fun _ _ _ _ _ _ q => q.elim, fun _ _ _ _ _ _ q => q.elim⟩⟩) (fun fl s' got => ?_) fun e s' z => z
  cases fl with
  | ret u => obtain ⟨v, σ', H', J', rv, q⟩ := got; exact out J' rv q
  | next => obtain ⟨σ', H', J', q⟩ := got; exact out (v := .non) (u := .none) J' rfl q
  | brk => obtain ⟨_, _, _, q⟩ := got; exact q.elim
  | cont => obtain ⟨_, _, _, q⟩ := got; exact q.elim
end
def HotD (P : Program) (w : World) (K : PySem.W.Frag) (mg : Str → Option Value) (base : Heap) (k : Nat) (x : Str) (dsp : Addr → Value → Option Addr → DSp) : Prop :=
  ∃ (f : Addr) (fd : FuncData) (ps : List Str), (∀ (p : Addr × Obj) (cls : Value) (d : Option Addr), Zc cls d p.2 → (∃ vs, p.2.data = .fields vs) → FnP P w K mg base k f fd ps (uSp K (dsp p.1 cls d)) p) ∧ mg x = some (.ref f) ∧ PySem.W.keepIn K (.ref f) = true ∧ Binds K fd ps []
section
variable {Y : Cx} {Z : WX} {a : Addr} {oe : Obj} {cls : Value} {d : Option Addr} {k j : Nat} {x : Str} {q pos : Pos} {e : Expr} {es : List Expr} {t : DA'} {dsp : Addr → Value → Option Addr → DSp}
theorem de_callP (c : HotD Y.prog Y.w Y.K Y.mg Y.base k x dsp) (hp : (a, oe) ∈ Y.pn) (hz : Zc cls d oe) (hf : ∃ vs, oe.data = .fields vs) (hr : L2H.RoomH j Y.A) (ha : DA Y Z (e :: es) t) (hk : k ≤ j := by decide) (hg : Gl Y x := by rfl)
    (hdb : (x == ("__debug__" : Str)) = false := by decide) (he : starEach (e :: es) Y.env = (false, eval e Y.env) :: starEach es Y.env := by rfl) (hpl : (backTo pos (starEach es Y.env)).any (·.1) = false := by rfl) :
    DE Y Z (.Call (.Name x q) (e :: es) [] pos) (ζu (dsp a cls d) t) := by
  obtain ⟨f, fd, ps, F, hm, kp, hb⟩ := c
  have F := F (a, oe) cls d hz hf
  refine ⟨fun pins s σ H Q I ⟨ω, S, Qd, at0, h, fi⟩ => ?_⟩
  refine wpAny_Call_Name_kw (ld_glob I hg hm ?_ hdb)
  refine PySem.W.callWith_K (h₀ := Y.base) I.ok.mod.kin kp (thn (ha.run pos pins s σ H (fun vs H1 => uSp Y.K (dsp a cls d) vs H1 Q fun _ _ _ => False) I ⟨ω, S, _, at0, h, fun ws S1 vs H1 x1 r1 q1 h1 => ⟨ws, S1, Qd, X0, r1, q1, h1, (fun w S' v H' x' r' q' h' => fi w S' v H' (x1.trans x') r' q' h'), .zero⟩⟩) fun xs s1 ⟨vs, H1, I1, rv, want⟩ => ⟨I1.kIn, ?_⟩) he hpl
  have hl : xs.length = ps.length := by rw [← rv.length]; exact F.many _ _ _ _ want
  have bound := hb s1 xs I1.kIn (by rw [List.append_nil]; exact hl)
  rw [List.append_nil] at bound
  obtain ⟨g1, g2, g3, g4, g5⟩ := I1.pin (a, oe) (List.mem_append_left _ hp)
  have pinned : L2H.PinOk Y.stack H1 s1 (a, oe) := ⟨g1, g2, fun hm => (List.mem_cons.mp (I1.stkSub a hm)).elim g3 g4, g5⟩
  refine wpAny_call (codeAny_mono (F.go Y.A Y.stack s1 H1 ⟨xs, []⟩ xs vs Q _ ⟨by have := hr.dp; omega, by have := hr.un; omega⟩ pinned I1.env0 bound rv want) fun res s' got => ?_)
  cases res with
  | error er => exact got.elim
  | ok fl =>
    cases fl with
    | ret u => exact I1.after got
    | next => exact False.elim got
    | brk => exact False.elim got
    | cont => exact False.elim got
end
section
variable {X : Cx} {Z : WX}
theorem oc_eqU (hu : X.A.units + 64 < cLine) : OD X (compareOp .Eq) dEq := OpR.im (op_eqD hu) fun x y H Q ⟨w1, w2, S, Qd, r, r1, r2, ⟨d1, d2, q⟩, fi⟩ =>
  let ⟨e1, e2⟩ := view_dp r r1 d1
  let ⟨e3, e4⟩ := view_dp r r2 d2
  ⟨_, _, e1, e3, e2, e4, fi.one r (.bl _) q⟩
theorem de_indexU {o e : Expr} {to : DE'} {t : DA'} {apos cpos : Pos} (hu : X.A.units + 65 < cLine) (ho : DE X Z o to) (ha : DA X Z [e] t) (hbase : attributeBase o "index" X.env (eval o X.env) = eval o X.env := by rfl)
    (hfew : ((backTo cpos (starEach [e] X.env)).all (fun x => !x.1) && (backToKw cpos (keywordEach [] X.env)).all (fun x => x.1.isSome) && decide (([e] : List Expr).length + ([] : List Keyword).length + (if ([] : List Keyword).isEmpty then 0 else 1) < 30)) = true := by rfl)
    (hline : (apos.endLine == cpos.line) = true := by rfl) (hs : starEach [e] X.env = (false, eval e X.env) :: starEach [] X.env := by rfl) (hplain : (backTo cpos (starEach [] X.env)).any (·.1) = false := by rfl) :
    DE X Z (.Call (.Attribute o "index" apos) [e] [] cpos) (dBM dIdx to t) := de_bm PySem.F.slot_list_index PySem.F.type_list_index (mt_idx hu) ho ha hbase hfew hline hs hplain
def dCount : DM' := fun w ws S Q => match w, ws with
  | .lst xs, [y] => okD (.lst xs) = true ∧ okD y = true ∧ Q (.int (xs.countP fun z => weq z y : Nat)) S
  | _, _ => False
theorem mt_cnt (hu : X.A.units + 65 < cLine) : MtR X "list.count" (uM X.K dCount) := fun pins s σ H x xs v us Q I rx rs ⟨w, ws, S, Qd, r, r1, r2, q, fi⟩ => by
  unfold dCount at q
  split at q
  · rename_i ys y
    obtain ⟨z, rfl, rz⟩ := r2.one
    obtain ⟨o1, o2, h1⟩ := q
    obtain ⟨e1, e2⟩ := r1.shaped o1
    obtain ⟨e3, e4⟩ := rz.shaped o2
    rw [pd] at e1 e2
    obtain ⟨a, rfl⟩ : ∃ a, x = V.ref a := by cases r1; exact ⟨_, rfl⟩
    obtain rfl : v = Value.ref a := rx
    obtain ⟨uy, rfl, ry⟩ := rs.one
    obtain ⟨bs, seen⟩ := Dp.reads I _ z uy e3 ry
    have flat : PyData.canLayAll0 (pds ys) = true := SeqAt.canLay_of_shaped e2
    have room : X.A.units + 1 + min (PyData.depthAll (pds ys)) (pd y).depth < cLine := room_in_shaped e4 hu
    cases e1 with
    | lst hs ha =>
      obtain ⟨its, rv, ⟨⟨cls, dd, data, sls⟩, n, ho, hc, hdn, hdt⟩, hlen⟩ := I.list hs
      simp only at hc hdt
      subst hc hdt
      obtain ⟨as, all⟩ := Dp.readsAll I _ _ its ha rv
      have same : its.map (SeqAt.readOf s.heap) = pds ys := SeqAt.readsAll_map _ its as flat all
      refine call_meets PySem.F.slot_list_count ⟨_, ho, rfl⟩ PySem.F.entry_list_count (PySem.F.args_list_count_2 _ _) (SeqAt.list_countAt a its.toArray n dd sls uy fun u => PyData.eqv (SeqAt.readOf s.heap u) (pd y))
        ⟨ho, SeqAt.items_eqAt (vs := its.toArray) (show ReadsAll s.heap its.toArray.toList (pds ys) as from all) seen flat (SeqAt.canLay_of_shaped e4) room, ?_⟩
      have told : its.countP (fun u => PyData.eqv (SeqAt.readOf s.heap u) (pd y)) = ys.countP fun z => weq z y := by
        have := List.countP_map (p := fun d => PyData.eqv d (pd y)) (f := SeqAt.readOf s.heap) (l := its)
        rw [same, pds_map, List.countP_map] at this
        exact this.symm
      refine ⟨.int (ys.countP fun z => weq z y : Nat), H, I.tok _, ⟨s.toks, ?_⟩, fi.one r (.int _) h1⟩
      show Value.int ((its.toArray.toList.countP _ : Nat) : Int) s.toks = _
      rw [show its.toArray.toList = its from rfl, told]
  · exact q.elim
theorem de_count {o e : Expr} {to : DE'} {t : DA'} {apos cpos : Pos} (hu : X.A.units + 65 < cLine) (ho : DE X Z o to) (ha : DA X Z [e] t) (hbase : attributeBase o "count" X.env (eval o X.env) = eval o X.env := by rfl)
    (hfew : ((backTo cpos (starEach [e] X.env)).all (fun x => !x.1) && (backToKw cpos (keywordEach [] X.env)).all (fun x => x.1.isSome) && decide (([e] : List Expr).length + ([] : List Keyword).length + (if ([] : List Keyword).isEmpty then 0 else 1) < 30)) = true := by rfl)
    (hline : (apos.endLine == cpos.line) = true := by rfl) (hs : starEach [e] X.env = (false, eval e X.env) :: starEach [] X.env := by rfl) (hplain : (backTo cpos (starEach [] X.env)).any (·.1) = false := by rfl) :
    DE X Z (.Call (.Attribute o "count" apos) [e] [] cpos) (dBM dCount to t) := de_bm PySem.F.slot_list_count PySem.F.type_list_count (mt_cnt hu) ho ha hbase hfew hline hs hplain
end
theorem rmH {j : Nat} {A : Around} (hr : Room j A) (h : Option Value) : L2H.RoomH j (A.mark h) := ⟨hr.dp, hr.un⟩
theorem unH {j : Nat} {A : Around} (hr : L2H.RoomH j A) : A.units + 64 < cLine := by have := hr.un; omega
theorem unH5 {j : Nat} {A : Around} (hr : L2H.RoomH j A) : A.units + 65 < cLine := by have := hr.un; omega
theorem run_fnNX {X : Cx} {Z : WX} {k n : Nat} {f : Addr} {fd : FuncData} {ps ks : List Str} {dsp : DSp} {g : List Value → List Value → List Value} {gV : List V → List V → List V} {pins : List (Addr × Obj)} {σ : L2.St} {H : Hp} {s : Shared} {Q : VK} {us ws : List Value} {vs zs : List V} {ω : Om} {S : Sto} {Qd : WQ} {ys : List W}
    (F : FnOk X.prog X.w X.K X.mg X.base (L2.CX X.prog X.w) k f fd ps (uSp X.K dsp)) (hr : Room k X.A) (hb : KBn X.K fd ps n ks g gV) (tk : Takes X Z) (I : Inv X pins σ H s) (r : Vals vs us) (rz : Vals zs ws) (l1 : vs.length = n) (l2 : zs.length = ks.length)
    (a : At X.K Z S H σ ω) (rs : RWs X.K S H ys (gV vs zs)) (h : dsp ys S Qd fun c fs S' => ω.ex c fs ω.s S') (fi : Fin X.K S H Qd Q) : wpAny (model X.prog X.w) X.A (call (.ref f) us (ks.zip ws)) (EP X pins σ Q) X.xe s := by
  have want : uSp X.K dsp (gV vs zs) H Q (fun cls d H' => Z cls d σ H') := ⟨ys, S, Qd, _, a.rel, rs, h, fi, fun c fs S' H' d x r' xr e => a.fx c fs ω.s S' σ H' d x r' (a.rs.mono x) xr e⟩
  refine wpAny_call (codeAny_mono (F.run X.A X.stack s H ⟨us, ks.zip ws⟩ (g us ws) (gV vs zs) Q _ hr I.env0 (hb.to s us ws I.kIn (r.length.symm.trans l1) (rz.length.symm.trans l2)) (hb.rel r rz) want) fun res s' got => ?_)
  cases res with
  | error er => exact tk er s' (XE.of_call I (fun _ _ _ z => z) got)
  | ok fl =>
    cases fl with
    | ret u => exact I.after got
    | next => exact False.elim got
    | brk => exact False.elim got
    | cont => exact False.elim got
def MthXK (P : Program) (w : World) (K : PySem.W.Frag) (mg : Str → Option Value) (base : Heap) (k : Nat) (C : Addr) (m : Str) (n : Nat) (ks : List Str) (ix : List Nat) (dsp : DSp) (us : List W) : Prop :=
  ∃ (f : Addr) (fd : FuncData) (ps : List Str) (dvs : List V) (ds : List Value), FnOk P w K mg base (L2.CX P w) k f fd ps (uSp K dsp) ∧ Meth K C m f ∧ KBn K fd ps (n + 1) ks (fun a b => pm ix (a ++ b ++ ds)) (fun a b => pm ix (a ++ b ++ dvs)) ∧ Flat K us dvs
section
variable {X : Cx} {Z : WX} {e o : Expr} {es : List Expr} {t tk : DA'} {to : DE'} {C : Addr} {m : Str} {pos apos p : Pos} {k j n nk : Nat} {dsp : DSp} {us : List W} {ks : List Str} {ix : List Nat} {kws : List Keyword}
end
open LamX (CodeO TabB LamS lamEnv lamCx lamS_by)
structure Tab0 (H : Hp) (P : Addr) (q : Str) (ps : Array Value) : Prop where
  stands : H P = some (.tbl ps)
  threes : TriplesOk ps.toList
  tells : ∀ (pos : Pos) (cv : Value), codeAmong pos ps.toList = some cv → ∃ c, cv = .ref c ∧ H c = some (CodeO c q)
def Grown (H : Hp) (P : Addr) (q : Str) (H' : Hp) : Prop :=
  H' = H ∨ ∃ (ps : Array Value) (c : Addr), H c = none ∧ c ≠ P ∧ H' = upd (upd H P (.tbl ps)) c (CodeO c q) ∧ Tab0 H' P q ps
section
variable {X : Cx} {pins : List (Addr × Obj)} {σ : L2.St} {H : Hp} {s : Shared}
theorem lam_new {c P : Addr} {args : Arguments} {body : Expr} {scope : Scope} {pos : Pos} {E Q : Value → Shared → Prop} {ps : Array Value} (I : Inv X pins σ H s) (B : TabB X.base X.mg c P) (own : X.env.code = .ref c)
    (t : Tab0 H P (X.env.qual ++ "<lambda>") ps) (nodef : defaultsOf args X.env = ([], [])) (cells : ∀ y ∈ scope.names, y.2 = .free → ∃ c, X.env.cells.lookup y.1 = some c)
    (go : ∀ (f c' : Addr) (pm ctv : Value) (H1 : Hp) (s' : Shared), Inv X pins σ H1 s' → Grown H P (X.env.qual ++ "<lambda>") H1 →
      s'.heap.get? f = some (PySem.W.kla_obj "<lambda>" (X.env.qual ++ "<lambda>") args body scope (cloFrom X.env.cells scope.names []) pm c' ctv) → H1 f = none → f ∉ frs X.stack → H1 c' = some (CodeO c' (X.env.qual ++ "<lambda>")) → Q (.ref f) s') :
    wpAny (model X.prog X.w) X.A (eval (.Lambda args body scope pos) X.env) Q E s := by
  obtain ⟨stands, threes, tells⟩ := t
  refine PySem.W.kla_eval nodef ?_
  have known : s.heap.BuiltinsAt X.mg P := B.bm.keeps I.bk
  have there : s.heap.get? P = some { cls := .none, data := .fields ps } := I.hok P _ stands
  have away : ∀ f, s.heap.objs.size ≤ f → f ∉ frs X.stack := fun f big hm => by
    rcases List.mem_cons.mp (I.stkSub _ hm) with e | e
    · have small := I.lt
      rw [← e] at small
      exact absurd big (Nat.not_le_of_lt small)
    · exact I.nofs big e
  cases found : codeAmong pos ps.toList with
  | some cv =>
    obtain ⟨c', rfl, isCode⟩ := tells pos cv found
    refine PySem.W.kla_makeFunctionHit (mg := X.mg) (c := c) (P := P) (ps := ps) (closure_ok cells) I.ok.glob (I.mod.glob.keeps I.bk) own (B.code.keeps I.bk) there threes found known fun ctv h' tk ext big => ?_
    have J : Inv X pins σ H { s with heap := h'.push (PySem.W.kla_obj "<lambda>" (X.env.qual ++ "<lambda>") args body scope (cloFrom X.env.cells scope.names []) ((X.mg "__name__").getD .none) c' ctv), toks := tk } := I.kept fun b o e => Heap.get?_push_of_some _ (ext b o e)
    exact go _ c' _ ctv H _ J (.inl rfl) (Heap.get?_push_size _ rfl) (I.hok.fresh big) (away _ big) isCode
  | none =>
    refine PySem.W.kla_makeFunction (mg := X.mg) (c := c) (P := P) (ps := ps) (closure_ok cells) I.ok.glob (I.mod.glob.keeps I.bk) own (B.code.keeps I.bk) there threes found B.gP known fun c' ctv h' tk ext big less code tab => ?_
    obtain ⟨c2, oc, vs, w, e2, hoc, hd, hv⟩ := code
    cases e2
    have new : H c' = none := I.hok.fresh big
    have big' : s.heap.objs.size ≤ h'.objs.size := Nat.le_trans big (Nat.le_of_lt less)
    have J := LamX.inv_table (t' := tk) (more := #[rawInt pos.line, rawInt pos.col, .ref c']) (q := X.env.qual ++ "<lambda>") (h' := h'.push (PySem.W.kla_obj "<lambda>" (X.env.qual ++ "<lambda>") args body scope (cloFrom X.env.cells scope.names []) ((X.mg "__name__").getD .none) c' ctv))
      I stands (fun b o ne e => Heap.get?_push_of_some _ (ext b o ne e)) (Heap.get?_push_of_some _ tab) big ⟨oc, vs, w, Heap.get?_push_of_some _ hoc, hd, hv⟩
    have neP : c' ≠ P := fun e => by rw [e, stands] at new; cases new
    have at1 : ∀ b, b ≠ P → b ≠ c' → upd (upd H P (.tbl (ps ++ #[rawInt pos.line, rawInt pos.col, .ref c']))) c' (CodeO c' (X.env.qual ++ "<lambda>")) b = H b := fun b h1 h2 => by rw [upd_ne h2, upd_ne h1]
    refine go _ c' _ ctv _ _ J (.inr ⟨_, c', new, neP, rfl, ⟨by rw [upd_ne (Ne.symm neP), upd_same], ?_, fun p' cv hcv => ?_⟩⟩) (Heap.get?_push_size _ rfl) ?_ (away _ big') upd_same
    · rw [Array.toList_append]
      exact PySem.TriplesOk_snoc _ _ _ _ threes
    · rw [Array.toList_append] at hcv
      rcases LamX.among_app _ threes hcv with z | z
      · obtain ⟨c0, e1, e2⟩ := tells p' cv z
        refine ⟨c0, e1, ?_⟩
        rw [at1 c0 (fun e => by rw [e, stands] at e2; exact LamX.codeO_ne ps (Option.some.inj e2).symm) (fun e => by rw [e, new] at e2; cases e2)]
        exact e2
      · exact ⟨c', z, upd_same⟩
    · rw [at1 _ (fun e => absurd (Heap.lt_size there) (Nat.not_lt_of_le (by rw [← e]; exact big'))) (Nat.ne_of_gt less)]
      exact I.hok.fresh big'
end
def capW : List Nat → List (Option W) → Option (List W)
  | [], _ => some []
  | i :: is, l => match l[i]?, capW is l with
    | some (some w), some ws => some (w :: ws)
    | _, _ => none
def capV : List Nat → L2.St → Option (List V)
  | [], _ => some []
  | i :: is, l => match l[i]?, capV is l with
    | some (some w), some ws => some (w :: ws)
    | _, _ => none
def capt : Nat → List Nat → List (Option W) → List (Option W)
  | _, _, [] => []
  | j, is, x :: xs => (if j ∈ is then x else none) :: capt (j + 1) is xs
theorem capt_len : ∀ (j : Nat) (is : List Nat) (l : List (Option W)), (capt j is l).length = l.length
  | _, _, [] => rfl
  | j, is, x :: xs => by rw [capt, List.length_cons, List.length_cons, capt_len]
theorem capt_at : ∀ {l : List (Option W)} {j i : Nat} {is : List Nat} {w : W}, (capt j is l)[i]? = some (some w) → (j + i) ∈ is ∧ l[i]? = some (some w)
  | [], _, _, _, _, h => by simp [capt] at h
  | x :: xs, j, 0, is, w, h => by
    rw [capt, List.getElem?_cons_zero] at h
    by_cases c : j ∈ is
    · rw [if_pos c] at h
      exact ⟨c, by rw [List.getElem?_cons_zero]; exact h⟩
    · rw [if_neg c] at h; cases h
  | x :: xs, j, i + 1, is, w, h => by
    rw [capt, List.getElem?_cons_succ] at h
    obtain ⟨h1, h2⟩ := capt_at h
    exact ⟨by rw [show j + (i + 1) = j + 1 + i by omega]; exact h1, by rw [List.getElem?_cons_succ]; exact h2⟩
section
variable {K : PySem.W.Frag} {S S' : Sto} {H H' : Hp} {σ : L2.St} {l : List (Option W)}
theorem cap_rel (r : RS K S H σ l) : ∀ {is : List Nat} {ws : List W}, capW is l = some ws → ∃ vs, capV is σ = some vs ∧ RWs K S H ws vs
  | [], ws, h => by cases h; exact ⟨[], rfl, .nil⟩
  | i :: is, ws, h => by
    unfold capW at h
    cases e1 : l[i]? with
    | none => rw [e1] at h; cases h
    | some o =>
      cases o with
      | none => rw [e1] at h; cases h
      | some w =>
        cases e2 : capW is l with
        | none => rw [e1, e2] at h; cases h
        | some ws' =>
          rw [e1, e2] at h
          cases h
          obtain ⟨v, ev, rv⟩ := r.at' i w e1
          obtain ⟨vs, evs, rvs⟩ := cap_rel r e2
          exact ⟨v :: vs, by rw [capV, ev, evs], .cons rv rvs⟩
theorem cap_back : ∀ {is : List Nat} {ws : List W} {vs : List V}, capW is l = some ws → capV is σ = some vs → RWs K S H ws vs → ∀ i ∈ is, ∀ w, l[i]? = some (some w) → ∃ v, σ[i]? = some (some v) ∧ RW K S H w v
  | [], _, _, _, _, _, i, hi, _, _ => by cases hi
  | j :: is, ws, vs, h, h2, r, i, hi, w, hw => by
    unfold capW at h
    unfold capV at h2
    cases e1 : l[j]? with
    | none => rw [e1] at h; cases h
    | some o =>
      cases o with
      | none => rw [e1] at h; cases h
      | some w1 =>
        cases e2 : capW is l with
        | none => rw [e1, e2] at h; cases h
        | some ws' =>
          rw [e1, e2] at h
          cases h
          cases e3 : σ[j]? with
          | none => rw [e3] at h2; cases h2
          | some o3 =>
            cases o3 with
            | none => rw [e3] at h2; cases h2
            | some v1 =>
              cases e4 : capV is σ with
              | none => rw [e3, e4] at h2; cases h2
              | some vs' =>
                rw [e3, e4] at h2
                cases h2
                cases r with
                | cons q t =>
                  rcases List.mem_cons.mp hi with c | c
                  · subst c
                    rw [e1] at hw
                    cases hw
                    exact ⟨v1, e3, q⟩
                  · exact cap_back e2 e4 t i c w hw
theorem RS.cap {is : List Nat} {ws : List W} {vs : List V} (hl : σ.length = l.length) (h : capW is l = some ws) (h2 : capV is σ = some vs) (r : RWs K S H ws vs) : RS K S H σ (capt 0 is l) := by
  refine ⟨hl.trans (capt_len 0 is l).symm, fun i w e => ?_⟩
  obtain ⟨m, e2⟩ := capt_at e
  rw [Nat.zero_add] at m
  exact cap_back h h2 r i m w e2
end
abbrev LT := (XW → Sto → WQ → Prop) → Sto → WQ → Prop
def dAct (f c : Addr) (q : Str) (vs : List V) (xs : List W) (tl : XW → Sto → WQ → Prop) : DE' := fun ω S Q => ω.s[0]? = some (some (.lam f c q vs xs)) ∧ tl (fun c fs S' => ω.ex c fs ω.s S') S Q
def ActOk (Z : Cx) (a : Str) (f c : Addr) (q : Str) (vs : List V) (xs : List W) (tl : XW → Sto → WQ → Prop) : Prop :=
  ∀ (W : WX) (pn : List (Addr × Obj)) (xe : Value → Shared → Prop) (p1 p2 : Pos), Takes (Z.tr pn xe) W → DE (Z.tr pn xe) W (.Call (.Name a p1) [] [] p2) (dAct f c q vs xs tl)
section
variable (P : Program) (w : World) (K : PySem.W.Frag) (mg : Str → Option Value) (base : Heap)
def CalL (k : Nat) (x a : Str) (TT : LT) : Prop := ∃ (g : Addr) (st : Stmt) (fd : FuncData) (N : List Str), Fun K x x st g fd ∧ FnScope N [a] (defScope st) ∧ N[0]? = some a ∧ Vis (defScope st) a ∧ mg x = some (.ref g) ∧ PySem.W.keepIn K (.ref g) = true ∧ Binds K fd [a] [] ∧
  ∀ (cdv : Value) (A : Around) (outer : List Env) (s : Shared) (H : Hp) (f c : Addr) (q : Str) (vs : List V) (xs : List W) (tl : XW → Sto → WQ → Prop) (S : Sto) (Qd : WQ) (Q : VK), Room k (A.deeper (envOfC x (defScope st) s.heap.objs.size g cdv)) →
    ActOk (cxOf CX0 P w K mg base N x (defScope st) g cdv A outer s H C8.E0) a f c q vs xs tl → Rel K S H → RW K S H (.lam f c q vs xs) (.ref f) → TT tl S Qd → Fin K S H Qd Q →
    ∃ t, PSs (cxOf CX0 P w K mg base N x (defScope st) g cdv A outer s H C8.E0).nox (defBody st) t ∧ t { nx := fun _ H' => Q .non H', rt := Q } (L2.start N [.ref f]) H
end
section
variable {P : Program} {w : World} {K : PySem.W.Frag} {mg : Str → Option Value} {base : Heap}
theorem Fun.okL {x a : Str} {st : Stmt} {g : Addr} {fd : FuncData} {N : List Str} {k : Nat} {TT : LT} (F : Fun K x x st g fd) (sc : FnScope N [a] (defScope st)) (td : Addr → Addr → Str → List V → List W → (XW → Sto → WQ → Prop) → DS')
    (hb : ∀ (cdv : Value) (A : Around) (outer : List Env) (s : Shared) (H : Hp) (f c : Addr) (q : Str) (vs : List V) (xs : List W) (tl : XW → Sto → WQ → Prop), Room k (A.deeper (envOfC x (defScope st) s.heap.objs.size g cdv)) →
      ActOk (cxOf CX0 P w K mg base N x (defScope st) g cdv A outer s H C8.E0) a f c q vs xs tl → DSs (cxOf CX0 P w K mg base N x (defScope st) g cdv A outer s H C8.E0).nox Z0 (defBody st) (td f c q vs xs tl))
    (hd : ∀ f c q vs xs tl S Q, TT tl S Q → td f c q vs xs tl { nx := fun _ S' => frzQ Q .non S', rt := frzQ Q } ⟨ζh N [.lam f c q vs xs], XF⟩ S)
    (hm : mg x = some (.ref g)) (hk : PySem.W.keepIn K (.ref g) = true) (b : Binds K fd [a] []) (h0 : N[0]? = some a := by rfl) (hv : Vis (defScope st) a := by first | exact Or.inl rfl | exact Or.inr (Or.inl rfl)) : CalL P w K mg base k x a TT := by
  refine ⟨g, st, fd, N, F, sc, h0, hv, hm, hk, b, fun cdv A outer s H f c q vs xs tl S Qd Q hr act r rl h fi => ?_⟩
  refine ⟨_, hb cdv A outer s H f c q vs xs tl hr act, ?_⟩
  exact ⟨⟨ζh N [.lam f c q vs xs], XF⟩, S, _, ⟨r, RS.start (.cons rl .nil), .zero⟩, hd f c q vs xs tl S Qd h, ⟨fun ω' S' σ' H' x a q => fi.frz _ _ _ _ x a.rel .non q, fi.frz, fun _ _ _ _ _ _ q => q.elim, fun _ _ _ _ _ _ q => q.elim⟩⟩
end
def dLam (P : Addr) (q : Str) (is : List Nat) (TT : LT) (tb : DE') : DE' := fun ω S Q => S P = some (.tab q) ∧ (capW is ω.s).isSome = true ∧ TT (fun Ed S' Q' => tb ⟨capt 0 is ω.s, fun c fs _ S'' => Ed c fs S''⟩ S' Q') S Q
theorem Grown.nx {K : PySem.W.Frag} {S : Sto} {H H' : Hp} {P : Addr} {q : Str} (g : Grown H P q H') (r : Rel K S H) (hS : S P = some (.tab q)) : Nx S H S H' ∧ Rel K S H' := by
  rcases g with rfl | ⟨ps, c, n, ne, rfl, t⟩
  · exact ⟨.refl, r⟩
  · have x : Nx S H S (upd (upd H P (.tbl ps)) c (CodeO c q)) := ⟨fun b o hb nb => by rw [upd_ne (fun e => by subst e; rw [n] at hb; cases hb), upd_ne (fun e => by subst e; rw [hS] at nb; cases nb)]; exact hb, fun _ _ _ h => h⟩
    refine ⟨x, fun a o ho => ?_⟩
    by_cases e : a = P
    · subst e
      rw [hS] at ho
      cases ho
      cases r _ _ hS with
      | tab h0 t0 c0 =>
        refine .tab t.stands t.threes fun pos cv hcv => ?_
        obtain ⟨c1, e1, e2⟩ := t.tells pos cv hcv
        refine ⟨c1, e1, e2, ?_⟩
        by_cases ec : c1 = c
        · subst ec; exact r.free n
        · rw [upd_ne ec] at e2
          by_cases ep : c1 = a
          · subst ep; rw [upd_same] at e2; exact absurd (Option.some.inj e2).symm (LamX.codeO_ne ps)
          · rw [upd_ne ep] at e2
            cases hs : S c1 with
            | none => rfl
            | some o1 =>
              have ro := r _ _ hs
              cases ro with
              | lst q' _ => rw [q'] at e2; unfold CodeO at e2; cases e2
              | dK q' _ => rw [q'] at e2; unfold CodeO at e2; cases e2
              | dT q' _ => rw [q'] at e2; unfold CodeO at e2; cases e2
              | ins q' _ _ => rw [q'] at e2; unfold CodeO at e2; cases e2
              | own q' => rw [q'] at e2; unfold CodeO at e2; cases e2
              | tup q' _ => rw [q'] at e2; unfold CodeO at e2; cases e2
              | tab q' _ _ => rw [q'] at e2; unfold CodeO at e2; cases e2
              | tabF q' => rw [q'] at e2; unfold CodeO at e2; cases e2
    · exact (r a o ho).mono x (by rw [upd_ne (r.ne ho n).symm, upd_ne e]) fun _ h => h
section
variable {X : Cx} {Z : WX} {x a : Str} {c0 P : Addr} {k m j : Nat} {TT : LT} {args : Arguments} {body : Expr} {scope : Scope} {p lpos pos : Pos} {tb : DE'}
theorem de_lam {is : List Nat} (c : CalL X.prog X.w X.K X.mg X.base k x a TT) (B : TabB X.base X.mg c0 P) (own : X.env.code = .ref c0) (hr : Room j X.A) (L : LamS X.env.scope scope) (nodef : defaultsOf args X.env = ([], []))
    (nobind : ∀ (q : Str) (cl : List (Str × Addr)) (pm cv ctv : Value), bindArgs (PySem.W.kla_fn "<lambda>" q args body scope cl pm cv ctv) ⟨[], []⟩ = pure [])
    (hbody : ∀ (A : Around) (outer : List Env) (s : Shared) (H : Hp) (E : XK) (f c' : Addr), Room m (A.deeper (lamEnv X scope s.heap.objs.size f c')) → DE (lamCx X A outer s H E scope f c') (fun cls d _ H' => E cls d H') body tb)
    {q : Str} (hq : X.env.qual ++ "<lambda>" = q := by rfl) (hk : k + 1 ≤ j := by decide) (hm : m + 2 ≤ j := by decide) (hg : Gl X x := by rfl) (hdb : (x == ("__debug__" : Str)) = false := by decide) (hd : (a == ("__debug__" : Str)) = false := by decide) (hcd : (a == ("__classdict__" : Str)) = false := by decide) :
    DE X Z (.Call (.Name x p) [.Lambda args body scope lpos] [] pos) (dLam P q is TT tb) := by
  subst hq
  obtain ⟨g, st, fd, N, F, sc, h0N, hva, hmg, hkp, hb, giv⟩ := c
  obtain ⟨oc, od, kV, doc, pm, an, cdv, ct, osl, rfl, lk, hcg⟩ := F.ex
  refine ⟨fun pins s σ H Q I ⟨ω, S, Qd, at0, ⟨hS, hcap, ht⟩, fi⟩ => ?_⟩
  obtain ⟨ws, hws⟩ := Option.isSome_iff_exists.mp hcap
  obtain ⟨vs, hvs, rvs⟩ := cap_rel at0.rs hws
  obtain ⟨ps, t0⟩ : ∃ ps, Tab0 H P (X.env.qual ++ "<lambda>") ps := by
    cases at0.rel _ _ hS with
    | tab h1 h2 h3 => exact ⟨_, h1, h2, fun pos cv hcv => let ⟨c, e1, e2, _⟩ := h3 pos cv hcv; ⟨c, e1, e2⟩⟩
  refine wpAny_Call_Name_kw (ld_glob I hg hmg ?_ hdb)
  refine PySem.W.callWith_K (h₀ := X.base) I.ok.mod.kin hkp ?_ (by rfl) (by rfl)
  show wpAny _ _ (spliced ((false, eval (.Lambda args body scope lpos) X.env) :: backTo pos (starEach [] X.env))) _ _ s
  refine Calls.spliced_cons (lam_new I B own t0 nodef (L.has I.ok) fun f c' pm' ctv H1 s' I1 gr hf hfn hfr hco => ?_)
  refine Calls.spliced_nil ⟨I1.kIn, ?_⟩
  obtain ⟨x1, r1⟩ := gr.nx at0.rel hS
  have rl : RW X.K S H1 (.lam f c' (X.env.qual ++ "<lambda>") vs ws) (.ref f) := .lam hco (by
    rcases gr with rfl | ⟨ps2, c2, n2, ne2, rfl, t2⟩
    · cases hs : S c' with
      | none => rfl
      | some o1 =>
        cases at0.rel _ _ hs with
        | lst q' _ => rw [q'] at hco; unfold CodeO at hco; cases hco
        | dK q' _ => rw [q'] at hco; unfold CodeO at hco; cases hco
        | dT q' _ => rw [q'] at hco; unfold CodeO at hco; cases hco
        | ins q' _ _ => rw [q'] at hco; unfold CodeO at hco; cases hco
        | own q' => rw [q'] at hco; unfold CodeO at hco; cases hco
        | tup q' _ => rw [q'] at hco; unfold CodeO at hco; cases hco
        | tab q' _ _ => rw [q'] at hco; unfold CodeO at hco; cases hco
        | tabF q' => rw [q'] at hco; unfold CodeO at hco; cases hco
    · cases hs : S c' with
      | none => rfl
      | some o1 =>
        cases r1 _ _ hs with
        | lst q' _ => rw [q'] at hco; unfold CodeO at hco; cases hco
        | dK q' _ => rw [q'] at hco; unfold CodeO at hco; cases hco
        | dT q' _ => rw [q'] at hco; unfold CodeO at hco; cases hco
        | ins q' _ _ => rw [q'] at hco; unfold CodeO at hco; cases hco
        | own q' => rw [q'] at hco; unfold CodeO at hco; cases hco
        | tup q' _ => rw [q'] at hco; unfold CodeO at hco; cases hco
        | tab q' _ _ => rw [q'] at hco; unfold CodeO at hco; cases hco
        | tabF q' => rw [q'] at hco; unfold CodeO at hco; cases hco) (RWs.mono x1 rvs)
  have hr1 : Room (j - 1 + 1) X.A := hr.mono (by omega)
  have rc : codeAny (model X.prog X.w) X.A (.call (.ref g) ⟨[.ref f], []⟩) (CR C8.CX0 X.stack X.prog X.w H1 s' Q C8.E0) s' := by
    refine LamX.run_ofS (N := N) (ps := [a]) (us := [.ref f]) (vs := [.ref f]) lk hcg sc hr1 I1.env0 (hb s' [.ref f] I1.kIn rfl) (.cons rfl .nil) rfl fun hr' => ?_
    have act : ActOk (cxOf CX0 X.prog X.w X.K X.mg X.base N x (defScope st) g cdv X.A X.stack s' H1 C8.E0) a f c' (X.env.qual ++ "<lambda>") vs ws (fun Ed S' Q' => tb ⟨capt 0 is ω.s, fun c fs _ S'' => Ed c fs S''⟩ S' Q') := by
      intro W pn xe p1 p2 tk
      refine ⟨fun pinsZ sZ σZ HZ QZ IZ h => ?_⟩
      obtain ⟨ωZ, SZ, QdZ, aZ, ⟨h0, ht2⟩, fiZ⟩ := h
      obtain ⟨v0, hs0, rl2⟩ := aZ.rs.at' 0 _ h0
      cases rl2 with
      | lam hcZ hnZ rwsZ =>
      refine wpAny_Call_Name_kw (thn ((pe_var (pos := p1) (i := 0) h0N hva hd hcd).run pinsZ sZ σZ HZ (fun v H' => v = .ref f ∧ H' = HZ) IZ ⟨.ref f, hs0, rfl, rfl⟩) fun u s1 ⟨v, H2, I2, r2, q2⟩ => ?_)
      obtain ⟨ev, eH⟩ := q2
      subst ev eH
      obtain rfl : u = Value.ref f := r2
      have isF : s1.heap.get? f = some (PySem.W.kla_obj "<lambda>" (X.env.qual ++ "<lambda>") args body scope (cloFrom X.env.cells scope.names []) pm' c' ctv) := I2.base.keep f _ hf hfn hfr (fun z => nomatch (show f ∈ ([] : List Addr) from z))
      refine PySem.W.callWith_F0 ⟨_, _, _, _, isF⟩ ?_
      have un : Un (frs X.stack) [] H1 H2 s'.heap s1.heap := I2.base
      obtain ⟨⟨oc2, vs2, t2, hoc, hdc, hvc⟩, _, _⟩ := I2.hok c' _ hcZ
      have callee : codeAny (model X.prog X.w) (X.A.deeper (envOfC x (defScope st) s'.heap.objs.size g cdv)) (.call (.ref f) ⟨[], []⟩)
          (CR (L2.CX X.prog X.w) (envOfC x (defScope st) s'.heap.objs.size g cdv :: X.stack) X.prog X.w H2 s1 QZ (fun cls d H' => W cls d σZ H')) s1 := by
        refine PySem.W.kla_callFunE hr'.depth isF rfl L.co L.gen rfl ⟨c', oc2, vs2, t2, rfl, hoc, hdc, hvc⟩ ?_
        rw [nobind]
        refine wpAny_pure (wpAny_newFunctionEnv (fun y hy => (L.own y hy).2) (fun y hy => absurd hy (by simp)) (fun h₁ hns hsb => ⟨I2.nolimit.fresh _ hsb, ?_⟩) L.kind)
        show codeAny _ _ (.expr body (lamEnv X scope s1.heap.objs.size f c')) _ _
        have stays : ∀ b o, s1.heap.get? b = some o → h₁.get? b = some o := fun b o e =>
          hsb.extBut b o (Nat.ne_of_lt (Heap.lt_size e)) (Heap.get?_push_of_some _ e)
        have J := LamX.lam_start2 (A := X.A.deeper (envOfC x (defScope st) s'.heap.objs.size g cdv)) (outer := envOfC x (defScope st) s'.heap.objs.size g cdv :: X.stack) (E := fun cls d H' => W cls d σZ H') (f := f) (c' := c') (tk := s1.toks + ([] : List (Str × Value)).length) I1 L I2.env0 hr'.hd un hns stays
        have within := (hbody (X.A.deeper (envOfC x (defScope st) s'.heap.objs.size g cdv)) (envOfC x (defScope st) s'.heap.objs.size g cdv :: X.stack) s1 H2 (fun cls d H' => W cls d σZ H') f c' (Room.deeper (hr'.mono (show m + 1 ≤ j - 1 by omega)) _)).run [] _ σ H2 QZ J
          ⟨⟨capt 0 is ω.s, fun c fs _ S'' => ωZ.ex c fs ωZ.s S''⟩, SZ, QdZ, ⟨aZ.rel, RS.cap at0.rs.len hws hvs rwsZ, fun c fs l S' σ' H' d x' r' _ xr e => aZ.fx c fs ωZ.s S' σZ H' d x' r' (aZ.rs.mono x') xr e⟩, ht2, fiZ⟩
        refine PySem.W.kla_codeExpr (wpAny_mono within (fun v s3 got => ?_) fun e s3 got => got)
        obtain ⟨w', H', J', rv, q'⟩ := got
        exact ⟨w', H', J'.os, J'.bare, J'.base, J'.hok, rv, q'⟩
      refine wpAny_call (codeAny_mono callee fun res s2 got => ?_)
      cases res with
      | error e => exact tk e s2 (XE.of_call I2 (fun _ _ _ z => z) got)
      | ok fl =>
        cases fl with
        | ret u => exact I2.after got
        | next => exact False.elim got
        | brk => exact False.elim got
        | cont => exact False.elim got
    obtain ⟨t', ht', hq'⟩ := giv cdv X.A X.stack s' H1 f c' (X.env.qual ++ "<lambda>") vs ws _ S Qd Q (hr'.mono (by omega)) act r1 rl ht (fun w S' v H' x' r' q' h' => fi w S' v H' (x1.trans x') r' q' h')
    exact ⟨t', ht'.nox, hq'⟩
  refine wpAny_call (codeAny_mono rc fun res s2 got => ?_)
  cases res with
  | error e => exact (show False from got).elim
  | ok fl =>
    cases fl with
    | ret u => exact I1.after got
    | next => exact False.elim got
    | brk => exact False.elim got
    | cont => exact False.elim got
end
section
variable {P : Program} {w : World} {K : PySem.W.Frag} {mg : Str → Option Value} {base : Heap}
theorem Fun.okFc {x qual : Str} {st : Stmt} {f c0 : Addr} {fd : FuncData} {N ps : List Str} {k : Nat} {dsp : DSp} (F : Fun K x qual st f fd) (hc : fd.code = .ref c0) (sc : FnScope N ps (defScope st)) (td : DS')
    (hb : ∀ (cdv : Value) (own : cdv = .ref c0) (A : Around) (outer : List Env) (s : Shared) (H : Hp) (E : XK), Room k (A.deeper (envOfC qual (defScope st) s.heap.objs.size f cdv)) → DSs (cxOf CX0 P w K mg base N qual (defScope st) f cdv A outer s H E).nox Z0 (defBody st) td)
    (len : ∀ ws S Q E, dsp ws S Q E → ws.length = ps.length) (hd : ∀ ws S Q E, dsp ws S Q E → td { nx := fun _ S' => frzQ Q .non S', rt := frzQ Q } ⟨ζh N ws, XF⟩ S) : FnOk P w K mg base CX0 (k + 1) f fd ps (uSp K dsp) := by
  obtain ⟨oc, od, kV, doc, pm, an, cdv, ct, osl, rfl, lk, hcd⟩ := F.ex
  have own : cdv = .ref c0 := hc
  refine ⟨fun vs H Q E ⟨ws, S, Qd, Ed, r, rs, h, _⟩ => by rw [← rs.len]; exact len _ _ _ _ h, fun A outer s H args us vs Q E hr e0 hbi rv want => ?_⟩
  have many : vs.length = ps.length := by
    obtain ⟨ws, S, Qd, Ed, r, rs, h, _⟩ := want
    rw [← rs.len]; exact len _ _ _ _ h
  refine LamX.run_ofS lk hcd sc hr e0 hbi rv many fun hr' => ?_
  obtain ⟨ws, S, Qd, Ed, r, rs, h, f', _⟩ := want
  refine ⟨_, (hb cdv own A outer s H E hr').nox, ?_⟩
  exact ⟨⟨ζh N ws, XF⟩, S, _, ⟨r, RS.start rs, .zero⟩, hd ws S Qd Ed h, ⟨fun ω' S' σ' H' x a q => f'.frz _ _ _ _ x a.rel .non q, f'.frz, fun _ _ _ _ _ _ q => q.elim, fun _ _ _ _ _ _ q => q.elim⟩⟩
end
def TabFacts (q : Program) (K : PySem.W.Frag) (h : Heap) : Prop := ∀ (x : Str) (d : DefRec) (c P : Addr), (recsOf q).find? (fun e => e.name == x) = some d → PySem.W.tabIn K x = some (c, P) → PySem.W.CodeHd h c P ∧ h.get? P = some { cls := .none, data := .fields #[] }
def stoT : List (Addr × Str) → Sto
  | [] => fun _ => none
  | p :: ps => up (stoT ps) p.1 (.tab p.2)
theorem stoT_at {a : Addr} {o : WO} : ∀ {ps : List (Addr × Str)}, stoT ps a = some o → ∃ p ∈ ps, p.1 = a ∧ o = .tab p.2
  | [], h => by cases h
  | p :: ps, h => by
    by_cases e : a = p.1
    · subst e
      have h : up (stoT ps) p.1 (.tab p.2) p.1 = some o := h
      rw [up_same] at h
      exact ⟨p, List.mem_cons_self, rfl, (Option.some.inj h).symm⟩
    · have h : up (stoT ps) p.1 (.tab p.2) a = some o := h
      rw [up_ne e] at h
      obtain ⟨p', h1, h2⟩ := stoT_at h
      exact ⟨p', List.mem_cons_of_mem _ h1, h2⟩
theorem law_spT {K : PySem.W.Frag} {H : Hp} {a : Addr} {ns : List Int} {dsp : DSp} (ps : List (Addr × Str)) (hT : ∀ p ∈ ps, H p.1 = some (.tbl #[])) (hS : SqL K H a (ns.map V.int)) (h : dsp [.scr ns] (stoT ps) (fun w _ => w = .bl true) X0) : uSp K dsp [.ref a] H (fun v _ => v = .bl true) fun _ _ _ => False := by
  refine ⟨[.scr ns], stoT ps, fun w _ => w = .bl true, X0, fun b o hb => ?_, .cons (.scr ?_) .nil, h, (fun w S' v H' _ _ r e => by subst e; cases r; rfl), .zero⟩
  · obtain ⟨p, hp, rfl, rfl⟩ := stoT_at hb
    refine .tab (hT p hp) True.intro fun pos cv hc => ?_
    have z : codeAmong pos [] = some cv := hc
    simp [codeAmong] at z
  · rcases hS with z | h
    · refine .inl ⟨z, ?_⟩
      cases e : stoT ps a with
      | none => rfl
      | some u =>
        obtain ⟨p, hp, rfl, _⟩ := stoT_at e
        rcases z with h | ⟨o, h⟩
        · rw [hT p hp] at h; cases h
        · rw [hT p hp] at h; cases h
    · exact .inr h
end DL
namespace My
open PySem PySem.Spec PyProof.Rows L2
section
variable {X : Cx} {pins : List (Addr × Obj)} {σ : L2.St} {H : Hp} {s : Shared} {a C : Addr} {f : Str} {y : V} {u : Value} {Q : Unit → Shared → Prop} {E : Value → Shared → Prop} {A : Around}
end
section
variable {X : Cx} {o e : Expr} {es : List Expr} {to te : TE} {ta : TA} {f : Str} {p p' p1 p2 pos : Pos}
end
section
variable {X : Cx} {pins : List (Addr × Obj)} {σ : L2.St} {H : Hp} {s : Shared} {a C dx : Addr} {f : Str} {y : V} {u : Value} {fs : List (Str × V)} {Q : Unit → Shared → Prop} {E : Value → Shared → Prop} {A : Around}
end
section
variable {X : Cx} {o e : Expr} {to te : TE} {f : Str} {p' pos : Pos}
end
end My
namespace DL
open PySem PySem.Spec PyProof.Rows L2
section
variable {X : Cx} {Z : WX} {e : Expr} {es : List Expr} {t : DA'} {C : Addr} {ns : List Str} {okV : List V → Prop} {okW : List W → Prop} {x : Str} {p pos pos' : Pos} {k j : Nat}
end
theorem pvN {X : Cx} (i : Nat) {x : Str} {pos : Pos} (hN : X.N[i]? = some x := by rfl) (hv : Vis X.env.scope x := by first | exact Or.inl rfl | exact Or.inr (Or.inl rfl) | exact Or.inr (Or.inr rfl)) (hd : (x == ("__debug__" : Str)) = false := by decide) (hcd : (x == ("__classdict__" : Str)) = false := by decide) : PE X (.Name x pos) (tVar i) := pe_var hN hv hd hcd
end DL
namespace My
open PySem PySem.Spec PyProof.Rows L2 PpSet
section
variable {prog : Program} {w : World} {A : Around} {R : Result → Shared → Prop} {s : Shared} {item to0 from0 to1 from1 : Expr} {only0 only1 : List Expr} {scope : Scope} {pos : Pos} {it held : Value} {env : Env}
end
section
variable {X : Cx}
end
end My
namespace DL
open PySem PySem.Spec PyProof.Rows L2 PpSet
section
variable {X : Cx} {Z : WX}
end
end DL
namespace DL
open PySem PySem.Spec PyProof.Rows L2
section
variable {X : Cx} {Z : WX}
end
section
variable {X : Cx} {Z : WX} {tg elt : Expr} {ifs : List Expr} {T : Tg} {tt : DT'} {te : DE'} {pos p0 p1 : Pos} {scope : Scope} {own : List (Str × Nat)} {i : Nat} {x f : Str} {C : Addr}
end
end DL
namespace My
open PySem PySem.Spec PyProof.Rows L2 PpSet PySem.W
section
variable {X : Cx}
end
end My
namespace DL
open PySem PySem.Spec PyProof.Rows L2
section
variable {X : Cx} {Z : WX} {C f : Addr} {fd : FuncData} {ps ks : List Str} {dsp : DSp} {k n : Nat} {pins : List (Addr × Obj)} {σ : L2.St} {H : Hp} {s : Shared} {Q : VK} {us ws : List Value} {vs zs : List V}
end
section
variable (P : Program) (w : World) (K : PySem.W.Frag) (mg : Str → Option Value) (base : Heap) (k : Nat)
end
section
variable {X : Cx} {Z : WX} {e : Expr} {es : List Expr} {t tk : DA'} {C : Addr} {x : Str} {pos p : Pos} {k j n : Nat} {dsp : DSp} {ks : List Str} {ix : List Nat} {kws : List Keyword}
end
end DL
namespace My
open PySem
abbrev bt_ke : List Value := [.type "KeyError", .type "LookupError", .type "Exception", .type "BaseException", .type "object"]
section
open PySem.Spec PyProof.Rows L2
theorem sto_ke : StoreFacts "KeyError" bt_ke "object.__setattr__" "object" where
  mro := by kernel_rfl
  slot := .of (owner := "object") (n := "__setattr__") (by rw [typeLookup_type, builtinLookup_eq_fast]; kernel_rfl) (by decide +kernel) (by decide +kernel) (by decide +kernel)
    (by first | exact .inl (by decide +kernel) | exact .inr (by decide +kernel)) (by rw [isSubtype_type]; kernel_rfl)
  entry := PySem.F.store_LookupError.entry
  kind := PySem.F.store_LookupError.kind
  split := PySem.F.store_LookupError.split
  hasOwner := by decide +kernel
  args := PySem.F.store_LookupError.args
  passes := fun me => by kernel_rfl
abbrev nK : String := "LookupError.__new__"
abbrev iK : String := "KeyError.__init__"
theorem iK_kind : builtinKind iK = some .slot := by decide +kernel
theorem iK_split : splitId iK = some ("KeyError", "__init__") := by decide +kernel
theorem iK_row : Manifest.signature? iK = some ⟨.positional, "*", "KeyError", .self, [⟨"args", .varPos, false⟩]⟩ := by kernel_rfl
end
section
variable {M : Model} {prog : Program} {w : World} {A : Around} {E : Value → Shared → Prop} {R : Result → Shared → Prop} {hp : Heap} {gs : Array GenState} {dr : Drawn} {tk : Nat} {os : OsState}
variable {nm q : Str} {C N : Addr} {bs bm us : List Value} {hd1 : Bool} {sn : List Str} {sub : List Value} {ab : Bool} {col : Option Bool} {dd : Option Addr} {k0 k1 k2 k3 k5 : Option Value}
theorem in_of {X : String} (y : bm.contains (.type X) = true) : (Value.ref C :: bm).contains (.type X) = true := by
  rw [List.contains_cons, y]
  exact Bool.or_true _
theorem out_of {X : String} (y : bm.contains (.type X) = false) : (Value.ref C :: bm).contains (.type X) = false := by
  rw [List.contains_cons, y]
  rfl
theorem seen_ke {Q : Unit → Shared → Prop} (inL : bm.contains (.type "LookupError") = true) (atC : hp.get? C = some (excClassObj nm q C N bs bm hd1 sn sub ab col dd k0 k1 k2 k3 k5 nK)) (go : Q () ⟨hp, gs, dr, tk, os⟩) :
    wpAny M A (checkBuiltinCall nK ⟨.ref C :: us, []⟩) Q E ⟨hp, gs, dr, tk, os⟩ := by
  have y := in_of (C := C) inL
  have ns := PySem.F.excBase_LookupError.noStar
  simp only [checkBuiltinCall, PySem.F.excBase_LookupError.newKind, PySem.F.excBase_LookupError.newSplit, PySem.F.excBase_LookupError.newRow]
  repeat (first
    | refine wpAny_loadPart_at atC ?_
    | (refine wpAny_isSubtype_exc atC ?_
       rw [y])
    | refine wpAny_staticBase_exc atC ?_
    | refine wpAny_madeBy_exc atC ?_
    | simp only [bne_self_eq_false, Bool.false_eq_true, if_false]
    | wp_step)
  exact go
theorem new_ke (inL : bm.contains (.type "LookupError") = true) (noA : bm.contains (.type "AttributeError") = false) (noN : bm.contains (.type "NameError") = false) (atC : hp.get? C = some (excClassObj nm q C N bs bm hd1 sn sub ab col dd k0 k1 k2 k3 k5 nK)) (few : us.length ≤ sizeLine)
    (go : R (.ok (.ret (.ref (hp.objs.size + 1)))) ⟨(hp.push (PySem.W.kdv_tup us)).push (PySem.HandSPX.excO C hp.objs.size), gs, dr, tk, os⟩) : codeAny (model prog w) A (.builtin nK ⟨.ref C :: us, []⟩) R ⟨hp, gs, dr, tk, os⟩ := by
  have ends := PySem.F.excBase_LookupError.ends
  have y1 := in_of (C := C) inL
  have y2 := out_of (C := C) noA
  have y3 := out_of (C := C) noN
  refine codeAny_builtinAt PySem.F.excBase_LookupError.entry ?_
  unfold Builtin.«BaseException.__new__»
  refine wpAt_bind ?_
  show wpAt _ _ _ (stack >>= _) _ _ _
  refine wpAt_bind (wpAt_stack fun l r => wpAt_of_wpAny ?_)
  wp_walk
  refine wpAt_of_wpAny ?_
  rw [PySem.F.excBase_LookupError.owner]
  repeat (first
    | with_reducible refine wpAny_madeHere_exc PySem.F.excBase_LookupError.canon atC ?_
    | with_reducible refine wpAny_loadPart_at atC ?_
    | (with_reducible refine wpAny_isSubtype_exc atC ?_
       first | rw [y1] | rw [y2] | rw [y3])
    | wp_step)
  show R _ _
  rw [Heap.size_push]
  exact go
theorem typ_call_ke {fI : Addr} {Q : Fin → Shared → Prop} (inL : bm.contains (.type "LookupError") = true) (noA : bm.contains (.type "AttributeError") = false) (noN : bm.contains (.type "NameError") = false) (atC : hp.get? C = some (excClassObj nm q C N bs bm hd1 sn sub ab col dd k0 k1 k2 k3 k5 nK)) (few : us.length ≤ sizeLine)
    (own : PySem.W.Looks (model prog w) hp (typeLookup (.ref C) "__init__") (some (.ref fI))) (bound : ∀ me, PySem.W.Looks (model prog w) hp (bindSpecial (.ref fI) me) (.ref fI, [me]))
    (go : codeAny (model prog w) A (.call (.ref fI) ⟨.ref (hp.objs.size + 1) :: us, []⟩)
      (fun r z => match r with
        | .error e => E e z
        | .ok (.ret v) => v = .none ∧ Q (.done (.ret (.ref (hp.objs.size + 1)))) z
        | .ok _ => False) ⟨(hp.push (PySem.W.kdv_tup us)).push (PySem.HandSPX.excO C hp.objs.size), gs, dr, tk, os⟩) :
    wpAny (model prog w) A (Builtin.«type.__call__» ⟨.ref C :: us, []⟩) Q E ⟨hp, gs, dr, tk, os⟩ := by
  repeat (first
    | with_reducible refine wpAny_loadPart_at atC ?_
    | with_reducible refine wpAny_madeBy_exc atC ?_
    | wp_step)
  refine codeAny_call_builtin_code (Code.quiet_builtin _ PySem.F.excBase_LookupError.quiet) (seen_ke inL atC ?_)
  refine new_ke inL noA noN atC few ?_
  show wpAny _ _ _ _ _ _
  have more : ∀ b o, hp.get? b = some o → ((hp.push (PySem.W.kdv_tup us)).push (PySem.HandSPX.excO C hp.objs.size)).get? b = some o := fun b o z => Heap.get?_push_of_some _ (Heap.get?_push_of_some _ z)
  have atC2 := more _ _ atC
  have itself : ((hp.push (PySem.W.kdv_tup us)).push (PySem.HandSPX.excO C hp.objs.size)).get? (hp.objs.size + 1) = some (PySem.HandSPX.excO C hp.objs.size) := by
    heap_get
  have me : (Value.ref C :: bm).contains (.ref C) = true := by
    simp
  have own2 := own.keeps more
  have bound2 := (bound (.ref (hp.objs.size + 1))).keeps more
  unfold isInstance
  repeat (first
    | with_reducible refine wpAny_loadPart_at itself ?_
    | (with_reducible refine wpAny_isSubtype_exc atC2 ?_
       rw [me])
    | wp_step)
  show wpAny _ _ (typeLookup (.ref C) _) _ _ _
  refine own2.at ?_
  refine wpAny_holding (wpAny_bind (bound2.at ?_))
  refine wpAny_bind (wpAny_call (codeAny_mono go fun r z got => ?_))
  cases r with
  | error e => exact got
  | ok fl =>
    cases fl with
    | ret v =>
      obtain ⟨e0, g2⟩ := got
      subst e0
      first
        | exact wpAny_pure (wpAny_pure g2)
        | (wp_walk
           exact g2)
    | next => exact False.elim got
    | brk => exact False.elim got
    | cont => exact False.elim got
theorem call_ke {fI : Addr} (inL : bm.contains (.type "LookupError") = true) (noA : bm.contains (.type "AttributeError") = false) (noN : bm.contains (.type "NameError") = false) (atC : hp.get? C = some (excClassObj nm q C N bs bm hd1 sn sub ab col dd k0 k1 k2 k3 k5 nK)) (few : us.length ≤ sizeLine)
    (own : PySem.W.Looks (model prog w) hp (typeLookup (.ref C) "__init__") (some (.ref fI))) (bound : ∀ me, PySem.W.Looks (model prog w) hp (bindSpecial (.ref fI) me) (.ref fI, [me]))
    (go : codeAny (model prog w) (A.under (.builtin "type.__call__" ⟨.ref C :: us, []⟩)) (.call (.ref fI) ⟨.ref (hp.objs.size + 1) :: us, []⟩) (PySem.W.InitBack (hp.objs.size + 1) R)
      ⟨(hp.push (PySem.W.kdv_tup us)).push (PySem.HandSPX.excO C hp.objs.size), gs, dr, tk, os⟩) : codeAny (model prog w) A (.call (.ref C) ⟨us, []⟩) R ⟨hp, gs, dr, tk, os⟩ := by
  have l1 := PySem.tc_lookup
  have l2 := PySem.tc_bind (.ref C)
  have isT : (⟨hp, gs, dr, tk, os⟩ : Shared).TypeIs (.ref C) "type" := ⟨_, atC, rfl⟩
  refine codeAny_of_tree ?_
  show wpAny _ _ (callAny (.ref C) _) _ _ _
  repeat (any_goals (first
    | assumption
    | with_reducible refine wpAny_loadPart_at atC ?_
    | wp_step))
  refine ⟨rfl, ?_⟩
  refine codeAny_call_builtin_at (Code.quiet_builtin _ (by decide +kernel)) entry_typeCall (wpAny_check_type_call_sub atC (typ_call_ke inL noA noN atC few own bound ?_))
  refine codeAny_mono go fun r z got => ?_
  rcases r with e | (v | _ | _ | _) <;> exact got
theorem seenI_ke {e : Addr} {oe : Obj} {Q : Unit → Shared → Prop} (inK : bm.contains (.type "KeyError") = true) (atC : hp.get? C = some (excClassObj nm q C N bs bm hd1 sn sub ab col dd k0 k1 k2 k3 k5 nK)) (atE : hp.get? e = some oe) (cls : oe.cls = .ref C) (go : Q () ⟨hp, gs, dr, tk, os⟩) :
    wpAny M A (checkBuiltinCall iK ⟨.ref e :: us, []⟩) Q E ⟨hp, gs, dr, tk, os⟩ := by
  have y := in_of (C := C) inK
  have ns : (("KeyError" : String) != "*") = true := by decide +kernel
  simp only [checkBuiltinCall, iK_kind, iK_split, iK_row]
  repeat (first
    | (with_reducible refine wpAny_loadPart_at atE ?_
       rw [cls])
    | with_reducible refine wpAny_loadPart_at atC ?_
    | (with_reducible refine wpAny_isSubtype_exc atC ?_
       rw [y])
    | wp_step)
  refine wpAny_onRaise ?_
  rw [show ∀ (a b : String) (n : Nat), Bind.check ⟨.positional, "*", "KeyError", .self, [⟨"args", .varPos, false⟩]⟩ a b n (List.map (fun x => x.fst) ({ pos := Value.ref e :: us } : Args).kw) = pure () from
    fun a b n => check_star_args _ _ _ _ _ _]
  exact wpAny_pure go
theorem init_ke {e t0 : Addr} (inK : bm.contains (.type "KeyError") = true) (atC : hp.get? C = some (excClassObj nm q C N bs bm hd1 sn sub ab col dd k0 k1 k2 k3 k5 nK)) (atE : hp.get? e = some (PySem.HandSPX.excO C t0)) (few : us.length ≤ sizeLine)
    (go : ∀ h1 t1, (∀ b o, b ≠ e → hp.get? b = some o → h1.get? b = some o) → h1.get? e = some (PySem.HandSPX.excO C t1) → R (.ok (.ret .none)) ⟨h1, gs, dr, tk, os⟩) :
    codeAny (model prog w) A (.call (.builtin iK) ⟨.ref e :: us, []⟩) R ⟨hp, gs, dr, tk, os⟩ := by
  refine codeAny_call_builtin PyProof.Rows.excClass_KeyError.init.plain PyProof.Rows.excClass_KeyError.initEntry (seenI_ke inK atC atE rfl ?_)
  wp_walk
  refine go _ hp.objs.size (fun b o nb z => ?_) ?_
  · rw [Heap.get?_update_other _ _ (Ne.symm nb)]
    exact Heap.get?_push_of_some _ z
  · rw [Heap.get?_update_self _ (Heap.get?_push_of_some _ atE) rfl]
    rfl
end
end My
namespace My
open PySem PySem.Spec PyProof.Rows L2
structure Gx_ke (K : PySem.W.Frag) (C : Addr) : Prop where
  cls : ∃ nm q N bs bm sn sub ab col dd k0 k1 k2 k3 k5, K.lookup C = some (excClassObj nm q C N bs bm true sn sub ab col dd k0 k1 k2 k3 k5 nK) ∧ PySem.W.excTail bt_ke bm = true
  ov : PySem.W.excOver K C bt_ke = true
  st : PySem.W.findIn K (.ref C) "__setattr__" = some (some (.builtin "object.__setattr__"))
  hb : PySem.W.subIn K (.ref C) (.type "BaseException") = some true
  ht : PySem.W.typeIn K (.ref C) = some (.type "type")
  hk : PySem.W.keepIn K (.ref C) = true
section
variable {X : Cx} {pins : List (Addr × Obj)} {σ : L2.St} {H : Hp} {s : Shared} {a C : Addr} {f : Str} {y : V} {u : Value} {Q : Unit → Shared → Prop} {E : Value → Shared → Prop} {A : Around}
theorem gfirst_ke (T : Gx_ke X.K C) (I : Inv X pins σ H s) (ea : H a = some (exo a C none)) (hno : PySem.W.findIn X.K (.ref C) f = some none) (ry : RelV y u)
    (done : ∀ dx s', H dx = none → dx ≠ a → Inv X pins σ (upd (upd H dx (exd dx [(f, y)])) a (exo a C (some dx))) s' → Q () s') : wpAny (model X.prog X.w) A (setAttr (.ref a) f u) Q E s := by
  obtain ⟨nm, q, N, bs, bm, sn, sub, ab, col, dd, k0, k1, k2, k3, k5, hC, hbm⟩ := T.cls
  have hcl : PySem.W.clsIn X.K C = some { name := nm, bases := bs, mro := .ref C :: bm, ns := N, qualname := q, hasDict := true, slotNames := sn, subclasses := sub, abstract := ab, collection := col, hasDel := false } := by
    unfold PySem.W.clsIn
    rw [hC] <;> rfl
  obtain ⟨t1, here⟩ := exo_at I.hok ea
  have inst : PySem.W.InstAt s.heap a { cls := .ref C, dict := none, data := .fields #[.ref t1, .none, .none, .none, .bool false, .none] } C none := ⟨here, rfl, rfl, trivial⟩
  refine PySem.W.set_plain I.kIn inst T.st ?_
  have tk0 : PySem.W.takerIn X.K C f = some none := by
    unfold PySem.W.takerIn
    rw [hno]
    rfl
  refine PySem.W.osa_openX (od := none) sto_ke I.kIn inst T.ov tk0 fun b => ?_
  obtain ⟨hp, gs, dr, tk, os⟩ := s
  refine wpAny_bind (wpAny_pure (wpAny_bind (PySem.W.instanceDict_exc here (PySem.W.looks_clsIn I.kIn hcl) rfl ?_)))
  have old : ∀ {b : Addr} {o : Obj}, hp.get? b = some o → b ≠ hp.objs.size := fun {b o} w => Nat.ne_of_lt (Heap.lt_size w)
  have aold : a ≠ hp.objs.size := old here
  have fresh : H hp.objs.size = none := I.hok.fresh (Nat.le_refl _)
  refine PySem.HandSPX.store_in_new ⟨_, #[], _, (Heap.get?_update_ne _ _ _ _ (Ne.symm aold)).trans (Heap.get?_push_at rfl rfl), rfl, fun w hw => absurd hw (by simp), fun _ => rfl⟩ fun h1 tk1 hns hsame => ?_
  have pushed : (hp.push { cls := .type "dict", data := .dict #[] }).get? a = some { cls := .ref C, dict := none, data := .fields #[.ref t1, .none, .none, .none, .bool false, .none] } := Heap.get?_push_of_some _ here
  have rest : ∀ (b : Addr) (o : Obj), b ≠ a → hp.get? b = some o → h1.get? b = some o := fun b o nb w => by
    rw [hsame.2 b (old w)]
    exact (Heap.get?_update_ne _ _ _ _ nb).trans (Heap.get?_push_of_some _ w)
  have self1 : h1.get? a = some { cls := .ref C, dict := some hp.objs.size, data := .fields #[.ref t1, .none, .none, .none, .bool false, .none] } := by
    rw [hsame.2 a aold]
    exact Heap.get?_update_self _ pushed rfl
  have nota : ∀ {b : Addr}, H b = none → b ≠ a := fun {b} w e => by
    rw [e, ea] at w
    cases w
  have keptT : ∀ {b : Addr} {o : HO}, H b = some o → b ≠ a → (upd (upd H hp.objs.size (exd hp.objs.size [(f, y)])) a (exo a C (some hp.objs.size))) b = some o := fun {b o} w nb => by
    rw [upd_ne nb, upd_ne (ne_of_none w fresh)]
    exact w
  have unh : Un X.fs [] H (upd (upd H hp.objs.size (exd hp.objs.size [(f, y)])) a (exo a C (some hp.objs.size))) hp h1 := by
    constructor
    · exact fun b o w n _ _ => rest b o (nota n) w
    · exact fun b o w n _ _ => ⟨o.slots, rest b o (nota n) w⟩
    · intro b o w n _
      rw [upd_ne (nota n), upd_ne (old w)]
      exact n
    · intro b o w _
      by_cases e : b = a
      · subst e
        exact ⟨_, self1⟩
      · exact ⟨o, rest b o e w⟩
    · exact fun b xs w => keptT w (at_ne ea w exo_tup)
    · exact fun b o v w => keptT w (at_ne ea w exo_frz)
    · exact fun b ps w => ⟨#[], by rw [keptT w (at_ne ea w exo_tbl)]; simp⟩
  refine done hp.objs.size _ fresh (Ne.symm aold) (I.un (t' := tk1) unh fun b o w => ?_)
  by_cases e : b = a
  · subst e
    rw [upd_same] at w
    cases w
    exact exo_ok self1
  rw [upd_ne e] at w
  by_cases e2 : b = hp.objs.size
  · subst e2
    rw [upd_same] at w
    cases w
    exact exd_ok hns (relO_put (fs := []) ry fun g => True.intro)
  rw [upd_ne e2] at w
  refine (I.hok b o w).stay (fun c v hc z => rest c v ?_ z) (fun c hc => keptT hc (at_ne ea hc exo_own)) (fun c xs hc => keptT hc (at_ne ea hc exo_tup))
  rcases hc with hc | hc
  · rw [hc]
    exact e
  · exact at_ne ea hc exo_own
theorem gbase_ke {us : List Value} {Qv : Value → Shared → Prop} (T : Gx_ke X.K C) (I : Inv X pins σ H s) (ea : H a = some (exo a C none)) (hl : us.length ≤ sizeLine) (done : ∀ s', Inv X pins σ H s' → Qv .none s') :
    wpAny (model X.prog X.w) A (call (.builtin "KeyError.__init__") (.ref a :: us)) Qv E s := by
  obtain ⟨nm, q, N, bs, bm, sn, sub, ab, col, dd, k0, k1, k2, k3, k5, hC, hbm⟩ := T.cls
  obtain ⟨t1, here⟩ := exo_at I.hok ea
  obtain ⟨hp, gs, dr, tk, os⟩ := s
  refine wpAny_call (init_ke (by rw [PySem.W.excTail_contains _ bm hbm]; decide +kernel) (I.kIn _ _ hC) here hl fun h1 t2 kept self1 => ?_)
  have back : upd H a (exo a C none) = H := funext fun b => by
    by_cases e : b = a
    · subst e
      rw [upd_same]
      exact ea.symm
    · exact upd_ne e
  have J := I.write (t' := tk) (x := a) (e := a) (o := exo a C none) (by rw [ea]; trivial) (.inl rfl) kept ⟨_, self1⟩ (exo_ok self1)
  rw [back] at J
  exact done _ J
end
def tBi_ke (K : PySem.W.Frag) (ta : TA) : TE := fun σ H Q => ta σ H fun vs H1 => ∃ (a C : Addr) (ws : List V), vs = .ref a :: ws ∧ ws.length ≤ 1000 ∧ Gx_ke K C ∧ H1 a = some (exo a C none) ∧ Q .non H1
def tSt_ke (K : PySem.W.Frag) (f : Str) (to te : TE) : TS := fun D σ H => te σ H fun y H1 => to σ H1 fun x H2 => ∃ a C : Addr, x = .ref a ∧ Gx_ke K C ∧ PySem.W.findIn K (.ref C) f = some none ∧ H2 a = some (exo a C none) ∧ ∀ dx, H2 dx = none → dx ≠ a → D.nx σ (upd (upd H2 dx (exd dx [(f, y)])) a (exo a C (some dx)))
theorem typ_ke : typeOf (.type "KeyError") = pure (.type "type") := by kernel_rfl
section
variable {X : Cx} {o e : Expr} {es : List Expr} {to te : TE} {ta : TA} {f : Str} {p p' p1 p2 pos : Pos}
theorem pe_bi_ke {pl : Sem Bool} (hg : Gl X "KeyError") (hm : X.mg "KeyError" = none) (vV : PySem.W.findCls X.K (.type "KeyError") (.type "type") "__init__" = some (.val (.builtin "KeyError.__init__"))) (ha : PA X (e :: es) ta)
    (shape : eval (.Call (.Attribute (.Name "KeyError" p1) "__init__" p2) (e :: es) [] pos) X.env = (do
      let base ← eval (.Name "KeyError" p1) X.env
      standAt p2.atName
      let (fn, ahead) ← holding [base] (getMethod base "__init__" pl)
      callWith pos fn ahead (backTo pos (starEach (e :: es) X.env)) (backToKw pos (keywordEach [] X.env))) := by rfl)
    (he : starEach (e :: es) X.env = (false, eval e X.env) :: starEach es X.env := by rfl) (hpl : (backTo pos (starEach es X.env)).any (·.1) = false := by rfl) :
    PE X (.Call (.Attribute (.Name "KeyError" p1) "__init__" p2) (e :: es) [] pos) (tBi_ke X.K ta) := by
  constructor
  intro pins s σ H Q I h
  refine PySem.W.methodCall_KW (ld_blt I hg hm PyProof.Rows.Boot.«KeyError» ?_ (by decide) (by decide)) shape
  obtain ⟨m, fr⟩ := I.fr
  refine PySem.W.method_type fr I.ok.mod.kin typ_ke (by decide +kernel) vV (by decide +kernel) ?_
  show wpAny _ _ (callWith pos (Value.builtin "KeyError.__init__") [] (backTo pos (starEach (e :: es) X.env)) []) _ _ _
  refine PyProof.Rows.callWith_method1 (thn (ha.run pos pins _ σ H _ (I.tok _) h) fun us s1 got => ?_) he hpl
  obtain ⟨vs, H1, I1, r1, a, C, ws, rfl, few, T, ea, q⟩ := got
  cases r1 with
  | @cons _ u0 _ ur ra rr =>
    cases (show u0 = Value.ref a from ra)
    refine gbase_ke T I1 ea ?_ fun s' J => ⟨.non, H1, J, rfl, q⟩
    have l1 := Paired.length rr
    rw [sizeLine_eq]
    omega
theorem ps_st_ke (ho : PE X o to) (he : PE X e te) (hs : swapsWith e (some (.Attribute o f p')) pos.line X.env = pure false := by rfl) : PS X (.Assign [.Attribute o f p'] e pos) (tSt_ke X.K f to te) := by
  constructor
  intro pins s σ H D I h
  refine plainObj_wpAny_Assign_Attribute (thn (he.run pins s σ H _ I h) fun v s1 got => ?_) hs
  obtain ⟨y, H1, I1, r1, q1⟩ := got
  refine thn (ho.run pins s1 σ H1 _ I1 q1) fun u s2 got2 => ?_
  obtain ⟨x, H2, I2, r2, a, C, rfl, T, hno, ea, q⟩ := got2
  cases (show u = Value.ref a from r2)
  exact gfirst_ke T I2 ea hno r1 fun dx s' n ne J => ⟨σ, _, J, q dx n ne⟩
theorem pmk_ke {CX : CXT} {x : Str} {C fI : Addr} {k : Nat} {fd : FuncData} {ps : List Str} {sp : Sp} (T : Gx_ke X.K C) (iC : PySem.W.findIn X.K (.ref C) "__init__" = some (some (.ref fI))) (tI : PySem.W.typeIn X.K (.ref fI) = some (.type "function"))
    (F1 : FnOk X.prog X.w X.K X.mg X.base CX k fI fd ps sp) (hr : Room (k + 1) X.A) (hb : Binds X.K fd ps []) (hx : Passes CX X (fun _ _ _ => False)) (hg : Gl X x) (hm : X.mg x = some (.ref C)) (ha : PA X (e :: es) ta)
    (hdb : (x == ("__debug__" : Str)) = false := by decide) (he : starEach (e :: es) X.env = (false, eval e X.env) :: starEach es X.env := by rfl) (hpl : (backTo pos (starEach es X.env)).any (·.1) = false := by rfl) :
    PMk X (.Call (.Name x p) (e :: es) [] pos) (tMkO C sp [] ta) := by
  intro pins s σ H Q I h
  obtain ⟨nm, q, N, bs, bm, sn, sub, ab, col, dd, k0, k1, k2, k3, k5, hC, hbm⟩ := T.cls
  refine wpAny_Call_Name_kw (ld_glob I hg hm ?_ hdb)
  refine PySem.W.callWith_K (h₀ := X.base) I.ok.mod.kin T.hk (thn (ha.run pos pins s σ H _ I h) fun us s1 got => ?_) he hpl
  obtain ⟨vs, H1, I1, r1, few, q1⟩ := got
  refine ⟨I1.kIn, ?_⟩
  change wpAny (model X.prog X.w) _ (call (.ref C) us) _ _ s1
  obtain ⟨hp, gs, dr, tk, os⟩ := s1
  have le : hp.objs.size ≤ hp.objs.size + 1 := Nat.le_succ _
  have want := q1 (hp.objs.size + 1) (I1.hok.fresh le)
  have stays : ∀ b w, hp.get? b = some w → ((hp.push (PySem.W.kdv_tup us)).push (PySem.HandSPX.excO C hp.objs.size)).get? b = some w := fun b w z => Heap.get?_push_of_some _ (Heap.get?_push_of_some _ z)
  have itself : ((hp.push (PySem.W.kdv_tup us)).push (PySem.HandSPX.excO C hp.objs.size)).get? (hp.objs.size + 1) = some (PySem.HandSPX.excO C hp.objs.size) := by
    heap_get
  have I2 : Inv X pins σ (upd H1 (hp.objs.size + 1) (exo (hp.objs.size + 1) C none)) ⟨((hp.push (PySem.W.kdv_tup us)).push (PySem.HandSPX.excO C hp.objs.size)), gs, dr, tk, os⟩ := I1.laid (t' := tk) (a := hp.objs.size + 1) (o := exo (hp.objs.size + 1) C none) (h' := ((hp.push (PySem.W.kdv_tup us)).push (PySem.HandSPX.excO C hp.objs.size))) stays le (exo_ok itself)
  have r2 : Vals (V.ref (hp.objs.size + 1) :: (vs ++ [])) (Value.ref (hp.objs.size + 1) :: (us ++ [])) := .cons rfl (r1.append .nil)
  have lens : (Value.ref (hp.objs.size + 1) :: us ++ []).length = ps.length := by
    have l := r2.length
    rw [F1.len _ _ _ _ want] at l
    exact l.symm
  have short : us.length ≤ sizeLine := by
    have l := Paired.length r1
    rw [sizeLine_eq]
    omega
  have bound : BindsTo ⟨((hp.push (PySem.W.kdv_tup us)).push (PySem.HandSPX.excO C hp.objs.size)), gs, dr, tk, os⟩ fd ⟨Value.ref (hp.objs.size + 1) :: us, []⟩ (ps.zip (Value.ref (hp.objs.size + 1) :: (us ++ []))) := by
    have b := hb _ (Value.ref (hp.objs.size + 1) :: us) I2.kIn lens
    rw [List.cons_append] at b
    exact b
  refine wpAny_call (call_ke (by rw [PySem.W.excTail_contains _ bm hbm]; decide +kernel) (by rw [PySem.W.excTail_contains _ bm hbm]; decide +kernel) (by rw [PySem.W.excTail_contains _ bm hbm]; decide +kernel) (I1.kIn _ _ hC) short (PySem.W.looks_findIn I1.kIn iC) (fun me => PySem.W.bind_fn I1.kIn me tI) ?_)
  refine codeAny_mono (F1.run _ X.stack _ _ ⟨Value.ref (hp.objs.size + 1) :: us, []⟩ (Value.ref (hp.objs.size + 1) :: (us ++ [])) _ _ (fun _ _ _ => False) (hr.make C us []) (I2.env0.make C us []) bound r2 want) fun r s' got => ?_
  rcases r with er | fl
  · exact hx pins σ _ _ er s' I2 got
  cases fl with
  | ret v =>
    obtain ⟨v1, H2, os2, bare2, un2, hok2, rv, ev, d, fs, ea, ed, hd1, q2⟩ := got
    subst ev
    obtain ⟨h2, g2, d2, t2, os'⟩ := s'
    exact ⟨rv, mk_end (raises_own T.hb T.ht) I1 le stays un2 hok2 os2 bare2 ea ed hd1 q2⟩
  | next => exact False.elim got
  | brk => exact False.elim got
  | cont => exact False.elim got
end
section
variable {X : Cx} {pins : List (Addr × Obj)} {σ : L2.St} {H : Hp} {s : Shared} {a C dx : Addr} {f : Str} {y : V} {u : Value} {fs : List (Str × V)} {Q : Unit → Shared → Prop} {E : Value → Shared → Prop} {A : Around}
end
section
variable {X : Cx} {o e : Expr} {to te : TE} {f : Str} {p' pos : Pos}
end
end My
namespace DL
open PySem PySem.Spec PyProof.Rows L2
def ExcDk (P : Program) (w : World) (K : PySem.W.Frag) (mg : Str → Option Value) (base : Heap) (k : Nat) (x : Str) (C : Addr) (ns : List Str) (okV : List V → Prop) : Prop :=
  ∃ (fI : Addr) (fd : FuncData) (ps : List Str), My.Gx_ke K C ∧ PySem.W.findIn K (.ref C) "__init__" = some (some (.ref fI)) ∧ PySem.W.typeIn K (.ref fI) = some (.type "function") ∧ FnOk P w K mg base CX0 k fI fd ps (spExc C ns okV) ∧ Binds K fd ps [] ∧ mg x = some (.ref C)
section
variable {X : Cx} {Z : WX} {e : Expr} {es : List Expr} {t : DA'} {C : Addr} {ns : List Str} {okV : List V → Prop} {okW : List W → Prop} {x : Str} {p pos pos' : Pos} {k j : Nat}
theorem ds_raiseEk (c : ExcDk X.prog X.w X.K X.mg X.base k x C ns okV) (tk : Takes X Z) (hr : Room j X.A) (ha : DA X Z (e :: es) t) (hok : ∀ S H ws vs, RWs X.K S H ws vs → okW ws → okV vs) (hk : k + 1 ≤ j := by decide) (hn : ns.length ≤ 1000 := by decide) (hg : Gl X x := by rfl) (hc : X.calm = true := by rfl)
    (hdb : (x == ("__debug__" : Str)) = false := by decide) (he : starEach (e :: es) X.env = (false, eval e X.env) :: starEach es X.env := by rfl) (hpl : (backTo pos (starEach es X.env)).any (·.1) = false := by rfl) :
    DS X Z (.Raise (some (.Call (.Name x p) (e :: es) [] pos)) none pos') (dRaise C ns okW t) := by
  obtain ⟨fI, fd, ps, T, iC, tI, F, hb, hm⟩ := c
  exact ds_raise tk (My.pmk_ke T iC tI F (hr.mono hk) hb pass0 hg hm ha hdb he hpl) hn hok hc
end
def okW1 : List V → Prop := fun us => ∃ v : V, us = [v]
def okW1W : List W → Prop := fun ws => ∃ w : W, ws = [w]
theorem okW1_of {K : PySem.W.Frag} (S : Sto) (H : Hp) (ws : List W) (vs : List V) (r : RWs K S H ws vs) (h : okW1W ws) : okW1 vs := by
  obtain ⟨y, rfl⟩ := h
  cases r with
  | cons a r => cases r; exact ⟨_, rfl⟩
end DL
namespace My
open PySem PySem.Spec PyProof.Rows L2
section
variable {X : Cx} {pins : List (Addr × Obj)} {σ : L2.St} {H : Hp} {s : Shared} {a C : Addr} {f : Str} {y : V} {u : Value} {Q : Unit → Shared → Prop} {E : Value → Shared → Prop} {A : Around}
end
section
variable {X : Cx} {o e : Expr} {es : List Expr} {to te : TE} {ta : TA} {f : Str} {p p' p1 p2 pos : Pos}
end
section
variable {X : Cx} {pins : List (Addr × Obj)} {σ : L2.St} {H : Hp} {s : Shared} {a C dx : Addr} {f : Str} {y : V} {u : Value} {fs : List (Str × V)} {Q : Unit → Shared → Prop} {E : Value → Shared → Prop} {A : Around}
end
section
variable {X : Cx} {o e : Expr} {to te : TE} {f : Str} {p' pos : Pos}
end
end My
namespace DL
open PySem PySem.Spec PyProof.Rows L2
section
variable {X : Cx} {Z : WX} {e : Expr} {es : List Expr} {t : DA'} {C : Addr} {ns : List Str} {okV : List V → Prop} {okW : List W → Prop} {x : Str} {p pos pos' : Pos} {k j : Nat}
end
variable {P : Program} {w : World} {K : PySem.W.Frag} {mg : Str → Option Value} {base : Heap}
theorem FnOk.calm {k : Nat} {f : Addr} {fd : FuncData} {ps : List Str} {sp sp' : Sp} (F : FnOk P w K mg base (L2.CX P w) k f fd ps sp) (h : ∀ vs H Q E, sp' vs H Q E → sp vs H Q fun _ _ _ => False) : FnOk P w K mg base CX0 k f fd ps sp' := by
  refine ⟨fun vs H Q E q => F.len vs H Q _ (h _ _ _ _ q), fun A outer s H args us vs Q E hr he hb hv hs => ?_⟩
  have r := F.run A outer s H args us vs Q _ hr he hb hv (h _ _ _ _ hs)
  refine codeAny_mono r ?_
  rintro (e | fl) s' hx
  · obtain ⟨a, B, H', cls, d, _, _, _, _, _, _, _, e⟩ := hx
    exact e.elim
  · cases fl <;> exact hx
theorem FnOk.calmU {k : Nat} {f : Addr} {fd : FuncData} {ps : List Str} {dsp dsp' : DSp} (F : FnOk P w K mg base (L2.CX P w) k f fd ps (uSp K dsp)) (h : ∀ ws S Q E, dsp' ws S Q E → dsp ws S Q fun _ _ _ => False) : FnOk P w K mg base CX0 k f fd ps (uSp K dsp') := by
  refine FnOk.calm F fun vs H Q E hs => ?_
  obtain ⟨ws, S, Qd, Ed, r, rs, hd, f, fx⟩ := hs
  exact ⟨ws, S, Qd, _, r, rs, h _ _ _ _ hd, f, fun _ _ _ _ _ _ _ _ e => e.elim⟩
theorem ifE_b {t : DT'} {ta tb : DE'} {ω : Om} {S : Sto} {Q : WQ} (b : Bool) (h : ∀ Q : Bool → Sto → Prop, Q b S → t ω S Q) (ht : b = true → ta ω S Q) (hf : b = false → tb ω S Q) : dIf t ta tb ω S Q := by
  refine h _ ?_
  cases b with
  | true => rw [if_pos rfl]; exact ht rfl
  | false => rw [if_neg Bool.false_ne_true]; exact hf rfl
section
variable {K : PySem.W.Frag} {S : Sto} {H : Hp}
end
def ov (S1 S : Sto) : Sto := fun a => match S1 a with
  | some o => some o
  | none => S a
def NoTup (S : Sto) : Prop := ∀ a ps, S a ≠ some (.tup ps)
section
variable {K : PySem.W.Frag} {S S1 : Sto} {H H1 : Hp}
end
section
variable {P : Program} {w : World} {K : PySem.W.Frag} {mg : Str → Option Value} {base : Heap} {CX : CXT} {k : Nat} {f : Addr} {fd : FuncData} {ps : List Str} {dsp : DSp}
end
def Sub (S S' : Sto) : Prop := ∀ a o, S a = some o → S' a = some o
def Itr (K : PySem.W.Frag) (a : Addr) (N : Nat) : It where
  go := fun i H => ∃ xs : List V, SqL K H a xs ∧ xs.length = N ∧ i < N
  yld := fun i H v H' => H' = H ∧ ∀ xs : List V, SqL K H a xs → xs.reverse[i]? = some v
  stop := fun i H => ∃ xs : List V, SqL K H a xs ∧ i = N
end DL
namespace L2
open PySem PySem.Spec PyProof.Rows
section
variable {X : Cx} {o : Expr} {p pos apos mpos : Pos} {td : TE}
end
end L2
namespace DL
open PySem PySem.Spec PyProof.Rows L2
section
variable {X : Cx} {Z : WX} {o : Expr} {p pos apos mpos : Pos} {to : DE'}
end
section
variable {X : Cx} {Z : WX} {e : Expr} {kws : List Keyword} {t tk : DA'} {p pos : Pos} {k : Nat}
end
def topS (i : Nat) : Stmt := PySem.Challenge.pw_whistleboard_k06_no_places.main.body.getD i (.Pass ⟨0, 0, 0, 0⟩)
abbrev w_SLOW_HOURS : W := .tup [.int 7, .int 8, .int 16, .int 17]
abbrev w_MOST_PLACES : W := .int 40
abbrev w_MOST_ROADS : W := .int 80
abbrev w_MOST_STATIONS : W := .int 12
abbrev w_MOST_RISK : W := .int 4
abbrev w_MOST_MINUTES : W := .int 60
abbrev w_MOST_SLOW : W := .int 60
structure Txt (K : PySem.W.Frag) (w : World) (mg : Str → Option Value) (c_Ground c_BadTime c_NoGround c_NoPlace c_NoProof c_NoKind c_BadText c_NoDeed c_NoRow c_TooMany c_NotDone c_NoBook c_NoCall c_NoEngine c_NoEngines c_NoText c_Nothing c_NoSaying : Addr) : Prop where
  z_len : mg "len" = none
  z_abs : mg "abs" = none
  z_all : mg "all" = none
  z_any : mg "any" = none
  z_str : mg "str" = none
  z_int : mg "int" = none
  z_isinstance : mg "isinstance" = none
  z_range : mg "range" = none
  z_max : mg "max" = none
  z_min : mg "min" = none
  z_bool : mg "bool" = none
  z_list : mg "list" = none
  z_tuple : mg "tuple" = none
  z_zip : mg "zip" = none
  z_enumerate : mg "enumerate" = none
  z_sorted : mg "sorted" = none
  z_dict : mg "dict" = none
  z_KeyError : mg "KeyError" = none
  g_LETTERS : GW K mg "LETTERS" w_LETTERS
  g_LONGEST_NAME : GW K mg "LONGEST_NAME" w_LONGEST_NAME
  g_SLOW_HOURS : GW K mg "SLOW_HOURS" w_SLOW_HOURS
  g_MOST_PLACES : GW K mg "MOST_PLACES" w_MOST_PLACES
  g_MOST_ROADS : GW K mg "MOST_ROADS" w_MOST_ROADS
  g_MOST_STATIONS : GW K mg "MOST_STATIONS" w_MOST_STATIONS
  g_MOST_RISK : GW K mg "MOST_RISK" w_MOST_RISK
  g_MOST_MINUTES : GW K mg "MOST_MINUTES" w_MOST_MINUTES
  g_MOST_SLOW : GW K mg "MOST_SLOW" w_MOST_SLOW
  gk_BadTime : GW K mg "BadTime" (.ref c_BadTime)
  gk_NoGround : GW K mg "NoGround" (.ref c_NoGround)
  gk_NoPlace : GW K mg "NoPlace" (.ref c_NoPlace)
  gk_NoProof : GW K mg "NoProof" (.ref c_NoProof)
  gk_NoKind : GW K mg "NoKind" (.ref c_NoKind)
  gk_BadText : GW K mg "BadText" (.ref c_BadText)
  gk_NoDeed : GW K mg "NoDeed" (.ref c_NoDeed)
  gk_NoRow : GW K mg "NoRow" (.ref c_NoRow)
  gk_TooMany : GW K mg "TooMany" (.ref c_TooMany)
  gk_NotDone : GW K mg "NotDone" (.ref c_NotDone)
  gk_NoBook : GW K mg "NoBook" (.ref c_NoBook)
  gk_NoCall : GW K mg "NoCall" (.ref c_NoCall)
  gk_NoEngine : GW K mg "NoEngine" (.ref c_NoEngine)
  gk_NoEngines : GW K mg "NoEngines" (.ref c_NoEngines)
  gk_NoText : GW K mg "NoText" (.ref c_NoText)
  gk_Nothing : GW K mg "Nothing" (.ref c_Nothing)
  gk_NoSaying : GW K mg "NoSaying" (.ref c_NoSaying)
  kk_NoPlace_BadTime : PySem.W.kitOne K (.ref c_NoPlace) (.ref c_BadTime) = some false
  kk_NoPlace_NoGround : PySem.W.kitOne K (.ref c_NoPlace) (.ref c_NoGround) = some false
  kk_NoPlace_NoPlace : PySem.W.kitOne K (.ref c_NoPlace) (.ref c_NoPlace) = some true
  kk_NoPlace_NoProof : PySem.W.kitOne K (.ref c_NoPlace) (.ref c_NoProof) = some false
  kk_NoPlace_NoKind : PySem.W.kitOne K (.ref c_NoPlace) (.ref c_NoKind) = some false
  kk_NoPlace_BadText : PySem.W.kitOne K (.ref c_NoPlace) (.ref c_BadText) = some false
  kk_NoPlace_NoDeed : PySem.W.kitOne K (.ref c_NoPlace) (.ref c_NoDeed) = some false
  kk_NoPlace_NoRow : PySem.W.kitOne K (.ref c_NoPlace) (.ref c_NoRow) = some false
  kk_NoPlace_TooMany : PySem.W.kitOne K (.ref c_NoPlace) (.ref c_TooMany) = some false
  kk_NoPlace_NotDone : PySem.W.kitOne K (.ref c_NoPlace) (.ref c_NotDone) = some false
  kk_NoPlace_NoBook : PySem.W.kitOne K (.ref c_NoPlace) (.ref c_NoBook) = some false
  kk_NoPlace_NoCall : PySem.W.kitOne K (.ref c_NoPlace) (.ref c_NoCall) = some false
  kk_NoPlace_NoEngine : PySem.W.kitOne K (.ref c_NoPlace) (.ref c_NoEngine) = some false
  kk_NoPlace_NoEngines : PySem.W.kitOne K (.ref c_NoPlace) (.ref c_NoEngines) = some false
  kk_NoPlace_NoText : PySem.W.kitOne K (.ref c_NoPlace) (.ref c_NoText) = some false
  kk_NoPlace_Nothing : PySem.W.kitOne K (.ref c_NoPlace) (.ref c_Nothing) = some false
  kk_NoPlace_NoSaying : PySem.W.kitOne K (.ref c_NoPlace) (.ref c_NoSaying) = some false
  xm_NoPlace_NoPlace : PySem.W.exmOne K (.ref c_NoPlace) (.ref c_NoPlace) = some true
  kb_NoPlace_KeyError : PySem.W.kitOne K (.ref c_NoPlace) (.type "KeyError") = some true
  xc_NoPlace : ExcC K c_NoPlace
  xf_NoPlace_place : PySem.W.findIn K (.ref c_NoPlace) "place" = some none
  xall_NoPlace : ∀ D ∈ [c_NoPlace], ExcC K D
  xfld_NoPlace_place : ∀ D ∈ [c_NoPlace], ExcC K D ∧ PySem.W.findIn K (.ref D) "place" = some none
  nf_Ground : NotFst K c_Ground
  ow_Ground : OwnC K c_Ground
  ne_Ground : PySem.W.findIn K (.ref c_Ground) "__ne__" = some (some (.builtin "object.__ne__"))
  gc_Ground : mg "Ground" = some (.ref c_Ground)
  cl_Ground : Cls K c_Ground
  n_Ground_risks : NoAttr K c_Ground "risks"
  n_Ground_places : NoAttr K c_Ground "places"
  n_Ground_roads : NoAttr K c_Ground "roads"
  n_Ground_stations : NoAttr K c_Ground "stations"
  n_Ground_sorted_places : NoAttr K c_Ground "sorted_places"
  n_Ground_sorted_roads : NoAttr K c_Ground "sorted_roads"
  n_Ground_sorted_stations : NoAttr K c_Ground "sorted_stations"
abbrev s_is_whole : Stmt := topS 22
abbrev N_is_whole : List Str := ["thing"]
theorem sc_is_whole : FnScope N_is_whole ["thing"] (defScope s_is_whole) := ⟨rfl, rfl, rfl, by decide +kernel, rfl, by decide +kernel, by decide +kernel⟩
def td_is_whole : DS' :=
    (ζY (ζk (dUn (dIs .int) (ζF 0)) (ζl (dUn (dIs .bool) (ζF 0)))))
def sp_is_whole : DSp := fun ws S Q _ => ∃ x, ws = [x] ∧ Pl x = true ∧ Q (.bl (whole x)) S
theorem len_is_whole {ws S Q E} (h : sp_is_whole ws S Q E) : ws.length = 1 := by obtain ⟨x, rfl, _⟩ := h; rfl
def κa := @view_c_non
def κb := @view_c_bl
def κc := @view_c_int
def κd := @view_c_str
def κe := @view_c_tup
def κf := @view_c_lst
def κg := @view_c_scr
def κh := @view_c_dct
def κi := @view_c_ins
def κj := @List.getElem?_cons_zero
def κk := @List.getElem?_cons_succ
def κl := @List.set_cons_zero
def κm := @List.set_cons_succ
def κn := @List.map_cons
def κo := @List.map_nil
def κp := @List.length_cons
def κq := @List.length_nil
def κr := @List.replicate_succ
def κs := @List.replicate_zero
def κt := @List.nil_append
def κu := @List.cons_append
def κv := @Bool.not_true
def κw := @Bool.not_false
def κx := @if_true
def κy := @wkey_int
def κz := @wkey_str
def κA := @atI_0
def κB := @atI_1
def κC := @atI_2
def κD := @atI_3
def κE := @up_same
def κF := @if_false
def κG := @Bool.false_eq_true
def κH := @Bool.true_eq_false
def κI := @tru_non
def κJ := @isi_int_non
def κK := @isi_bool_non
def κL := @isi_str_non
def κM := @isi_tup_non
def κN := @isi_lst_non
def κO := @tru_bl
def κP := @isi_int_bl
def κQ := @isi_bool_bl
def κR := @isi_str_bl
def κS := @isi_tup_bl
def κT := @isi_lst_bl
def κU := @tru_int
def κV := @isi_int_int
def κW := @isi_bool_int
def κX := @isi_str_int
def κY := @isi_tup_int
def κZ := @isi_lst_int
def ιa := @tru_str
def ιb := @isi_int_str
def ιc := @isi_bool_str
def ιd := @isi_str_str
def ιe := @isi_tup_str
def ιf := @isi_lst_str
def ιg := @tru_tup
def ιh := @isi_int_tup
def ιi := @isi_bool_tup
def ιj := @isi_str_tup
def ιk := @isi_tup_tup
def ιl := @isi_lst_tup
def ιm := @tru_lst
def ιn := @isi_int_lst
def ιo := @isi_bool_lst
def ιp := @isi_str_lst
def ιq := @isi_tup_lst
def ιr := @isi_lst_lst
def ιs := @isL_lst
def ιt := @seqW_lst
def ιu := @seqW_tup
def ιv := @seqW_str
def ιw := @seqW_scr
def ιx := @sq2_lst
def ιy := @sq2_tup
def ιz := @inW_sign
local macro_rules | `(tactic| array_get_dec) => `(tactic| simp only [↓ζE,↓ζF,↓dC,↓dOp,↓dUn,↓dI,↓dI0,↓ζG,↓ζH,↓ζI,↓ζJ,↓ζK,↓ζL,↓ζM,↓dEq,↓dNe,↓dLt,↓dLe,↓dGt,↓dGe,↓ζN,↓ζO,↓ζj,↓ζc,↓ζP,↓dOr,↓ζQ,↓ζk,↓ζl,↓dIf,↓ζR,↓ζm,↓ζS,↓ζT,↓ζn,↓dCB,↓ζU,↓ζV,↓ζo,↓ζp,↓ζW,↓ζb,↓ζa,↓ζd,↓ζq,↓ζX,↓ζr,↓ζY,↓ζZ,↓ξa,↓ζs,↓ζt,↓ζe,↓Om.set,↓ζu,↓dIx,↓dNo,↓ζv,↓dSl,↓ξb,↓dBM,↓ξc,↓ζg,↓dIs,↓ζw,↓ζx,↓ζy,↓ξd,↓ξe,↓ξf,↓ζz,↓ξg,↓ζA,↓ζB,↓ζC,↓ζD,κa,κb,κc,κd,κe,κf,κg,κh,κi,↓ζh,↓wp,↓wps,↓dIn,↓ζi,↓dDg,κj,κk,κl,κm,κn,κo,κp,κq,κr,κs,κt,κu,κv,κw,κx,κy,κz,κA,κB,κC,κD,κE,κF,κG,κH,κI,κJ,κK,κL,κM,κN,κO,κP,κQ,κR,κS,κT,κU,κV,κW,κX,κY,κZ,ιa,ιb,ιc,ιd,ιe,ιf,ιg,ιh,ιi,ιj,ιk,ιl,ιm,ιn,ιo,ιp,ιq,ιr,ιs,ιt,ιu,ιv,ιw,ιx,ιy,ιz])
theorem hd_is_whole (ws S Q E) (h : sp_is_whole ws S Q E) : td_is_whole { nx := fun _ S' => frzQ Q .non S', rt := frzQ Q } ⟨ζh N_is_whole ws, XF⟩ S := by
  obtain ⟨x, rfl, d, q⟩ := h
  have q := frzQ.mk q
  cases x <;> first | cases d | skip
  all_goals simp only [whole, td_is_whole] at q ⊢
  all_goals (array_get_dec)
  all_goals exact q
section
variable {P : Program} {w : World} {K : PySem.W.Frag} {mg : Str → Option Value} {base : Heap} {c_Ground c_BadTime c_NoGround c_NoPlace c_NoProof c_NoKind c_BadText c_NoDeed c_NoRow c_TooMany c_NotDone c_NoBook c_NoCall c_NoEngine c_NoEngines c_NoText c_Nothing c_NoSaying : Addr}
theorem ok_is_whole {f : Addr} {fd : FuncData} (F : Fun K "is_whole" "is_whole" s_is_whole f fd) (T : Txt K w mg c_Ground c_BadTime c_NoGround c_NoPlace c_NoProof c_NoKind c_BadText c_NoDeed c_NoRow c_TooMany c_NotDone c_NoBook c_NoCall c_NoEngine c_NoEngines c_NoText c_Nothing c_NoSaying) : FnOk P w K mg base CX0 1 f fd ["thing"] (uSp K (sp_is_whole)) :=
  Fun.okF F sc_is_whole (td_is_whole) (fun cdv A outer s H E hr =>
    (dss_one (ds_ret (de_and (de_isi .int (dv 0) T.z_isinstance T.z_int) (de_one (de_not (de_isi .bool (dv 0) T.z_isinstance T.z_bool))))))) (fun ws S Q E h => len_is_whole h) (hd_is_whole)
end
abbrev s_is_whole_within : Stmt := topS 23
abbrev N_is_whole_within : List Str := ["thing", "least", "most"]
theorem sc_is_whole_within : FnScope N_is_whole_within ["thing", "least", "most"] (defScope s_is_whole_within) := ⟨rfl, rfl, rfl, by decide +kernel, rfl, by decide +kernel, by decide +kernel⟩
theorem st_is_whole_within {x0 x1 x2 : W} : ζh N_is_whole_within [x0, x1, x2] = [some x0, some x1, some x2] := rfl
def td_is_whole_within : DS' :=
    (ζY (ζk (ζu sp_is_whole (ζm (ζF 0) ζR)) (ζc dLe dLe (ζF 1) (ζF 0) (ζF 2))))
def sp_is_whole_within : DSp := fun ws S Q _ => ∃ x lo hi, ws = [x, .int lo, .int hi] ∧ Pl x = true ∧ Q (.bl (within lo hi x)) S
theorem len_is_whole_within {ws S Q E} (h : sp_is_whole_within ws S Q E) : ws.length = 3 := by obtain ⟨x, lo, hi, rfl, _⟩ := h; rfl
theorem hd_is_whole_within (ws S Q E) (h : sp_is_whole_within ws S Q E) : td_is_whole_within { nx := fun _ S' => frzQ Q .non S', rt := frzQ Q } ⟨ζh N_is_whole_within ws, XF⟩ S := by
  obtain ⟨x, lo, hi, rfl, d, q⟩ := h
  have q := frzQ.mk q
  simp only [st_is_whole_within, td_is_whole_within]
  (array_get_dec)
  refine ⟨x, rfl, d, ?_⟩
  cases x <;> first | cases d | skip
  all_goals simp only [whole, within] at q ⊢
  all_goals (array_get_dec)
  all_goals try exact q
  rename_i i _
  cases c : decide (lo ≤ i) <;> rw [c] at q <;> exact q
section
variable {P : Program} {w : World} {K : PySem.W.Frag} {mg : Str → Option Value} {base : Heap} {c_Ground c_BadTime c_NoGround c_NoPlace c_NoProof c_NoKind c_BadText c_NoDeed c_NoRow c_TooMany c_NotDone c_NoBook c_NoCall c_NoEngine c_NoEngines c_NoText c_Nothing c_NoSaying : Addr}
theorem ok_is_whole_within {f : Addr} {fd : FuncData} (F : Fun K "is_whole_within" "is_whole_within" s_is_whole_within f fd) (T : Txt K w mg c_Ground c_BadTime c_NoGround c_NoPlace c_NoProof c_NoKind c_BadText c_NoDeed c_NoRow c_TooMany c_NotDone c_NoBook c_NoCall c_NoEngine c_NoEngines c_NoText c_Nothing c_NoSaying) (C_is_whole : CalD P w K mg base 1 "is_whole" sp_is_whole) : FnOk P w K mg base CX0 2 f fd ["thing", "least", "most"] (uSp K (sp_is_whole_within)) :=
  Fun.okF F sc_is_whole_within (td_is_whole_within) (fun cdv A outer s H E hr =>
    (dss_one (ds_ret (de_and (de_call C_is_whole hr (da_cons (dv 0) da_nil)) (de_one (de_chain oc_le oc_le (dv 1) (dv 0) (dv 2))))))) (fun ws S Q E h => len_is_whole_within h) (hd_is_whole_within)
end
abbrev s_is_tuple_within : Stmt := topS 25
abbrev N_is_tuple_within : List Str := ["thing", "least", "most"]
theorem sc_is_tuple_within : FnScope N_is_tuple_within ["thing", "least", "most"] (defScope s_is_tuple_within) := ⟨rfl, rfl, rfl, by decide +kernel, rfl, by decide +kernel, by decide +kernel⟩
theorem st_is_tuple_within {x0 x1 x2 : W} : ζh N_is_tuple_within [x0, x1, x2] = [some x0, some x1, some x2] := rfl
def td_is_tuple_within : DS' :=
    (ζY (ζk (dUn (dIs .tup) (ζF 0)) (ζc dLe dLe (ζF 1) (dCB ζU (ζm (ζF 0) ζR)) (ζF 2))))
def sp_is_tuple_within : DSp := fun ws S Q _ => ∃ x lo hi, ws = [x, .int lo, .int hi] ∧ Pl x = true ∧ Q (.bl (tupIn lo hi x)) S
theorem len_is_tuple_within {ws S Q E} (h : sp_is_tuple_within ws S Q E) : ws.length = 3 := by obtain ⟨x, lo, hi, rfl, _⟩ := h; rfl
theorem hd_is_tuple_within (ws S Q E) (h : sp_is_tuple_within ws S Q E) : td_is_tuple_within { nx := fun _ S' => frzQ Q .non S', rt := frzQ Q } ⟨ζh N_is_tuple_within ws, XF⟩ S := by
  obtain ⟨x, lo, hi, rfl, d, q⟩ := h
  have q := frzQ.mk q
  cases x <;> first | cases d | skip
  all_goals simp only [st_is_tuple_within, td_is_tuple_within, tupIn] at q ⊢
  all_goals (array_get_dec)
  all_goals try exact q
  rename_i xs _
  cases c : decide (lo ≤ (xs.length : Int)) <;> rw [c] at q <;> exact q
section
variable {P : Program} {w : World} {K : PySem.W.Frag} {mg : Str → Option Value} {base : Heap} {c_Ground c_BadTime c_NoGround c_NoPlace c_NoProof c_NoKind c_BadText c_NoDeed c_NoRow c_TooMany c_NotDone c_NoBook c_NoCall c_NoEngine c_NoEngines c_NoText c_Nothing c_NoSaying : Addr}
theorem ok_is_tuple_within {f : Addr} {fd : FuncData} (F : Fun K "is_tuple_within" "is_tuple_within" s_is_tuple_within f fd) (T : Txt K w mg c_Ground c_BadTime c_NoGround c_NoPlace c_NoProof c_NoKind c_BadText c_NoDeed c_NoRow c_TooMany c_NotDone c_NoBook c_NoCall c_NoEngine c_NoEngines c_NoText c_Nothing c_NoSaying) : FnOk P w K mg base CX0 1 f fd ["thing", "least", "most"] (uSp K (sp_is_tuple_within)) :=
  Fun.okF F sc_is_tuple_within (td_is_tuple_within) (fun cdv A outer s H E hr =>
    (dss_one (ds_ret (de_and (de_isi .tup (dv 0) T.z_isinstance T.z_tuple) (de_one (de_chain oc_le oc_le (dv 1) (de_callB cd_len T.z_len (da_cons (dv 0) da_nil)) (dv 2))))))) (fun ws S Q E h => len_is_tuple_within h) (hd_is_tuple_within)
end
abbrev s_is_name : Stmt := topS 24
abbrev N_is_name : List Str := ["thing", "sign"]
theorem sc_is_name : FnScope N_is_name ["thing"] (defScope s_is_name) := ⟨rfl, rfl, rfl, by decide +kernel, rfl, by decide +kernel, by decide +kernel⟩
theorem st_is_name {x0 : W} : ζh N_is_name [x0] = [some x0, none] := rfl
def td_is_name : DS' :=
    (ζX (ζZ (dOr (ζQ (ζO (dUn (dIs .str) (ζF 0)))) (ζQ (ζj (ζc dLe dLe (dC (.int 1)) (dCB ζU (ζm (ζF 0) ζR)) (dC w_LONGEST_NAME))))) (ζY (dC (.bl false))) ζq)
    (ζY (dCB ζW (ζm (dLc (ζD (ζF 0)) (.nm 1) dYes (dOp dIn (ζF 1) (dC w_LETTERS)) [1]) ζR))))
def sp_is_name : DSp := fun ws S Q _ => ∃ x, ws = [x] ∧ Pl x = true ∧ Q (.bl (isName x)) S
theorem len_is_name {ws S Q E} (h : sp_is_name ws S Q E) : ws.length = 1 := by obtain ⟨x, rfl, _⟩ := h; rfl
theorem hd_is_name (ws S Q E) (h : sp_is_name ws S Q E) : td_is_name { nx := fun _ S' => frzQ Q .non S', rt := frzQ Q } ⟨ζh N_is_name ws, XF⟩ S := by
  obtain ⟨x, rfl, d, q⟩ := h
  have q := frzQ.mk q
  cases x <;> first | cases d | skip
  all_goals simp only [st_is_name, td_is_name, isName] at q ⊢
  all_goals (array_get_dec)
  all_goals try exact q
  rename_i x _
  by_cases c1 : 1 ≤ x.length
  · have e1 : decide ((1 : Int) ≤ (x.length : Int)) = true := decide_eq_true (by omega)
    have e1' : decide (1 ≤ x.length) = true := by simpa using c1
    rw [e1'] at q
    rw [e1]
    by_cases c2 : x.length ≤ 8
    · have e2 : decide ((x.length : Int) ≤ 8) = true := decide_eq_true (by omega)
      have e2' : decide (x.length ≤ 8) = true := decide_eq_true c2
      rw [e2'] at q
      simp only [e2]
      (array_get_dec)
      refine lcMs (w := .str x) (fun _ h => h) rfl (fun w => .bl (sgn w)) ?_ (fun p acc hp => rfl) (fun w hw => ?_) ?_
      · rw [List.length_map, Array.length_toList]; exact Nat.le_trans c2 (by decide)
      · obtain ⟨c, _, rfl⟩ := List.mem_map.mp hw
        refine ⟨_, rfl, fun p acc hp Qe q => ?_⟩
        (array_get_dec)
        rw [az_iff]
        exact q
      · (array_get_dec)
        have e3 : (x.cps.toList.map fun c => W.str ⟨#[c]⟩).map (fun w => W.bl (sgn w)) = (x.cps.toList.map az).map W.bl := by rw [List.map_map, List.map_map]; rfl
        rw [e3, bls_map]
        have e4 : (x.cps.toList.map az).all id = x.cps.toList.all az := by rw [List.all_map]; rfl
        rw [Bool.true_and, Bool.true_and] at q
        show frzQ Q (.bl ((x.cps.toList.map az).all id)) S
        rw [e4]
        exact q
    · have e2 : decide ((x.length : Int) ≤ 8) = false := decide_eq_false (by omega)
      have e2' : decide (x.length ≤ 8) = false := decide_eq_false c2
      rw [e2'] at q
      simp only [e2]
      exact q
  · have e1 : decide ((1 : Int) ≤ (x.length : Int)) = false := decide_eq_false (by omega)
    have e1' : decide (1 ≤ x.length) = false := decide_eq_false c1
    rw [e1'] at q
    rw [e1]
    exact q
section
variable {P : Program} {w : World} {K : PySem.W.Frag} {mg : Str → Option Value} {base : Heap} {c_Ground c_BadTime c_NoGround c_NoPlace c_NoProof c_NoKind c_BadText c_NoDeed c_NoRow c_TooMany c_NotDone c_NoBook c_NoCall c_NoEngine c_NoEngines c_NoText c_Nothing c_NoSaying : Addr}
theorem ok_is_name {f : Addr} {fd : FuncData} (F : Fun K "is_name" "is_name" s_is_name f fd) (T : Txt K w mg c_Ground c_BadTime c_NoGround c_NoPlace c_NoProof c_NoKind c_BadText c_NoDeed c_NoRow c_TooMany c_NotDone c_NoBook c_NoCall c_NoEngine c_NoEngines c_NoText c_Nothing c_NoSaying) : FnOk P w K mg base CX0 1 f fd ["thing"] (uSp K (sp_is_name)) :=
  Fun.okF F sc_is_name (td_is_name) (fun cdv A outer s H E hr =>
    (dss_cons (ds_if (PW.pt (dw_or (dt_not (dt_tru (de_isi .str (dv 0) T.z_isinstance T.z_str))) (dw_or1 (dt_not (dt_chain oc_le oc_le de_int (de_callB cd_len T.z_len (da_cons (dv 0) da_nil)) (de_glob T.g_LONGEST_NAME)))))) (dss_one (ds_ret de_bl)) dss_nil)
    (dss_one (ds_ret (de_callB cd_all T.z_all (da_cons (de_lc (own := [("sign", 1)]) sc_is_name.nd (di_seq (dv 0)) (blkOk_by (own := [("sign", 1)]) (N := N_is_name) (sc := defScope s_is_name) (by decide +kernel)) (fun _ _ _ _ _ => (dg_nm (i := 1) sc_is_name.nd)) (fun _ _ _ _ _ => dts_nil) (fun _ _ _ _ _ => (de_cmp (oc_in hr) (dv 1) (de_glob T.g_LETTERS)))) da_nil)))))) (fun ws S Q E h => len_is_name h) (hd_is_name)
end
abbrev s_ends_of : Stmt := topS 37
abbrev N_ends_of : List Str := ["road"]
theorem sc_ends_of : FnScope N_ends_of ["road"] (defScope s_ends_of) := ⟨rfl, rfl, rfl, by decide +kernel, rfl, by decide +kernel, by decide +kernel⟩
theorem st_ends_of {x0 : W} : ζh N_ends_of [x0] = [some x0] := rfl
def td_ends_of : DS' :=
    (ζY (dTupM (ζm (dCB ζw (ζm (dOp dIx (ζF 0) (dC (.int 0))) (ζm (dOp dIx (ζF 0) (dC (.int 1))) ζR))) (ζm (dCB ζx (ζm (dOp dIx (ζF 0) (dC (.int 0))) (ζm (dOp dIx (ζF 0) (dC (.int 1))) ζR))) ζR))))
def sp_ends_of : DSp := fun ws S Q _ => ∃ a b m s, ws = [roadW a b m s] ∧ ∀ p, S p = none → Q (.ref p) (up S p (.tup [.str (minS a b), .str (maxS a b)]))
theorem len_ends_of {ws S Q E} (h : sp_ends_of ws S Q E) : ws.length = 1 := by obtain ⟨a, b, m, s, rfl, _⟩ := h; rfl
theorem hd_ends_of (ws S Q E) (h : sp_ends_of ws S Q E) : td_ends_of { nx := fun _ S' => frzQ Q .non S', rt := frzQ Q } ⟨ζh N_ends_of ws, XF⟩ S := by
  obtain ⟨a, b, m, s, rfl, q⟩ := h
  simp only [st_ends_of, td_ends_of, roadW]
  (array_get_dec)
  exact ⟨by show 2 < 1000000; decide, fun p hp => frzQ.mk (q p hp)⟩
section
variable {P : Program} {w : World} {K : PySem.W.Frag} {mg : Str → Option Value} {base : Heap} {c_Ground c_BadTime c_NoGround c_NoPlace c_NoProof c_NoKind c_BadText c_NoDeed c_NoRow c_TooMany c_NotDone c_NoBook c_NoCall c_NoEngine c_NoEngines c_NoText c_Nothing c_NoSaying : Addr}
theorem ok_ends_of {f : Addr} {fd : FuncData} (F : Fun K "ends_of" "ends_of" s_ends_of f fd) (T : Txt K w mg c_Ground c_BadTime c_NoGround c_NoPlace c_NoProof c_NoKind c_BadText c_NoDeed c_NoRow c_TooMany c_NotDone c_NoBook c_NoCall c_NoEngine c_NoEngines c_NoText c_Nothing c_NoSaying) : FnOk P w K mg base CX0 1 f fd ["road"] (uSp K (sp_ends_of)) :=
  Fun.okF F sc_ends_of (td_ends_of) (fun cdv A outer s H E hr =>
    (dss_one (ds_ret (de_tupM (da_cons (de_callB cd_minS T.z_min (da_cons (de_ix (dv 0) de_int) (da_cons (de_ix (dv 0) de_int) da_nil))) (da_cons (de_callB cd_maxS T.z_max (da_cons (de_ix (dv 0) de_int) (da_cons (de_ix (dv 0) de_int) da_nil))) da_nil)))))) (fun ws S Q E h => len_ends_of h) (hd_ends_of)
end
abbrev s_is_place_among : Stmt := topS 38
abbrev N_is_place_among : List Str := ["risks", "thing"]
theorem sc_is_place_among : FnScope N_is_place_among ["risks", "thing"] (defScope s_is_place_among) := ⟨rfl, rfl, rfl, by decide +kernel, rfl, by decide +kernel, by decide +kernel⟩
theorem st_is_place_among {x0 x1 : W} : ζh N_is_place_among [x0, x1] = [some x0, some x1] := rfl
def td_is_place_among : DS' :=
    (ζY (ζk (ζu sp_is_name (ζm (ζF 1) ζR)) (dOp dIn (ζF 1) (ζF 0))))
def sp_is_place_among : DSp := fun ws S Q _ => ∃ ps x, ws = [risksW ps, x] ∧ Pl x = true ∧ Q (.bl (isName x && isPl ps x)) S
theorem len_is_place_among {ws S Q E} (h : sp_is_place_among ws S Q E) : ws.length = 2 := by obtain ⟨ps, x, rfl, _⟩ := h; rfl
theorem hd_is_place_among (ws S Q E) (h : sp_is_place_among ws S Q E) : td_is_place_among { nx := fun _ S' => frzQ Q .non S', rt := frzQ Q } ⟨ζh N_is_place_among ws, XF⟩ S := by
  obtain ⟨ps, x, rfl, d, q⟩ := h
  have q := frzQ.mk q
  simp only [st_is_place_among, td_is_place_among]
  (array_get_dec)
  refine ⟨x, rfl, d, ?_⟩
  (array_get_dec)
  cases c : isName x with
  | false => rw [c] at q; exact q
  | true =>
    rw [c] at q
    cases x <;> first | cases c | skip
    rename_i n _
    simp only [inW_risks]
    exact q
section
variable {P : Program} {w : World} {K : PySem.W.Frag} {mg : Str → Option Value} {base : Heap} {c_Ground c_BadTime c_NoGround c_NoPlace c_NoProof c_NoKind c_BadText c_NoDeed c_NoRow c_TooMany c_NotDone c_NoBook c_NoCall c_NoEngine c_NoEngines c_NoText c_Nothing c_NoSaying : Addr}
theorem ok_is_place_among {f : Addr} {fd : FuncData} (F : Fun K "is_place_among" "is_place_among" s_is_place_among f fd) (T : Txt K w mg c_Ground c_BadTime c_NoGround c_NoPlace c_NoProof c_NoKind c_BadText c_NoDeed c_NoRow c_TooMany c_NotDone c_NoBook c_NoCall c_NoEngine c_NoEngines c_NoText c_Nothing c_NoSaying) (C_is_name : CalD P w K mg base 1 "is_name" sp_is_name) : FnOk P w K mg base CX0 2 f fd ["risks", "thing"] (uSp K (sp_is_place_among)) :=
  Fun.okF F sc_is_place_among (td_is_place_among) (fun cdv A outer s H E hr =>
    (dss_one (ds_ret (de_and (de_call C_is_name hr (da_cons (dv 1) da_nil)) (de_one (de_cmp (oc_in hr) (dv 1) (dv 0))))))) (fun ws S Q E h => len_is_place_among h) (hd_is_place_among)
end
abbrev s_check_size : Stmt := topS 42
abbrev N_check_size : List Str := ["part", "thing", "least", "most"]
theorem sc_check_size : FnScope N_check_size ["part", "thing", "least", "most"] (defScope s_check_size) := ⟨rfl, rfl, rfl, by decide +kernel, rfl, by decide +kernel, by decide +kernel⟩
theorem st_check_size {x0 x1 x2 x3 : W} : ζh N_check_size [x0, x1, x2, x3] = [some x0, some x1, some x2, some x3] := rfl
def td_check_size : DS' :=
    (ζZ (ζQ (ζO (ζu sp_is_tuple_within (ζm (ζF 1) (ζm (ζF 2) (ζm (ζF 3) ζR)))))) (fun _ _ _ => False) ζq)
def sp_check_size : DSp := fun ws S Q _ => ∃ part x lo hi, ws = [part, x, .int lo, .int hi] ∧ Pl x = true ∧ tupIn lo hi x = true ∧ Q .non S
theorem len_check_size {ws S Q E} (h : sp_check_size ws S Q E) : ws.length = 4 := by obtain ⟨p, x, lo, hi, rfl, _⟩ := h; rfl
theorem hd_check_size (ws S Q E) (h : sp_check_size ws S Q E) : td_check_size { nx := fun _ S' => frzQ Q .non S', rt := frzQ Q } ⟨ζh N_check_size ws, XF⟩ S := by
  obtain ⟨part, x, lo, hi, rfl, d, c, q⟩ := h
  simp only [st_check_size, td_check_size]
  (array_get_dec)
  refine ⟨x, lo, hi, rfl, d, ?_⟩
  rw [c]
  exact frzQ.mk q
section
variable {P : Program} {w : World} {K : PySem.W.Frag} {mg : Str → Option Value} {base : Heap} {c_Ground c_BadTime c_NoGround c_NoPlace c_NoProof c_NoKind c_BadText c_NoDeed c_NoRow c_TooMany c_NotDone c_NoBook c_NoCall c_NoEngine c_NoEngines c_NoText c_Nothing c_NoSaying : Addr}
theorem ok_check_size {f : Addr} {fd : FuncData} (F : Fun K "check_size" "check_size" s_check_size f fd) (T : Txt K w mg c_Ground c_BadTime c_NoGround c_NoPlace c_NoProof c_NoKind c_BadText c_NoDeed c_NoRow c_TooMany c_NotDone c_NoBook c_NoCall c_NoEngine c_NoEngines c_NoText c_Nothing c_NoSaying) (C_is_tuple_within : CalD P w K mg base 1 "is_tuple_within" sp_is_tuple_within) : FnOk P w K mg base CX0 2 f fd ["part", "thing", "least", "most"] (uSp K (sp_check_size)) :=
  Fun.okF F sc_check_size (td_check_size) (fun cdv A outer s H E hr =>
    (dss_one (ds_if (dt_not (dt_tru (de_call C_is_tuple_within hr (da_cons (dv 1) (da_cons (dv 2) (da_cons (dv 3) da_nil)))))) (dss_one ds_never) dss_nil))) (fun ws S Q E h => len_check_size h) (hd_check_size)
end
abbrev s_is_place_with_risk : Stmt := topS 43
abbrev N_is_place_with_risk : List Str := ["thing"]
theorem sc_is_place_with_risk : FnScope N_is_place_with_risk ["thing"] (defScope s_is_place_with_risk) := ⟨rfl, rfl, rfl, by decide +kernel, rfl, by decide +kernel, by decide +kernel⟩
theorem st_is_place_with_risk {x0 : W} : ζh N_is_place_with_risk [x0] = [some x0] := rfl
def td_is_place_with_risk : DS' :=
    (ζX (ζZ (ζQ (ζO (ζu sp_is_tuple_within (ζm (ζF 0) (ζm (dC (.int 2)) (ζm (dC (.int 2)) ζR)))))) (ζY (dC (.bl false))) ζq)
    (ζY (ζk (ζu sp_is_name (ζm (dOp dIx (ζF 0) (dC (.int 0))) ζR)) (ζu sp_is_whole_within (ζm (dOp dIx (ζF 0) (dC (.int 1))) (ζm (dC (.int 1)) (ζm (dC w_MOST_RISK) ζR)))))))
def sp_is_place_with_risk : DSp := fun ws S Q _ => ∃ n r, ws = [placeW n r] ∧ isName (.str n) = true ∧ (1 ≤ r ∧ r ≤ 4) ∧ Q (.bl true) S
theorem len_is_place_with_risk {ws S Q E} (h : sp_is_place_with_risk ws S Q E) : ws.length = 1 := by obtain ⟨n, r, rfl, _⟩ := h; rfl
theorem hd_is_place_with_risk (ws S Q E) (h : sp_is_place_with_risk ws S Q E) : td_is_place_with_risk { nx := fun _ S' => frzQ Q .non S', rt := frzQ Q } ⟨ζh N_is_place_with_risk ws, XF⟩ S := by
  obtain ⟨n, r, rfl, c, ⟨h1, h2⟩, q⟩ := h
  have q := frzQ.mk q
  simp only [st_is_place_with_risk, td_is_place_with_risk, placeW]
  (array_get_dec)
  refine ⟨_, _, _, rfl, rfl, ?_⟩
  (array_get_dec)
  refine ⟨_, rfl, rfl, ?_⟩
  rw [c]
  refine ⟨_, _, _, rfl, rfl, ?_⟩
  have e : within 1 4 (.int r) = true := by simp [within, h1, h2]
  rw [e]
  exact q
section
variable {P : Program} {w : World} {K : PySem.W.Frag} {mg : Str → Option Value} {base : Heap} {c_Ground c_BadTime c_NoGround c_NoPlace c_NoProof c_NoKind c_BadText c_NoDeed c_NoRow c_TooMany c_NotDone c_NoBook c_NoCall c_NoEngine c_NoEngines c_NoText c_Nothing c_NoSaying : Addr}
theorem ok_is_place_with_risk {f : Addr} {fd : FuncData} (F : Fun K "is_place_with_risk" "is_place_with_risk" s_is_place_with_risk f fd) (T : Txt K w mg c_Ground c_BadTime c_NoGround c_NoPlace c_NoProof c_NoKind c_BadText c_NoDeed c_NoRow c_TooMany c_NotDone c_NoBook c_NoCall c_NoEngine c_NoEngines c_NoText c_Nothing c_NoSaying) (C_is_tuple_within : CalD P w K mg base 1 "is_tuple_within" sp_is_tuple_within) (C_is_name : CalD P w K mg base 1 "is_name" sp_is_name) (C_is_whole_within : CalD P w K mg base 2 "is_whole_within" sp_is_whole_within) : FnOk P w K mg base CX0 3 f fd ["thing"] (uSp K (sp_is_place_with_risk)) :=
  Fun.okF F sc_is_place_with_risk (td_is_place_with_risk) (fun cdv A outer s H E hr =>
    (dss_cons (ds_if (dt_not (dt_tru (de_call C_is_tuple_within hr (da_cons (dv 0) (da_cons de_int (da_cons de_int da_nil)))))) (dss_one (ds_ret de_bl)) dss_nil)
    (dss_one (ds_ret (de_and (de_call C_is_name hr (da_cons (de_ix (dv 0) de_int) da_nil)) (de_one (de_call C_is_whole_within hr (da_cons (de_ix (dv 0) de_int) (da_cons de_int (da_cons (de_glob T.g_MOST_RISK) da_nil)))))))))) (fun ws S Q E h => len_is_place_with_risk h) (hd_is_place_with_risk)
end
abbrev s_is_road_among : Stmt := topS 44
abbrev N_is_road_among : List Str := ["risks", "thing", "start", "goal", "minutes", "slow"]
theorem sc_is_road_among : FnScope N_is_road_among ["risks", "thing"] (defScope s_is_road_among) := ⟨rfl, rfl, rfl, by decide +kernel, rfl, by decide +kernel, by decide +kernel⟩
theorem st_is_road_among {x0 x1 : W} : ζh N_is_road_among [x0, x1] = [some x0, some x1, none, none, none, none] := rfl
def td_is_road_among : DS' :=
    (ζX (ζZ (ζQ (ζO (ζu sp_is_tuple_within (ζm (ζF 1) (ζm (dC (.int 4)) (ζm (dC (.int 4)) ζR)))))) (ζY (dC (.bl false))) ζq)
    (ζX (ζs (.tp ((.nm 2) :: ((.nm 3) :: ((.nm 4) :: ((.nm 5) :: []))))) (ζF 1))
    (ζX (ζZ (dOr (ζQ (ζO (ζu sp_is_place_among (ζm (ζF 0) (ζm (ζF 2) ζR))))) (dOr (ζQ (ζO (ζu sp_is_place_among (ζm (ζF 0) (ζm (ζF 3) ζR))))) (ζj (dOp dEq (ζF 2) (ζF 3))))) (ζY (dC (.bl false))) ζq)
    (ζY (ζk (ζu sp_is_whole_within (ζm (ζF 4) (ζm (dC (.int 1)) (ζm (dC w_MOST_MINUTES) ζR)))) (ζu sp_is_whole_within (ζm (ζF 5) (ζm (dC (.int 0)) (ζm (dC w_MOST_SLOW) ζR)))))))))
def sp_is_road_among : DSp := fun ws S Q _ => ∃ ps r, ws = [risksW ps, Rd4.w r] ∧ PsOk ps ∧ r.a ∈ ps.map (·.1) ∧ r.b ∈ ps.map (·.1) ∧ r.a ≠ r.b ∧ (1 ≤ r.m ∧ r.m ≤ 60) ∧ (0 ≤ r.s ∧ r.s ≤ 60) ∧ Q (.bl true) S
theorem len_is_road_among {ws S Q E} (h : sp_is_road_among ws S Q E) : ws.length = 2 := by obtain ⟨ps, r, rfl, _⟩ := h; rfl
theorem hd_is_road_among (ws S Q E) (h : sp_is_road_among ws S Q E) : td_is_road_among { nx := fun _ S' => frzQ Q .non S', rt := frzQ Q } ⟨ζh N_is_road_among ws, XF⟩ S := by
  obtain ⟨ps, ⟨a, b, m, s⟩, rfl, hp, ha, hb, hab, ⟨h1, h2⟩, ⟨h3, h4⟩, q⟩ := h
  have q := frzQ.mk q
  have pa : isPl ps (.str a) = true := decide_eq_true ha
  have pb : isPl ps (.str b) = true := decide_eq_true hb
  simp only [st_is_road_among, td_is_road_among, Rd4.w, roadW]
  (array_get_dec)
  refine ⟨_, _, _, rfl, rfl, ?_⟩
  (array_get_dec)
  refine ⟨ps, _, rfl, rfl, ?_⟩
  rw [hp.name ha, pa]
  (array_get_dec)
  refine ⟨ps, _, rfl, rfl, ?_⟩
  rw [hp.name hb, pb]
  (array_get_dec)
  refine ⟨rfl, rfl, ?_⟩
  have hw : weq (.str a) (.str b) = false := by rw [weq_str]; exact decide_eq_false hab
  simp only [hw]
  (array_get_dec)
  refine ⟨_, _, _, rfl, rfl, ?_⟩
  rw [show within 1 60 (.int m) = true by simp [within, h1, h2]]
  (array_get_dec)
  refine ⟨_, _, _, rfl, rfl, ?_⟩
  rw [show within 0 60 (.int s) = true by simp [within, h3, h4]]
  exact q
section
variable {P : Program} {w : World} {K : PySem.W.Frag} {mg : Str → Option Value} {base : Heap} {c_Ground c_BadTime c_NoGround c_NoPlace c_NoProof c_NoKind c_BadText c_NoDeed c_NoRow c_TooMany c_NotDone c_NoBook c_NoCall c_NoEngine c_NoEngines c_NoText c_Nothing c_NoSaying : Addr}
theorem ok_is_road_among {f : Addr} {fd : FuncData} (F : Fun K "is_road_among" "is_road_among" s_is_road_among f fd) (T : Txt K w mg c_Ground c_BadTime c_NoGround c_NoPlace c_NoProof c_NoKind c_BadText c_NoDeed c_NoRow c_TooMany c_NotDone c_NoBook c_NoCall c_NoEngine c_NoEngines c_NoText c_Nothing c_NoSaying) (C_is_tuple_within : CalD P w K mg base 1 "is_tuple_within" sp_is_tuple_within) (C_is_place_among : CalD P w K mg base 2 "is_place_among" sp_is_place_among) (C_is_whole_within : CalD P w K mg base 2 "is_whole_within" sp_is_whole_within) : FnOk P w K mg base CX0 3 f fd ["risks", "thing"] (uSp K (sp_is_road_among)) :=
  Fun.okF F sc_is_road_among (td_is_road_among) (fun cdv A outer s H E hr =>
    (dss_cons (ds_if (dt_not (dt_tru (de_call C_is_tuple_within hr (da_cons (dv 1) (da_cons de_int (da_cons de_int da_nil)))))) (dss_one (ds_ret de_bl)) dss_nil)
    (dss_cons (ds_asgT (dv 1) (dg_tp (dgs_cons (dg_nm (i := 2) sc_is_road_among.nd) (dgs_cons (dg_nm (i := 3) sc_is_road_among.nd) (dgs_cons (dg_nm (i := 4) sc_is_road_among.nd) (dgs_cons (dg_nm (i := 5) sc_is_road_among.nd) dgs_nil))))))
    (dss_cons (ds_if (PW.pt (dw_or (dt_not (dt_tru (de_call C_is_place_among hr (da_cons (dv 0) (da_cons (dv 2) da_nil))))) (dw_or (dt_not (dt_tru (de_call C_is_place_among hr (da_cons (dv 0) (da_cons (dv 3) da_nil))))) (dw_or1 (dt_cmp (oc_eq hr) (dv 2) (dv 3)))))) (dss_one (ds_ret de_bl)) dss_nil)
    (dss_one (ds_ret (de_and (de_call C_is_whole_within hr (da_cons (dv 4) (da_cons de_int (da_cons (de_glob T.g_MOST_MINUTES) da_nil)))) (de_one (de_call C_is_whole_within hr (da_cons (dv 5) (da_cons de_int (da_cons (de_glob T.g_MOST_SLOW) da_nil)))))))))))) (fun ws S Q E h => len_is_road_among h) (hd_is_road_among)
end
abbrev s_checked_risks : Stmt := topS 39
abbrev N_checked_risks : List Str := ["places", "risks", "at", "place"]
theorem sc_checked_risks : FnScope N_checked_risks ["places"] (defScope s_checked_risks) := ⟨rfl, rfl, rfl, by decide +kernel, rfl, by decide +kernel, by decide +kernel⟩
theorem st_checked_risks {x0 : W} : ζh N_checked_risks [x0] = [some x0, none, none, none] := rfl
def td_checked_risks : DS' :=
    (ζX (ζr (ζu sp_check_size (ζm (dC (.str "places")) (ζm (ζF 0) (ζm (dC (.int 1)) (ζm (dC w_MOST_PLACES) ζR))))))
    (ζX (ξa 1 dNewK)
    (ζX (dFor (ζC (ζm (ζF 0) ζR)) (.tp ((.nm 2) :: ((.nm 3) :: [])))
      (ζX (ζZ (dOr (ζQ (ζO (ζu sp_is_place_with_risk (ζm (ζF 3) ζR)))) (ζj (dOp dIn (dOp dIx (ζF 3) (dC (.int 0))) (ζF 1)))) (fun _ _ _ => False) ζq)
      (ξe (ζF 1) (dOp dIx (ζF 3) (dC (.int 0))) (dOp dIx (ζF 3) (dC (.int 1))))))
    (ζY (ζF 1)))))
def sp_checked_risks : DSp := fun ws S Q _ => ∃ ps, ws = [placesW ps] ∧ PsOk ps ∧ Q (risksW ps) S
theorem len_checked_risks {ws S Q E} (h : sp_checked_risks ws S Q E) : ws.length = 1 := by obtain ⟨ps, rfl, _⟩ := h; rfl
theorem hd_checked_risks (ws S Q E) (h : sp_checked_risks ws S Q E) : td_checked_risks { nx := fun _ S' => frzQ Q .non S', rt := frzQ Q } ⟨ζh N_checked_risks ws, XF⟩ S := by
  obtain ⟨ps, rfl, hp, q⟩ := h
  simp only [st_checked_risks, td_checked_risks]
  (array_get_dec)
  refine ⟨_, _, _, _, rfl, rfl, ?_, ?_⟩
  · have := hp.lo; have := hp.hi; simp [tupIn]; omega
  intro p hS
  refine forE (xs := ps.map fun (x : Str × Int) => placeW x.1 x.2) (fun _ h => h) (fun i ω' S' => (∃ y z, ω' = ⟨[some (placesW ps), some (.ref p), y, z], XF⟩) ∧ S' = up S p (.dK (rkv (ps.take i)))) ⟨⟨_, _, rfl⟩, rfl⟩ ?_ ?_
  · rintro i u ω' S' hu ⟨⟨y, z, rfl⟩, rfl⟩
    rw [List.getElem?_map] at hu
    cases hx : ps[i]? with
    | none => rw [hx] at hu; cases hu
    | some x =>
      rw [hx] at hu
      cases hu
      obtain ⟨n, r⟩ := x
      have ok := hp.ok _ (List.mem_of_getElem? hx)
      have nn : n ∉ (ps.take i).map (·.1) := by
        rw [List.map_take]
        exact nodup_take hp.nd (by rw [List.getElem?_map, hx]; rfl)
      refine ⟨_, rfl, ?_⟩
      (array_get_dec)
      refine ⟨n, r, rfl, ok.1, ok.2, ?_⟩
      (array_get_dec)
      have nk : (Sum.inr n : Key) ∉ (rkv (ps.take i)).map (·.1) := by
        rw [rkv_fst]
        intro h
        obtain ⟨x, hx, e⟩ := List.mem_map.mp h
        exact nn (List.mem_map.mpr ⟨x, hx, Sum.inr.inj e⟩)
      have e2 : inW (up S p (.dK (rkv (ps.take i)))) (.str n) (.ref p) = some false := by rw [inW_refD up_same wkey_str, wval_none nk]; rfl
      simp only [e2]
      (array_get_dec)
      refine ⟨?_, ⟨_, _, rfl⟩, ?_⟩
      · have := hp.hi
        unfold rkv
        rw [List.length_map, List.length_take]
        omega
      · rw [up_up, wput_new nk]
        congr 2
        unfold rkv
        rw [take_succ_map _ hx]
  · rintro ω' S' ⟨⟨y, z, rfl⟩, rfl⟩
    rw [List.length_map, List.take_length]
    refine ⟨_, _, .dct up_same, ?_⟩
    rw [del_new hS, rkv_fst, rkv_snd]
    exact q
section
variable {P : Program} {w : World} {K : PySem.W.Frag} {mg : Str → Option Value} {base : Heap} {c_Ground c_BadTime c_NoGround c_NoPlace c_NoProof c_NoKind c_BadText c_NoDeed c_NoRow c_TooMany c_NotDone c_NoBook c_NoCall c_NoEngine c_NoEngines c_NoText c_Nothing c_NoSaying : Addr}
theorem ok_checked_risks {f : Addr} {fd : FuncData} (F : Fun K "checked_risks" "checked_risks" s_checked_risks f fd) (T : Txt K w mg c_Ground c_BadTime c_NoGround c_NoPlace c_NoProof c_NoKind c_BadText c_NoDeed c_NoRow c_TooMany c_NotDone c_NoBook c_NoCall c_NoEngine c_NoEngines c_NoText c_Nothing c_NoSaying) (C_check_size : CalD P w K mg base 2 "check_size" sp_check_size) (C_is_place_with_risk : CalD P w K mg base 3 "is_place_with_risk" sp_is_place_with_risk) : FnOk P w K mg base CX0 4 f fd ["places"] (uSp K (sp_checked_risks)) :=
  Fun.okF F sc_checked_risks (td_checked_risks) (fun cdv A outer s H E hr =>
    (dss_cons (ds_expr (de_call C_check_size hr (da_cons de_str (da_cons (dv 0) (da_cons de_int (da_cons (de_glob T.g_MOST_PLACES) da_nil))))))
    (dss_cons (ds_set (i := 1) sc_checked_risks.nd de_dnewK)
    (dss_cons (ds_for PassesOwn.never (di_enA T.z_enumerate (da_cons (dv 0) da_nil)) (dg_tp (dgs_cons (dg_nm (i := 2) sc_checked_risks.nd) (dgs_cons (dg_nm (i := 3) sc_checked_risks.nd) dgs_nil)))
      (dss_cons (ds_if (PW.pt (dw_or (dt_not (dt_tru (de_call C_is_place_with_risk hr (da_cons (dv 3) da_nil)))) (dw_or1 (dt_cmp (oc_in hr) (de_ix (dv 3) de_int) (dv 1))))) (dss_one ds_never) dss_nil)
      (dss_one (ds_dput hr (dv 1) (de_ix (dv 3) de_int) (de_ix (dv 3) de_int)))))
    (dss_one (ds_ret (dv 1))))))) (fun ws S Q E h => len_checked_risks h) (hd_checked_risks)
end
abbrev s_check_roads : Stmt := topS 40
abbrev N_check_roads : List Str := ["roads", "risks", "joined", "at", "road"]
theorem sc_check_roads : FnScope N_check_roads ["roads", "risks"] (defScope s_check_roads) := ⟨rfl, rfl, rfl, by decide +kernel, rfl, by decide +kernel, by decide +kernel⟩
theorem st_check_roads {x0 x1 : W} : ζh N_check_roads [x0, x1] = [some x0, some x1, none, none, none] := rfl
def td_check_roads : DS' :=
    (ζX (ζr (ζu sp_check_size (ζm (dC (.str "roads")) (ζm (ζF 0) (ζm (dC (.int 0)) (ζm (dC w_MOST_ROADS) ζR))))))
    (ζX (ξa 2 dNewT)
    (dFor (ζC (ζm (ζF 0) ζR)) (.tp ((.nm 3) :: ((.nm 4) :: [])))
      (ζX (ζE (ζZ (dOr (ζQ (ζO (ζu sp_is_road_among (ζm (ζF 1) (ζm (ζF 4) ζR))))) (ζj (dOp dInT (ζu sp_ends_of (ζm (ζF 4) ζR)) (ζF 2)))) (fun _ _ _ => False) ζq))
      (ζE (ξe (ζF 2) (ζu sp_ends_of (ζm (ζF 4) ζR)) (dC (.bl true))))))))
def sp_check_roads : DSp := fun ws S Q _ => ∃ ps rs, ws = [roadsW rs, risksW ps] ∧ PsOk ps ∧ RsOk ps rs ∧ Q .non S
theorem len_check_roads {ws S Q E} (h : sp_check_roads ws S Q E) : ws.length = 2 := by obtain ⟨ps, rs, rfl, _⟩ := h; rfl
def jkv (rs : List Rd4) : List (List Key × W) := rs.map fun r => (r.ends, .bl true)
theorem hd_check_roads (ws S Q E) (h : sp_check_roads ws S Q E) : td_check_roads { nx := fun _ S' => frzQ Q .non S', rt := frzQ Q } ⟨ζh N_check_roads ws, XF⟩ S := by
  obtain ⟨ps, rs, rfl, hp, hr, q⟩ := h
  simp only [st_check_roads, td_check_roads]
  (array_get_dec)
  refine ⟨_, _, _, _, rfl, rfl, ?_, ?_⟩
  · have := hr.hi; simp [tupIn]; omega
  intro p hS
  refine forE (xs := rs.map Rd4.w) (fun _ h => h) (fun i ω' S' => (∃ y z, ω' = ⟨[some (roadsW rs), some (risksW ps), some (.ref p), y, z], XF⟩) ∧ S' = up S p (.dT (jkv (rs.take i)))) ⟨⟨_, _, rfl⟩, rfl⟩ ?_ ?_
  · rintro i u ω' S' hu ⟨⟨y, z, rfl⟩, rfl⟩
    rw [List.getElem?_map] at hu
    cases hx : rs[i]? with
    | none => rw [hx] at hu; cases hu
    | some x =>
      rw [hx] at hu
      cases hu
      have ok := hr.ok _ (List.mem_of_getElem? hx)
      have nn : x.ends ∉ (jkv (rs.take i)).map (·.1) := by
        have e : (jkv (rs.take i)).map (·.1) = (rs.map Rd4.ends).take i := by unfold jkv; rw [List.map_map, ← List.map_take]; rfl
        rw [e]
        exact nodup_take hr.nd (by rw [List.getElem?_map, hx]; rfl)
      refine ⟨_, rfl, ?_⟩
      (array_get_dec)
      refine ⟨ps, x, rfl, hp, ok.1, ok.2.1, ok.2.2.1, ok.2.2.2.1, ok.2.2.2.2, ?_⟩
      (array_get_dec)
      refine ⟨x.a, x.b, x.m, x.s, rfl, fun t ht => ?_⟩
      have htp : p ≠ t := fun e => by subst e; rw [up_same] at ht; cases ht
      have k1 : ∀ t, wkeyT (up (up S p (.dT (jkv (rs.take i)))) t (.tup [.str (minS x.a x.b), .str (maxS x.a x.b)])) (.ref t) = some x.ends := fun t => by simp only [wkeyT, up_same]; rfl
      have k2 : ∀ t, p ≠ t → up (up S p (.dT (jkv (rs.take i)))) t (.tup [.str (minS x.a x.b), .str (maxS x.a x.b)]) p = some (.dT (jkv (rs.take i))) := fun t h => by rw [up_ne h, up_same]
      simp only [dInT, k1, k2 t htp, wval_none nn]
      try (array_get_dec)
      refine ⟨_, Frz.new ht (fun _ e => nomatch e), x.a, x.b, x.m, x.s, rfl, fun t2 ht2 => ?_⟩
      have htp2 : p ≠ t2 := fun e => by subst e; rw [up_same] at ht2; cases ht2
      try simp only [k1, k2 t2 htp2]
      refine ⟨?_, _, Frz.under htp2 (by rw [up_ne (Ne.symm htp2)] at ht2; exact ht2) (fun _ e => nomatch e), ⟨_, _, rfl⟩, ?_⟩
      · have := hr.hi
        unfold jkv
        rw [List.length_map, List.length_take]
        omega
      · rw [wput_new nn]
        congr 2
        unfold jkv
        rw [take_succ_map _ hx]
  · rintro ω' S' ⟨⟨y, z, rfl⟩, rfl⟩
    exact ⟨_, _, Frz.new hS (fun _ e => nomatch e), q⟩
section
variable {P : Program} {w : World} {K : PySem.W.Frag} {mg : Str → Option Value} {base : Heap} {c_Ground c_BadTime c_NoGround c_NoPlace c_NoProof c_NoKind c_BadText c_NoDeed c_NoRow c_TooMany c_NotDone c_NoBook c_NoCall c_NoEngine c_NoEngines c_NoText c_Nothing c_NoSaying : Addr}
theorem ok_check_roads {f : Addr} {fd : FuncData} (F : Fun K "check_roads" "check_roads" s_check_roads f fd) (T : Txt K w mg c_Ground c_BadTime c_NoGround c_NoPlace c_NoProof c_NoKind c_BadText c_NoDeed c_NoRow c_TooMany c_NotDone c_NoBook c_NoCall c_NoEngine c_NoEngines c_NoText c_Nothing c_NoSaying) (C_check_size : CalD P w K mg base 2 "check_size" sp_check_size) (C_is_road_among : CalD P w K mg base 3 "is_road_among" sp_is_road_among) (C_ends_of : CalD P w K mg base 1 "ends_of" sp_ends_of) : FnOk P w K mg base CX0 4 f fd ["roads", "risks"] (uSp K (sp_check_roads)) :=
  Fun.okF F sc_check_roads (td_check_roads) (fun cdv A outer s H E hr =>
    (dss_cons (ds_expr (de_call C_check_size hr (da_cons de_str (da_cons (dv 0) (da_cons de_int (da_cons (de_glob T.g_MOST_ROADS) da_nil))))))
    (dss_cons (ds_set (i := 2) sc_check_roads.nd de_dnewT)
    (dss_one (ds_for PassesOwn.never (di_enA T.z_enumerate (da_cons (dv 0) da_nil)) (dg_tp (dgs_cons (dg_nm (i := 3) sc_check_roads.nd) (dgs_cons (dg_nm (i := 4) sc_check_roads.nd) dgs_nil)))
      (dss_cons (ds_fgt (ds_if (PW.pt (dw_or (dt_not (dt_tru (de_call C_is_road_among hr (da_cons (dv 1) (da_cons (dv 4) da_nil))))) (dw_or1 (dt_inT hr (de_call C_ends_of hr (da_cons (dv 4) da_nil)) (dv 2))))) (dss_one ds_never) dss_nil))
      (dss_one (ds_fgt (ds_dput hr (dv 2) (de_call C_ends_of hr (da_cons (dv 4) da_nil)) de_bl))))))))) (fun ws S Q E h => len_check_roads h) (hd_check_roads)
end
abbrev s_check_stations : Stmt := topS 41
abbrev N_check_stations : List Str := ["stations", "risks", "seen", "at", "station"]
theorem sc_check_stations : FnScope N_check_stations ["stations", "risks"] (defScope s_check_stations) := ⟨rfl, rfl, rfl, by decide +kernel, rfl, by decide +kernel, by decide +kernel⟩
theorem st_check_stations {x0 x1 : W} : ζh N_check_stations [x0, x1] = [some x0, some x1, none, none, none] := rfl
def td_check_stations : DS' :=
    (ζX (ζr (ζu sp_check_size (ζm (dC (.str "stations")) (ζm (ζF 0) (ζm (dC (.int 0)) (ζm (dC w_MOST_STATIONS) ζR))))))
    (ζX (ξa 2 dNewK)
    (dFor (ζC (ζm (ζF 0) ζR)) (.tp ((.nm 3) :: ((.nm 4) :: [])))
      (ζX (ζZ (dOr (ζQ (ζO (ζu sp_is_place_among (ζm (ζF 1) (ζm (ζF 4) ζR))))) (ζj (dOp dIn (ζF 4) (ζF 2)))) (fun _ _ _ => False) ζq)
      (ξe (ζF 2) (ζF 4) (dC (.bl true)))))))
def sp_check_stations : DSp := fun ws S Q _ => ∃ ps ss, ws = [stationsW ss, risksW ps] ∧ PsOk ps ∧ SsOk ps ss ∧ Q .non S
theorem len_check_stations {ws S Q E} (h : sp_check_stations ws S Q E) : ws.length = 2 := by obtain ⟨ps, rs, rfl, _⟩ := h; rfl
def skv (ss : List Str) : List (Key × W) := ss.map fun s => (Sum.inr s, .bl true)
theorem hd_check_stations (ws S Q E) (h : sp_check_stations ws S Q E) : td_check_stations { nx := fun _ S' => frzQ Q .non S', rt := frzQ Q } ⟨ζh N_check_stations ws, XF⟩ S := by
  obtain ⟨ps, ss, rfl, hp, hs, q⟩ := h
  simp only [st_check_stations, td_check_stations]
  (array_get_dec)
  refine ⟨_, _, _, _, rfl, rfl, ?_, ?_⟩
  · have := hs.hi; simp [tupIn]; omega
  intro p hS
  refine forE (xs := ss.map W.str) (fun _ h => h) (fun i ω' S' => (∃ y z, ω' = ⟨[some (stationsW ss), some (risksW ps), some (.ref p), y, z], XF⟩) ∧ S' = up S p (.dK (skv (ss.take i)))) ⟨⟨_, _, rfl⟩, rfl⟩ ?_ ?_
  · rintro i u ω' S' hu ⟨⟨y, z, rfl⟩, rfl⟩
    rw [List.getElem?_map] at hu
    cases hx : ss[i]? with
    | none => rw [hx] at hu; cases hu
    | some x =>
      rw [hx] at hu
      cases hu
      have ok := hs.ok _ (List.mem_of_getElem? hx)
      have nn : (Sum.inr x : Key) ∉ (skv (ss.take i)).map (·.1) := by
        have e : (skv (ss.take i)).map (·.1) = (ss.take i).map Sum.inr := by unfold skv; rw [List.map_map]; rfl
        rw [e]
        intro h
        obtain ⟨y, hy, e⟩ := List.mem_map.mp h
        cases e
        exact nodup_take hs.nd hx hy
      refine ⟨_, rfl, ?_⟩
      (array_get_dec)
      refine ⟨ps, _, rfl, rfl, ?_⟩
      rw [hp.name ok, show isPl ps (.str x) = true from decide_eq_true ok]
      (array_get_dec)
      have e2 : inW (up S p (.dK (skv (ss.take i)))) (.str x) (.ref p) = some false := by rw [inW_refD up_same wkey_str, wval_none nn]; rfl
      simp only [e2]
      (array_get_dec)
      refine ⟨?_, ⟨_, _, rfl⟩, ?_⟩
      · have := hs.hi
        unfold skv
        rw [List.length_map, List.length_take]
        omega
      · rw [up_up, wput_new nn]
        congr 2
        unfold skv
        rw [take_succ_map _ hx]
  · rintro ω' S' ⟨⟨y, z, rfl⟩, rfl⟩
    exact ⟨_, _, Frz.new hS (fun _ e => nomatch e), q⟩
section
variable {P : Program} {w : World} {K : PySem.W.Frag} {mg : Str → Option Value} {base : Heap} {c_Ground c_BadTime c_NoGround c_NoPlace c_NoProof c_NoKind c_BadText c_NoDeed c_NoRow c_TooMany c_NotDone c_NoBook c_NoCall c_NoEngine c_NoEngines c_NoText c_Nothing c_NoSaying : Addr}
theorem ok_check_stations {f : Addr} {fd : FuncData} (F : Fun K "check_stations" "check_stations" s_check_stations f fd) (T : Txt K w mg c_Ground c_BadTime c_NoGround c_NoPlace c_NoProof c_NoKind c_BadText c_NoDeed c_NoRow c_TooMany c_NotDone c_NoBook c_NoCall c_NoEngine c_NoEngines c_NoText c_Nothing c_NoSaying) (C_check_size : CalD P w K mg base 2 "check_size" sp_check_size) (C_is_place_among : CalD P w K mg base 2 "is_place_among" sp_is_place_among) : FnOk P w K mg base CX0 3 f fd ["stations", "risks"] (uSp K (sp_check_stations)) :=
  Fun.okF F sc_check_stations (td_check_stations) (fun cdv A outer s H E hr =>
    (dss_cons (ds_expr (de_call C_check_size hr (da_cons de_str (da_cons (dv 0) (da_cons de_int (da_cons (de_glob T.g_MOST_STATIONS) da_nil))))))
    (dss_cons (ds_set (i := 2) sc_check_stations.nd de_dnewK)
    (dss_one (ds_for PassesOwn.never (di_enA T.z_enumerate (da_cons (dv 0) da_nil)) (dg_tp (dgs_cons (dg_nm (i := 3) sc_check_stations.nd) (dgs_cons (dg_nm (i := 4) sc_check_stations.nd) dgs_nil)))
      (dss_cons (ds_if (PW.pt (dw_or (dt_not (dt_tru (de_call C_is_place_among hr (da_cons (dv 1) (da_cons (dv 4) da_nil))))) (dw_or1 (dt_cmp (oc_in hr) (dv 4) (dv 2))))) (dss_one ds_never) dss_nil)
      (dss_one (ds_dput hr (dv 2) (dv 4) de_bl)))))))) (fun ws S Q E h => len_check_stations h) (hd_check_stations)
end
abbrev s_Ground__init_ : Stmt := inClass (topS 34) 0
abbrev N_Ground__init_ : List Str := ["self", "places", "roads", "stations", "road"]
theorem sc_Ground__init_ : FnScope N_Ground__init_ ["self", "places", "roads", "stations"] (defScope s_Ground__init_) := ⟨rfl, rfl, rfl, by decide +kernel, rfl, by decide +kernel, by decide +kernel⟩
theorem st_Ground__init_ {x0 x1 x2 x3 : W} : ζh N_Ground__init_ [x0, x1, x2, x3] = [some x0, some x1, some x2, some x3, none] := rfl
def td_Ground__init_ (c_Ground : Addr) : DS' :=
    (ζX (ζz c_Ground "risks" (ζF 0) (ζu sp_checked_risks (ζm (ζF 1) ζR)))
    (ζX (ζr (ζu sp_check_roads (ζm (ζF 2) (ζm (ξf c_Ground "risks" (ζF 0)) ζR))))
    (ζX (ζr (ζu sp_check_stations (ζm (ζF 3) (ζm (ξf c_Ground "risks" (ζF 0)) ζR))))
    (ζX (ζz c_Ground "places" (ζF 0) (ζF 1))
    (ζX (ζz c_Ground "roads" (ζF 0) (ζF 2))
    (ζX (ζz c_Ground "stations" (ζF 0) (ζF 3))
    (ζX (ζz c_Ground "sorted_places" (ζF 0) (dCB dSorted (ζm (ζF 1) ζR)))
    (ζX (ζz c_Ground "sorted_roads" (ζF 0) (dCB dSorted (ζm (dLc (ζD (ζF 2)) (.nm 4) dYes (dOp ζL (ξd (ζu sp_ends_of (ζm (ζF 4) ζR))) (dSl (ζF 4) (ζv (dC (.int 2))) dNo)) [4]) ζR)))
    (ζz c_Ground "sorted_stations" (ζF 0) (dCB dSorted (ζm (ζF 3) ζR)))))))))))
def sp_Ground__init_ (c_Ground : Addr) : DSp := fun ws S Q _ => ∃ x dx ps rs ss, ws = [.ref x, placesW ps, roadsW rs, stationsW ss] ∧ S x = some (.ins c_Ground dx []) ∧ PsOk ps ∧ RsOk ps rs ∧ SsOk ps ss ∧ Q .non (up S x (.ins c_Ground dx (gfs ps rs ss)))
theorem len_Ground__init_ {c_Ground ws S Q E} (h : sp_Ground__init_ c_Ground ws S Q E) : ws.length = 4 := by obtain ⟨x, dx, ps, rs, ss, rfl, _⟩ := h; rfl
theorem hd_Ground__init_ (c_Ground) (ws S Q E) (h : sp_Ground__init_ c_Ground ws S Q E) : td_Ground__init_ c_Ground { nx := fun _ S' => frzQ Q .non S', rt := frzQ Q } ⟨ζh N_Ground__init_ ws, XF⟩ S := by
  obtain ⟨x, dx, ps, rs, ss, rfl, hx, hp, hr, hs, q⟩ := h
  simp only [st_Ground__init_, td_Ground__init_]
  (array_get_dec)
  refine ⟨ps, rfl, hp, ?_⟩
  simp only [hx]
  refine ⟨trivial, by decide, ?_⟩
  simp only [wputF, fget_ref up_same, look_self]
  refine ⟨ps, rs, rfl, hp, hr, ?_⟩
  simp only [fget_ref up_same, look_self]
  refine ⟨ps, ss, rfl, hp, hs, ?_⟩
  have w1 : wputF "places" (placesW ps) [("risks", risksW ps)] = ([("risks", risksW ps), ("places", placesW ps)] : List (Str × W)) := wputF_new (by simp only [List.map]; decide)
  have w2 : wputF "roads" (roadsW rs) [("risks", risksW ps), ("places", placesW ps)] = ([("risks", risksW ps), ("places", placesW ps), ("roads", roadsW rs)] : List (Str × W)) := wputF_new (by simp only [List.map]; decide)
  have w3 : wputF "stations" (stationsW ss) [("risks", risksW ps), ("places", placesW ps), ("roads", roadsW rs)] = ([("risks", risksW ps), ("places", placesW ps), ("roads", roadsW rs), ("stations", stationsW ss)] : List (Str × W)) := wputF_new (by simp only [List.map]; decide)
  have w4 : ∀ v, wputF "sorted_places" v [("risks", risksW ps), ("places", placesW ps), ("roads", roadsW rs), ("stations", stationsW ss)] = ([("risks", risksW ps), ("places", placesW ps), ("roads", roadsW rs), ("stations", stationsW ss), ("sorted_places", v)] : List (Str × W)) := fun v => wputF_new (by simp only [List.map]; decide)
  have w5 : ∀ v u, wputF "sorted_roads" u [("risks", risksW ps), ("places", placesW ps), ("roads", roadsW rs), ("stations", stationsW ss), ("sorted_places", v)] = ([("risks", risksW ps), ("places", placesW ps), ("roads", roadsW rs), ("stations", stationsW ss), ("sorted_places", v), ("sorted_roads", u)] : List (Str × W)) := fun v u => wputF_new (by simp only [List.map]; decide)
  have w6 : ∀ v u t, wputF "sorted_stations" t [("risks", risksW ps), ("places", placesW ps), ("roads", roadsW rs), ("stations", stationsW ss), ("sorted_places", v), ("sorted_roads", u)] = ([("risks", risksW ps), ("places", placesW ps), ("roads", roadsW rs), ("stations", stationsW ss), ("sorted_places", v), ("sorted_roads", u), ("sorted_stations", t)] : List (Str × W)) := fun v u t => wputF_new (by simp only [List.map]; decide)
  simp only [up_same, up_up, w1, w2, w3]
  refine ⟨trivial, by simp, trivial, by simp, trivial, by simp, ?_⟩
  simp only [dSorted, view_c_tup]
  refine ⟨srt_places ps, ?_⟩
  simp only [up_same]
  refine ⟨trivial, by simp, ?_⟩
  simp only [up_up, w4]
  refine lcMs (w := roadsW rs) (xs := rs.map Rd4.w) (fun _ h => h) rfl (fun w => match w with | .tup [.str a, .str b, .int m, .int s] => sroadW ⟨a, b, m, s⟩ | _ => .non) ?_ (fun p acc hp => rfl) (fun w hw => ?_) ?_
  · have := hr.hi; rw [List.length_map]; omega
  · obtain ⟨r, _, rfl⟩ := List.mem_map.mp hw
    refine ⟨_, rfl, fun p acc hp Qe q => ?_⟩
    simp only [Rd4.w, roadW]
    (array_get_dec)
    refine ⟨r.a, r.b, r.m, r.s, rfl, fun t ht => ?_⟩
    refine frzT ht ?_
    exact ⟨by show 4 ≤ 1000000; decide, q⟩
  · rw [List.map_map]
    simp only [view_c_lst]
    refine ⟨srt_roads rs, ?_⟩
    simp only [up_same]
    refine ⟨trivial, by simp, ?_⟩
    refine ⟨srt_strs ss, ?_⟩
    simp only [up_same, up_up, w5]
    refine ⟨trivial, by simp, ?_⟩
    rw [w6]
    exact frzQ.mk q
section
variable {P : Program} {w : World} {K : PySem.W.Frag} {mg : Str → Option Value} {base : Heap} {c_Ground c_BadTime c_NoGround c_NoPlace c_NoProof c_NoKind c_BadText c_NoDeed c_NoRow c_TooMany c_NotDone c_NoBook c_NoCall c_NoEngine c_NoEngines c_NoText c_Nothing c_NoSaying : Addr}
theorem ok_Ground__init_ {f : Addr} {fd : FuncData} (F : Fun K "__init__" "Ground.__init__" s_Ground__init_ f fd) (T : Txt K w mg c_Ground c_BadTime c_NoGround c_NoPlace c_NoProof c_NoKind c_BadText c_NoDeed c_NoRow c_TooMany c_NotDone c_NoBook c_NoCall c_NoEngine c_NoEngines c_NoText c_Nothing c_NoSaying) (C_checked_risks : CalD P w K mg base 4 "checked_risks" sp_checked_risks) (C_check_roads : CalD P w K mg base 4 "check_roads" sp_check_roads) (C_check_stations : CalD P w K mg base 3 "check_stations" sp_check_stations) (C_ends_of : CalD P w K mg base 1 "ends_of" sp_ends_of) : FnOk P w K mg base CX0 5 f fd ["self", "places", "roads", "stations"] (uSp K (sp_Ground__init_ c_Ground)) :=
  Fun.okF F sc_Ground__init_ (td_Ground__init_ c_Ground) (fun cdv A outer s H E hr =>
    (dss_cons (ds_fld T.cl_Ground T.n_Ground_risks (dv 0) (de_call C_checked_risks hr (da_cons (dv 1) da_nil)))
    (dss_cons (ds_expr (de_call C_check_roads hr (da_cons (dv 2) (da_cons (de_fld T.cl_Ground T.n_Ground_risks (dv 0)) da_nil))))
    (dss_cons (ds_expr (de_call C_check_stations hr (da_cons (dv 3) (da_cons (de_fld T.cl_Ground T.n_Ground_risks (dv 0)) da_nil))))
    (dss_cons (ds_fld T.cl_Ground T.n_Ground_places (dv 0) (dv 1))
    (dss_cons (ds_fld T.cl_Ground T.n_Ground_roads (dv 0) (dv 2))
    (dss_cons (ds_fld T.cl_Ground T.n_Ground_stations (dv 0) (dv 3))
    (dss_cons (ds_fld T.cl_Ground T.n_Ground_sorted_places (dv 0) (de_callB (cd_sorted hr) T.z_sorted (da_cons (dv 1) da_nil)))
    (dss_cons (ds_fld T.cl_Ground T.n_Ground_sorted_roads (dv 0) (de_callB (cd_sorted hr) T.z_sorted (da_cons (de_lc (own := [("road", 4)]) sc_Ground__init_.nd (di_seq (dv 2)) (blkOk_by (own := [("road", 4)]) (N := N_Ground__init_) (sc := defScope s_Ground__init_) (by decide +kernel)) (fun _ _ _ _ _ => (dg_nm (i := 4) sc_Ground__init_.nd)) (fun _ _ _ _ _ => dts_nil) (fun _ _ _ _ _ => (de_op oa_add (de_frz (de_call C_ends_of hr (da_cons (dv 4) da_nil))) (de_sl (dv 4) (do_some de_int) do_none)))) da_nil)))
    (dss_one (ds_fld T.cl_Ground T.n_Ground_sorted_stations (dv 0) (de_callB (cd_sorted hr) T.z_sorted (da_cons (dv 3) da_nil))))))))))))) (fun ws S Q E h => len_Ground__init_ h) (hd_Ground__init_ c_Ground)
end
theorem g_risks {S : Sto} {C : Addr} {ps rs ss} : fget S C "risks" (gW C ps rs ss) = some (risksW ps) := fget_ins.trans rfl
theorem g_roads {S : Sto} {C : Addr} {ps rs ss} : fget S C "roads" (gW C ps rs ss) = some (roadsW rs) := fget_ins.trans rfl
theorem g_ins {S : Sto} {C : Addr} {ps rs ss} {m : Str} (h : m ∉ (["risks", "places", "roads", "stations", "sorted_places", "sorted_roads", "sorted_stations"] : List Str)) : insOk S C m (gW C ps rs ss) := by
  refine ⟨rfl, look_none fun hm => h ?_⟩
  obtain ⟨p, hp, e⟩ := List.mem_map.mp hm
  rw [← e]
  exact (List.of_mem_zip hp).1
def isP (ps : List (Str × Int)) (x : W) : Bool := isName x && isPl ps x
theorem isP_of {ps : List (Str × Int)} {x : Str} (h1 : isName (.str x) = true) (h2 : x ∈ ps.map (·.1)) : isP ps (.str x) = true := by
  unfold isP
  rw [h1, show isPl ps (.str x) = true from decide_eq_true h2]
  rfl
abbrev s_Ground_check_place : Stmt := inClass (topS 34) 10
abbrev N_Ground_check_place : List Str := ["self", "thing"]
theorem sc_Ground_check_place : FnScope N_Ground_check_place ["self", "thing"] (defScope s_Ground_check_place) := ⟨rfl, rfl, rfl, by decide +kernel, rfl, by decide +kernel, by decide +kernel⟩
theorem st_Ground_check_place {x0 x1 : W} : ζh N_Ground_check_place [x0, x1] = [some x0, some x1] := rfl
def td_Ground_check_place (c_Ground c_NoPlace : Addr) : DS' :=
    (ζZ (ζQ (ζO (ζu sp_is_place_among (ζm (ξf c_Ground "risks" (ζF 0)) (ζm (ζF 1) ζR))))) (dRaise c_NoPlace ["place"] okW1W (ζm (ζF 1) ζR)) ζq)
def sp_Ground_check_place (C NP : Addr) : DSp := fun ws S Q E => ∃ ps rs ss x, ws = [gW C ps rs ss, x] ∧ Pl x = true ∧ (isP ps x = true → Q .non S) ∧ (isP ps x = false → E (.ref NP) (some [("place", x)]) S)
theorem len_Ground_check_place {C NP ws S Q E} (h : sp_Ground_check_place C NP ws S Q E) : ws.length = 2 := by obtain ⟨_, _, _, _, rfl, _⟩ := h; rfl
theorem hd_Ground_check_place (C NP : Addr) (ws S Q E) (h : sp_Ground_check_place C NP ws S Q E) : td_Ground_check_place C NP { nx := fun _ S' => frzQ Q .non S', rt := frzQ Q } ⟨ζh N_Ground_check_place ws, frzX E⟩ S := by
  obtain ⟨ps, rs, ss, x, rfl, hp, q1, q2⟩ := h
  simp only [st_Ground_check_place, td_Ground_check_place]
  refine if_b (!isP ps x) (fun Q h => ?_) (fun e => ?_) (fun e => ?_)
  · (array_get_dec)
    simp only [g_risks]
    refine ⟨ps, x, rfl, hp, ?_⟩
    unfold isP at h
    simp only [tru_bl]
    exact h
  · have e : isP ps x = false := by simpa using e
    simp only [dRaise]
    (array_get_dec)
    exact ⟨trivial, ⟨_, rfl⟩, frzX.mk (l := []) (q2 e)⟩
  · have e : isP ps x = true := by simpa using e
    (((try unfold ζq); dsimp only))
    exact frzQ.mk (q1 e)
section
variable {P : Program} {w : World} {K : PySem.W.Frag} {mg : Str → Option Value} {base : Heap} {c_Ground c_BadTime c_NoGround c_NoPlace c_NoProof c_NoKind c_BadText c_NoDeed c_NoRow c_TooMany c_NotDone c_NoBook c_NoCall c_NoEngine c_NoEngines c_NoText c_Nothing c_NoSaying : Addr}
theorem ok_Ground_check_place {f : Addr} {fd : FuncData} (F : Fun K "check_place" "Ground.check_place" s_Ground_check_place f fd) (T : Txt K w mg c_Ground c_BadTime c_NoGround c_NoPlace c_NoProof c_NoKind c_BadText c_NoDeed c_NoRow c_TooMany c_NotDone c_NoBook c_NoCall c_NoEngine c_NoEngines c_NoText c_Nothing c_NoSaying) (C_is_place_among : CalD P w K mg base 2 "is_place_among" sp_is_place_among) (X_NoPlace : ExcDk P w K mg base 1 "NoPlace" c_NoPlace ["place"] okW1) : FnOk P w K mg base (L2.CX P w) 3 f fd ["self", "thing"] (uSp K (sp_Ground_check_place c_Ground c_NoPlace)) :=
  Fun.okXF F sc_Ground_check_place (td_Ground_check_place c_Ground c_NoPlace) (fun cdv A outer s H E hr =>
    (dss_one (ds_if (dt_not (dt_tru (de_call C_is_place_among hr (da_cons (de_fld T.cl_Ground T.n_Ground_risks (dv 0)) (da_cons (dv 1) da_nil))))) (dss_one (ds_raiseEk (okW := okW1W) X_NoPlace (takes_of rfl rfl rfl rfl) hr (da_cons (dv 1) da_nil) okW1_of)) dss_nil))) (fun ws S Q E h => len_Ground_check_place h) (hd_Ground_check_place c_Ground c_NoPlace)
end
abbrev s_Ground_links : Stmt := inClass (topS 34) 11
abbrev N_Ground_links : List Str := ["self", "hour", "shut", "links", "number", "start", "goal", "minutes", "slow", "taken", "place"]
theorem sc_Ground_links : FnScope N_Ground_links ["self", "hour", "shut"] (defScope s_Ground_links) := ⟨rfl, rfl, rfl, by decide +kernel, rfl, by decide +kernel, by decide +kernel⟩
theorem st_Ground_links {x0 x1 x2 : W} : ζh N_Ground_links [x0, x1, x2] = [some x0, some x1, some x2, none, none, none, none, none, none, none, none] := rfl
def td_Ground_links (c_Ground : Addr) : DS' :=
    (ζX (ξa 3 (dDcF c_Ground "risks" 0 (.nm 10) (ζF 10) (ζn ζR) [10]))
    (ζX (dFor (ζC (ζm (ξf c_Ground "roads" (ζF 0)) ζR)) (.tp ((.nm 4) :: ((.tp ((.nm 5) :: ((.nm 6) :: ((.nm 7) :: ((.nm 8) :: []))))) :: [])))
      (ζZ (dOr (ζj (dOp ζN (ζF 2) (dC .non))) (ζj (dOp ζi (ζF 4) (ζF 2)))) (ζX (ξa 9 (dIf (ζj (dOp dIn (ζF 1) (dC w_SLOW_HOURS))) (dOp ζL (ζF 7) (ζF 8)) (ζF 7)))
        (ζX (ζr (dBM ξc (dOp dDg (ζF 3) (ζF 5)) (ζm (ζS (ζm (ζF 6) (ζm (ζF 9) ζR))) ζR)))
        (ζr (dBM ξc (dOp dDg (ζF 3) (ζF 6)) (ζm (ζS (ζm (ζF 5) (ζm (ζF 9) ζR))) ζR))))) ζq))
    (ζY (dRe (ζF 3)))))
def sp_Ground_links (C : Addr) : DSp := fun ws S Q _ => ∃ ps rs ss h sh, ws = [gW C ps rs ss, .int h, shutW sh] ∧ PsOk ps ∧ RsOk ps rs ∧ ∀ ls : List (List (Str × Int)), ls.length = ps.length → (∀ u v c, adjE (ps.map (·.1)) ls u v c ↔ rdE rs h sh u v c) → (∀ l ∈ ls, l.length ≤ 200) → Q (linksW (ps.map (·.1)) ls) S
theorem len_Ground_links {C ws S Q E} (h : sp_Ground_links C ws S Q E) : ws.length = 3 := by obtain ⟨_, _, _, _, _, rfl, _⟩ := h; rfl
theorem hd_Ground_links (C : Addr) (ws S Q E) (h : sp_Ground_links C ws S Q E) : td_Ground_links C { nx := fun _ S' => frzQ Q .non S', rt := frzQ Q } ⟨ζh N_Ground_links ws, XF⟩ S := by
  obtain ⟨ps, rs, ss, h, sh, rfl, P, R, q⟩ := h
  obtain ⟨names, hnm⟩ : ∃ names, names = ps.map (·.1) := ⟨_, rfl⟩
  have nd : names.Nodup := by rw [hnm]; exact P.nd
  have nl : names.length = ps.length := by rw [hnm, List.length_map]
  have hP40 := P.hi
  have hR80 := R.hi
  simp only [st_Ground_links, td_Ground_links]
  refine seq_go (setN_go (fun w S1 => ∃ l qs, w = .ref l ∧ S l = none ∧ l ∉ qs ∧ qs.Nodup ∧ qs.length = names.length ∧ (∀ q ∈ qs, S q = none) ∧ S1 = stL S l (names.map Sum.inr) qs (List.replicate names.length [])) (fun Q h => ?_) ?_)
  · refine ⟨rfl, _, _, _, rfl, g_risks, ?_, fun l hl => ?_⟩
    · intro k hk
      obtain ⟨p, hp, rfl⟩ := List.mem_map.mp hk
      exact sv_name (P.ok p hp).1
    · have hk : (ps.map fun p => (Sum.inr p.1 : Key)) = names.map Sum.inr := by rw [hnm, List.map_map]; rfl
      refine ⟨fun j S' => ∃ qs, l ∉ qs ∧ qs.Nodup ∧ qs.length = j ∧ j ≤ names.length ∧ (∀ q ∈ qs, S q = none) ∧ S' = stL S l ((names.take j).map Sum.inr) qs (List.replicate j []), ⟨[], by simp, .nil, rfl, Nat.zero_le _, fun q hq => (by cases hq), ?_⟩, ?_, ?_⟩
      · funext a
        by_cases e : a = l
        · subst e; rw [up_same, stL_l]; rfl
        · rw [up_ne e, stL_o e (by simp)]
      · rintro j k S' hkj ⟨qs, h1, h2, h3, h4, h5, rfl⟩
        rw [hk, List.getElem?_map] at hkj
        cases hn : names[j]? with
        | none => rw [hn] at hkj; cases hkj
        | some n =>
          rw [hn] at hkj
          cases hkj
          have hjl : j < names.length := (List.getElem?_eq_some_iff.mp hn).1
          refine ⟨_, rfl, ?_⟩
          (array_get_dec)
          refine ⟨by decide, fun q hq => ?_⟩
          obtain ⟨q1, q2, q3⟩ := stL_none (by rw [List.length_replicate]; exact h3) h2 hq
          refine ⟨_, _, rfl, by rw [up_ne (Ne.symm q1), stL_l], ?_, qs ++ [q], ?_, ?_, ?_, hjl, ?_, ?_⟩
          · rw [List.length_zip, List.length_map, List.length_map, List.length_take]; omega
          · simp [h1, Ne.symm q1]
          · exact List.nodup_append.mpr ⟨h2, by simp, fun a ha b hb => by rw [List.mem_singleton.mp hb]; exact fun e => q2 (e ▸ ha)⟩
          · rw [List.length_append, h3]; rfl
          · intro z hz
            rcases List.mem_append.mp hz with hz | hz
            · exact h5 z hz
            · rw [List.mem_singleton.mp hz]; exact q3
          · have hnew : (Sum.inr n : Key) ∉ (((names.take j).map Sum.inr : List Key).zip (qs.map W.ref)).map (·.1) := by
              intro hm
              rw [List.map_fst_zip (by rw [List.length_map, List.length_map, List.length_take]; omega)] at hm
              obtain ⟨z, hz, e⟩ := List.mem_map.mp hm
              cases e
              exact nodup_take nd hn hz
            rw [wput_new hnew]
            have ez : (((names.take j).map Sum.inr : List Key).zip (qs.map W.ref)) ++ [((Sum.inr n : Key), W.ref q)] = ((names.take (j + 1)).map Sum.inr : List Key).zip ((qs ++ [q]).map W.ref) := by
              rw [List.take_succ, hn]
              simp only [Option.toList_some, List.map_append, List.map_cons, List.map_nil]
              rw [List.zip_append (by rw [List.length_map, List.length_map, List.length_take]; omega)]
              rfl
            rw [ez]
            funext a
            by_cases e : a = l
            · subst e; rw [up_same, stL_l]
            · rw [up_ne e]
              by_cases e2 : a = q
              · subst e2
                rw [up_same, stL_q (i := j) (x := []) (by simp [h1, Ne.symm q1]) (List.nodup_append.mpr ⟨h2, by simp, fun a ha b hb => by rw [List.mem_singleton.mp hb]; exact fun e => q2 (e ▸ ha)⟩) (by rw [List.getElem?_append_right (by omega), h3]; simp) (by rw [← List.replicate_succ, List.getElem?_replicate, if_pos (by omega)])]
              · rw [up_ne e2]
                unfold stL
                rw [if_neg e, if_neg e]
                have el : (qs.zip (List.replicate j ([] : List W))).lookup a = ((qs ++ [q]).zip (List.replicate (j + 1) [])).lookup a := by
                  rw [List.replicate_succ', List.zip_append (by rw [List.length_replicate]; exact h3), List.lookup_append]
                  have : ([q].zip [([] : List W)]).lookup a = none := by
                    show (match a == q with | true => _ | false => _) = none
                    rw [beq_eq_false_iff_ne.mpr e2]
                    rfl
                  rw [this, Option.or_none]
                rw [el]
                rfl
      · rintro S' ⟨qs, h1, h2, h3, h4, h5, rfl⟩
        have e : (ps.map fun p => (Sum.inr p.1 : Key)).length = names.length := by rw [hk, List.length_map]
        refine h _ _ ⟨l, qs, rfl, hl, h1, h2, by rw [h3]; exact e, h5, ?_⟩
        rw [show ((ps.map fun p => (Sum.inr p.1 : Key)).length) = names.length from e, List.take_length]
  rintro _ _ ⟨l, qs, rfl, hl, hlq, hqn, hql, hqs, rfl⟩
  (((try unfold ζq); dsimp only; refine seq_go ?_))
  refine forE (xs := rs.map Rd4.w) (fun Q' h => by (array_get_dec); simp only [g_roads]; exact h) (fun i ω' S' => ∃ y4 y5 y6 y7 y8 y9, ω' = ⟨[some (gW C ps rs ss), some (.int h), some (shutW sh), some (.ref l), y4, y5, y6, y7, y8, y9, none], XF⟩ ∧ ∃ ls : List (List (Str × Int)), ls.length = names.length ∧ (∀ u v c, adjE names ls u v c ↔ rdE (rs.take i) h sh u v c) ∧ (∀ l ∈ ls, l.length ≤ 2 * i) ∧ S' = stL S l (names.map Sum.inr) qs (ls.map stepsW)) ⟨_, _, _, _, _, _, rfl, List.replicate names.length [], List.length_replicate .., ?_, fun l hl => (by rw [(List.mem_replicate.mp hl).2]; exact Nat.zero_le _), by rw [List.map_replicate]; rfl⟩ ?_ ?_
  · intro u v c
    constructor
    · rintro ⟨i, l', _, h2, h3⟩
      have := List.mem_of_getElem? h2
      rw [(List.mem_replicate.mp this).2] at h3
      cases h3
    · rintro ⟨i, r, h1, _⟩
      simp at h1
  · rintro i w ω' S' hw ⟨y4, y5, y6, y7, y8, y9, rfl, ls, lsl, hadj, hlen, rfl⟩
    rw [List.getElem?_map] at hw
    cases hr : rs[i]? with
    | none => rw [hr] at hw; cases hw
    | some r =>
      rw [hr] at hw
      cases hw
      have hi80 : i < rs.length := (List.getElem?_eq_some_iff.mp hr).1
      obtain ⟨ra, rb, rne, rm, rsl⟩ := R.ok r (List.mem_of_getElem? hr)
      refine ⟨_, rfl, ?_⟩
      refine if_b (!shutB sh i) (fun Q h => ?_) (fun c => ?_) (fun c => ?_)
      · cases sh with
        | none => (array_get_dec); exact h
        | some ns =>
          refine or_b (a := false) (b := !decide ((i : Int) ∈ ns)) (fun Q h => by (array_get_dec); exact h) (fun _ Q h => ?_) (by rw [Bool.false_or]; exact h)
          (array_get_dec)
          simp only [shutW, shut_in]
          exact h
      · have hshut : shutB sh i = false := by simpa using c
        refine seq_go (set_go (.int (cost h r)) (stL S l (names.map Sum.inr) qs (ls.map stepsW)) (fun Q hq => ?_) ?_)
        · (array_get_dec)
          simp only [slow_any]
          unfold cost at hq
          by_cases sl : slowB h = true
          · rw [sl] at hq; simp only [sl, if_true] at hq ⊢; exact hq
          · rw [Bool.eq_false_iff.mpr sl] at hq; simp only [Bool.eq_false_iff.mpr sl, Bool.false_eq_true, if_false] at hq ⊢; exact hq
        (((try unfold ζq); dsimp only; refine seq_go ?_))
        -- the two ends
        have app : ∀ (n v : Str) (ls : List (List (Str × Int))) (D : Sto → Prop), n ∈ names → ls.length = names.length → (∀ l ∈ ls, l.length ≤ 400) → (∀ j l', names[j]? = some n → ls[j]? = some l' → D (stL S l (names.map Sum.inr) qs ((ls.set j (l' ++ [(v, cost h r)])).map stepsW))) →
            (match stL S l (names.map Sum.inr) qs (ls.map stepsW) l with
              | some (.dK kvs) => ∃ q xs, wval kvs (Sum.inr n) = some (.ref q) ∧ stL S l (names.map Sum.inr) qs (ls.map stepsW) q = some (.lst xs) ∧ xs.length < 1000000 ∧ D (up (stL S l (names.map Sum.inr) qs (ls.map stepsW)) q (.lst (xs ++ [.tup [.str v, .int (cost h r)]])))
              | _ => False) := fun n v ls D hn hls h400 hD => by
          rw [stL_l]
          obtain ⟨j, hj⟩ := List.getElem?_of_mem hn
          have hjl : j < names.length := (List.getElem?_eq_some_iff.mp hj).1
          have hjq : j < qs.length := by omega
          have hjs : j < ls.length := by omega
          refine ⟨qs[j], stepsW ls[j], ?_, ?_, ?_, ?_⟩
          · exact wval_at nd hj (by rw [List.getElem?_map, List.getElem?_eq_getElem hjq]; rfl)
          · exact stL_q hlq hqn (List.getElem?_eq_getElem hjq) (by rw [List.getElem?_map, List.getElem?_eq_getElem hjs]; rfl)
          · have := h400 ls[j] (List.getElem_mem hjs)
            rw [List.length_map]; omega
          · rw [stL_up (by rw [List.length_map]; omega) hlq hqn (List.getElem?_eq_getElem hjq)]
            have := hD j ls[j] hj (List.getElem?_eq_getElem hjs)
            rw [List.map_set] at this
            have e : stepsW (ls[j] ++ [(v, cost h r)]) = stepsW ls[j] ++ [.tup [.str v, .int (cost h r)]] := by unfold stepsW; rw [List.map_append]; rfl
            rw [e] at this
            exact this
        have go1 : ∀ (n v : Str) (ls : List (List (Str × Int))) (kn kv : Nat) (ω : Om) (D : Sto → Prop), ω.s[3]? = some (some (.ref l)) → ω.s[kn]? = some (some (.str n)) → ω.s[kv]? = some (some (.str v)) → ω.s[9]? = some (some (.int (cost h r))) → n ∈ names → ls.length = names.length → (∀ l ∈ ls, l.length ≤ 400) → (∀ j l', names[j]? = some n → ls[j]? = some l' → D (stL S l (names.map Sum.inr) qs ((ls.set j (l' ++ [(v, cost h r)])).map stepsW))) →
            dBM ξc (dOp dDg (ζF 3) (ζF kn)) (ζm (ζS (ζm (ζF kv) (ζm (ζF 9) ζR))) ζR) ω (stL S l (names.map Sum.inr) qs (ls.map stepsW)) (fun _ S1 => D S1) := fun n v ls kn kv ω D w3 wn wv w9 hn hls h400 hD => by
          have A := app n v ls D hn hls h400 hD
          rw [stL_l] at A
          obtain ⟨q, xs, h1, h2, h3, h4⟩ := A
          refine bm_go (op_go (var_go w3 (var_go wn ?_)))
          show (match view (stL S l (names.map Sum.inr) qs (ls.map stepsW)) (.ref l), wkey (.str n) with | .dct ks ws, some k => _ | _, _ => False)
          rw [view_refD stL_l, wkey_str]
          simp only [zip_prod, h1]
          refine ⟨isL_ref h2, ?_⟩
          simp only [ζm, ζS, ζR, ζF, wv, w9, ξc, h2]
          exact ⟨by show 2 ≤ 1000000; decide, h3, h4⟩
        refine drop_go (go1 r.a r.b ls 5 6 _ (fun S1 => _) rfl rfl rfl rfl (hnm ▸ ra) lsl (fun l hl => by have := hlen l hl; omega) (fun j l' hj hl' => ?_))
        (((try unfold ζq); dsimp only))
        have l1 : (ls.set j (l' ++ [(r.b, cost h r)])).length = names.length := by rw [List.length_set]; exact lsl
        have lm : ∀ l ∈ ls.set j (l' ++ [(r.b, cost h r)]), l.length ≤ 2 * i + 1 := fun z hz => by
          rcases List.mem_or_eq_of_mem_set hz with hz | rfl
          · have := hlen z hz; omega
          · have := hlen l' (List.mem_of_getElem? hl')
            rw [List.length_append]; simp; omega
        refine drop_go (go1 r.b r.a (ls.set j (l' ++ [(r.b, cost h r)])) 6 5 _ (fun S1 => _) rfl rfl rfl rfl (hnm ▸ rb) l1 (fun l hl => by have := lm l hl; omega) (fun k l2 hk hl2 => ?_))
        refine ⟨_, _, _, _, _, _, rfl, (ls.set j (l' ++ [(r.b, cost h r)])).set k (l2 ++ [(r.a, cost h r)]), by rw [List.length_set]; exact l1, fun u v c => ?_, fun z hz => ?_, rfl⟩
        · rw [adjE_set nd l1.symm hk hl2, adjE_set nd lsl.symm hj hl', hadj, rdE_take hr, hshut]
          constructor
          · rintro ((h1 | ⟨rfl, e⟩) | ⟨rfl, e⟩)
            · exact .inl h1
            · cases e; exact .inr ⟨rfl, rfl, .inl ⟨rfl, rfl⟩⟩
            · cases e; exact .inr ⟨rfl, rfl, .inr ⟨rfl, rfl⟩⟩
          · rintro (h1 | ⟨_, rfl, ⟨rfl, rfl⟩ | ⟨rfl, rfl⟩⟩)
            · exact .inl (.inl h1)
            · exact .inl (.inr ⟨rfl, rfl⟩)
            · exact .inr ⟨rfl, rfl⟩
        · rcases List.mem_or_eq_of_mem_set hz with hz | rfl
          · have := lm z hz; omega
          · have := lm l2 (List.mem_of_getElem? hl2)
            rw [List.length_append]; simp; omega
      · have hshut : shutB sh i = true := by simpa using c
        (((try unfold ζq); dsimp only))
        refine ⟨_, _, _, _, _, _, rfl, ls, lsl, fun u v c => ?_, fun l hl => by have := hlen l hl; omega, rfl⟩
        rw [hadj, rdE_take hr, hshut]
        exact ⟨.inl, fun z => z.elim id fun z => by cases z.1⟩
  · rintro ω' S' ⟨y4, y5, y6, y7, y8, y9, rfl, ls, lsl, hadj, hlen, rfl⟩
    rw [List.length_map, List.take_length] at hadj
    (((try unfold ζq); dsimp only))
    refine ret_go (var_go rfl ⟨_, stL_re (by rw [List.length_map]; omega) (by rw [List.length_map]; omega) hqn hlq hl hqs, ?_⟩)
    have hup : up S l (.dK ((names.map Sum.inr : List Key).zip ((ls.map stepsW).map W.lst))) l = some (.dK ((names.map Sum.inr : List Key).zip ((ls.map stepsW).map W.lst))) := up_same
    refine ⟨_, _, Frz.dct hup, ?_⟩
    rw [del_new hl]
    have e1 : ((names.map Sum.inr : List Key).zip ((ls.map stepsW).map W.lst)).map (·.1) = names.map Sum.inr := List.map_fst_zip (by rw [List.length_map, List.length_map, List.length_map]; omega)
    have e2 : ((names.map Sum.inr : List Key).zip ((ls.map stepsW).map W.lst)).map (·.2) = ls.map fun l => .lst (stepsW l) := by
      rw [List.map_snd_zip (by rw [List.length_map, List.length_map, List.length_map]; omega), List.map_map]; rfl
    rw [e1, e2]
    have := q ls (by rw [lsl, nl]) (by rw [← hnm]; exact hadj) (fun l hl => by have := hlen l hl; rw [List.length_map] at this; omega)
    rw [← hnm] at this
    exact this
section
variable {P : Program} {w : World} {K : PySem.W.Frag} {mg : Str → Option Value} {base : Heap} {c_Ground c_BadTime c_NoGround c_NoPlace c_NoProof c_NoKind c_BadText c_NoDeed c_NoRow c_TooMany c_NotDone c_NoBook c_NoCall c_NoEngine c_NoEngines c_NoText c_Nothing c_NoSaying : Addr}
theorem ok_Ground_links {f : Addr} {fd : FuncData} (F : Fun K "links" "Ground.links" s_Ground_links f fd) (T : Txt K w mg c_Ground c_BadTime c_NoGround c_NoPlace c_NoProof c_NoKind c_BadText c_NoDeed c_NoRow c_TooMany c_NotDone c_NoBook c_NoCall c_NoEngine c_NoEngines c_NoText c_Nothing c_NoSaying) : FnOk P w K mg base CX0 1 f fd ["self", "hour", "shut"] (uSp K (sp_Ground_links c_Ground)) :=
  Fun.okF F sc_Ground_links (td_Ground_links c_Ground) (fun cdv A outer s H E hr =>
    (dss_cons (ds_setDcF (j := 3) (i := 0) (own := [("place", 10)]) T.cl_Ground T.n_Ground_risks sc_Ground_links.nd (blkOk_by (own := [("place", 10)]) (N := N_Ground_links) (sc := defScope s_Ground_links) (by decide +kernel)) (fun _ _ _ _ _ => (dg_nm (i := 10) sc_Ground_links.nd)) (fun _ _ _ _ _ => (dv 10)) (fun _ _ _ _ _ => (de_lstM da_nil)) (sw_trueD rfl rfl rfl (by decide +kernel)))
    (dss_cons (ds_for PassesOwn.never (di_enA T.z_enumerate (da_cons (de_fld T.cl_Ground T.n_Ground_roads (dv 0)) da_nil)) (dg_tp (dgs_cons (dg_nm (i := 4) sc_Ground_links.nd) (dgs_cons (dg_tp (dgs_cons (dg_nm (i := 5) sc_Ground_links.nd) (dgs_cons (dg_nm (i := 6) sc_Ground_links.nd) (dgs_cons (dg_nm (i := 7) sc_Ground_links.nd) (dgs_cons (dg_nm (i := 8) sc_Ground_links.nd) dgs_nil))))) dgs_nil)))
      (dss_one (ds_if (PW.pt (dw_or (dt_cmp oc_is (dv 2) de_non) (dw_or1 (dt_cmp (oc_notin hr) (dv 4) (dv 2))))) (dss_cons (ds_set (i := 9) sc_Ground_links.nd (de_if (dt_cmp (oc_in hr) (dv 1) (de_glob T.g_SLOW_HOURS)) (de_op oa_add (dv 7) (dv 8)) (dv 7)))
        (dss_cons (ds_expr (de_append (de_dget hr (dv 3) (dv 5)) (da_cons (de_tup (da_cons (dv 6) (da_cons (dv 9) da_nil))) da_nil)))
        (dss_one (ds_expr (de_append (de_dget hr (dv 3) (dv 6)) (da_cons (de_tup (da_cons (dv 5) (da_cons (dv 9) da_nil))) da_nil)))))) dss_nil)))
    (dss_one (ds_ret (de_re (dv 3))))))) (fun ws S Q E h => len_Ground_links h) (hd_Ground_links c_Ground)
end
structure LkOk (names : List Str) (ls : List (List (Str × Int))) : Prop where
  nd : names.Nodup
  hi : names.length ≤ 40
  len : ls.length = names.length
  nm : ∀ n ∈ names, isName (.str n) = true
  few : ∀ l ∈ ls, l.length ≤ 200
  to : ∀ u v c, adjE names ls u v c → v ∈ names ∧ 0 ≤ c
theorem inW_fm {S : Sto} {p : Addr} {m : FM} (h : S p = some (.dK (rkv m))) (n : Str) : inW S (.str n) (.ref p) = some (flook m n).isSome := by
  rw [inW_refD h wkey_str, wval_rkv]
  cases flook m n <;> rfl
theorem rkv_len (m : FM) : (rkv m).length = m.length := by unfold rkv; rw [List.length_map]
theorem fkeys_len (m : FM) : (fkeys m).length = m.length := List.length_map ..
abbrev s_least_minutes : Stmt := topS 35
abbrev N_least_minutes : List Str := ["links", "start", "least", "ahead", "minutes", "place", "there", "taken", "name"]
theorem sc_least_minutes : FnScope N_least_minutes ["links", "start"] (defScope s_least_minutes) := ⟨rfl, rfl, rfl, by decide +kernel, rfl, by decide +kernel, by decide +kernel⟩
theorem st_least_minutes {x0 x1 : W} : ζh N_least_minutes [x0, x1] = [some x0, some x1, none, none, none, none, none, none, none] := rfl
def td_least_minutes : DS' :=
    (ζX (ξa 2 dNewK)
    (ζX (ξa 3 (dDisp (((ζF 1), (dC (.int 0))) :: [])))
    (ζX (dWhile (ζO (ζF 3))
      (ζX (ζs (.tp ((.nm 4) :: ((.nm 5) :: []))) (dCB dMinL (ζm (dLcK 3 (.nm 8) dYes (ζS (ζm (dOp dDg (ζF 3) (ζF 8)) (ζm (ζF 8) ζR))) [8]) ζR)))
      (ζX (dDel (ζF 3) (ζF 5))
      (ζX (ξe (ζF 2) (ζF 5) (ζF 4))
      (dFor (ζD (dOp dDg (ζF 0) (ζF 5))) (.tp ((.nm 6) :: ((.nm 7) :: [])))
        (ζZ (ζj (dOp ζi (ζF 6) (ζF 2))) (ξe (ζF 3) (ζF 6) (dCB ζp (ζm (dOp ζL (ζF 4) (ζF 7)) (ζm (dGet2 (ζF 3) (ζF 6) (dOp ζL (ζF 4) (ζF 7))) ζR)))) ζq))))))
    (ζY (ζF 2)))))
def sp_least_minutes : DSp := fun ws S Q _ => ∃ names ls s, ws = [linksW names ls, .str s] ∧ LkOk names ls ∧ s ∈ names ∧ ∀ m : FM, DM (adjE names ls) s (flook m) → (fkeys m).Nodup → (∀ n ∈ fkeys m, n ∈ names) → Q (fmW m) S
theorem len_least_minutes {ws S Q E} (h : sp_least_minutes ws S Q E) : ws.length = 2 := by obtain ⟨_, _, _, rfl, _⟩ := h; rfl
theorem hd_least_minutes (ws S Q E) (h : sp_least_minutes ws S Q E) : td_least_minutes { nx := fun _ S' => frzQ Q .non S', rt := frzQ Q } ⟨ζh N_least_minutes ws, XF⟩ S := by
  obtain ⟨names, ls, s, rfl, L, hs, q⟩ := h
  have nn : ∀ u v c, adjE names ls u v c → 0 ≤ c := fun u v c e => (L.to u v c e).2
  simp only [st_least_minutes, td_least_minutes]
  refine seq_go (setN_go (fun w S1 => ∃ p, w = .ref p ∧ S p = none ∧ S1 = up S p (.dK [])) (fun Q h p hp => h _ _ ⟨p, rfl, hp, rfl⟩) ?_)
  rintro _ _ ⟨p, rfl, hpS, rfl⟩
  (((try unfold ζq); dsimp only; refine seq_go ?_))
  refine setN_go (fun w S1 => ∃ a, w = .ref a ∧ S a = none ∧ a ≠ p ∧ S1 = up (up S p (.dK (rkv []))) a (.dK (rkv [(s, 0)]))) (fun Q h => ?_) ?_
  · intro a ha
    have hap : a ≠ p := fun e => by subst e; rw [up_same] at ha; cases ha
    have haS : S a = none := by rw [up_ne hap] at ha; exact ha
    simp only [dPairs]
    (array_get_dec)
    refine ⟨trivial, ?_⟩
    show _ ∧ _
    refine ⟨by show 1 ≤ 15; decide, ?_⟩
    rw [up_up]
    exact h _ _ ⟨a, rfl, haS, hap, rfl⟩
  rintro _ _ ⟨a, rfl, haS, hap, rfl⟩
  (((try unfold ζq); dsimp only; refine seq_go ?_))
  obtain ⟨T, hT⟩ : ∃ T : FM → FM → Sto, T = fun m m' => up (up S p (.dK (rkv m))) a (.dK (rkv m')) := ⟨_, rfl⟩
  have Tp : ∀ m m', T m m' p = some (.dK (rkv m)) := fun m m' => by rw [hT]; show up (up S p _) a _ p = _; rw [up_ne (Ne.symm hap), up_same]
  have Ta : ∀ m m', T m m' a = some (.dK (rkv m')) := fun m m' => by rw [hT]; exact up_same
  have Tup : ∀ m m' m2, up (T m m') p (.dK (rkv m2)) = T m2 m' := fun m m' m2 => by rw [hT]; show up (up (up S p _) a _) p _ = up (up S p _) a _; rw [up_comm hap, up_up]
  have Tua : ∀ m m' m2, up (T m m') a (.dK (rkv m2)) = T m m2 := fun m m' m2 => by rw [hT]; exact up_up
  have T0 : up (up S p (.dK (rkv []))) a (.dK (rkv [(s, 0)])) = T [] [(s, 0)] := by rw [hT]
  rw [T0]
  refine ⟨fun k ω' S' => ∃ y4 y5 y6 y7, ω' = ⟨[some (linksW names ls), some (.str s), some (.ref p), some (.ref a), y4, y5, y6, y7, none], XF⟩ ∧ ∃ m m', DJ names (adjE names ls) (adjE names ls) s m m' ∧ S' = T m m' ∧ k = names.length - m.length, ⟨names.length, _, _, _, _, rfl, [], [(s, 0)], DJ.init hs, rfl, rfl⟩, ?_⟩
  rintro k ω' S' ⟨y4, y5, y6, y7, rfl, m, m', D, rfl, rfl⟩
  refine tru_v rfl (tru_fm (Ta m m')) ?_
  cases m' with
  | nil =>
    simp only [List.isEmpty_nil, Bool.not_true, Bool.false_eq_true, if_false]
    refine ret_go (var_go rfl ?_)
    have e1 : del (T m []) a = up S p (.dK (rkv m)) := by rw [hT]; exact del_new (by rw [up_ne hap]; exact haS)
    refine ⟨_, _, (Frz.drop (Ta m []) (fun _ e => nomatch e)).trans (Frz.dct (kvs := rkv m) (by rw [e1, up_same])), ?_⟩
    rw [e1, del_new hpS]
    have := q m D.done D.nl D.sl
    unfold fmW at this
    rw [← rkv_fst, ← rkv_snd] at this
    exact this
  | cons e0 m'' =>
    obtain ⟨m', hm'⟩ : ∃ m', m' = e0 :: m'' := ⟨_, rfl⟩
    rw [← hm'] at D ⊢
    have ne : m'.isEmpty = false := by rw [hm']; rfl
    simp only [ne, Bool.not_false, if_true]
    obtain ⟨e, he, hmin, hle⟩ := min_pairs (x := (e0.2, e0.1)) (xs := m''.map fun p => (p.2, p.1))
    have hmem : (e.2, e.1) ∈ m' := by
      have : e ∈ m'.map fun p => (p.2, p.1) := by rw [hm']; exact he
      obtain ⟨z, hz, ez⟩ := List.mem_map.mp this
      rw [← ez]; exact hz
    have hlook : flook m' e.2 = some e.1 := flook_of D.na hmem
    have hle' : ∀ v y, flook m' v = some y → e.1 ≤ y := fun v y hv => by
      have : (y, v) ∈ m'.map fun p => (p.2, p.1) := List.mem_map.mpr ⟨(v, y), flook_mem hv, rfl⟩
      rw [hm'] at this
      exact hle _ this
    have hen : e.2 ∈ names := D.sa _ (flook_some.mp ⟨_, hlook⟩)
    have hel : e.2 ∉ fkeys m := fun z => D.dis _ z (flook_some.mp ⟨_, hlook⟩)
    have hml : m.length < names.length := by
      have := nodup_sub_len (l1 := e.2 :: fkeys m) (l2 := names) (List.nodup_cons.mpr ⟨hel, D.nl⟩) (fun z hz => (List.mem_cons.mp hz).elim (fun e => e ▸ hen) (D.sl z))
      rw [List.length_cons, fkeys_len] at this
      omega
    refine ⟨fun ω2 S2 => ∃ y4 y5 y6 y7, ω2 = ⟨[some (linksW names ls), some (.str s), some (.ref p), some (.ref a), y4, y5, y6, y7, none], XF⟩ ∧ ∃ m2 m2', DJ names (adjE names ls) (adjE names ls) s m2 m2' ∧ S2 = T m2 m2' ∧ m2.length = m.length + 1, fun ω2 S2 ⟨y4, y5, y6, y7, h1, m2, m2', D2, h2, h3⟩ => ⟨names.length - m2.length, by omega, y4, y5, y6, y7, h1, m2, m2', D2, h2, rfl⟩, ?_⟩
    refine seq_go (asgT_go (pairIS e) (T m m') (fun Q h => ?_) rfl ?_)
    · have h40 := L.hi
      have hal := nodup_sub_len D.na D.sa
      rw [fkeys_len] at hal
      show dLcK 3 (.nm 8) dYes _ [8] _ _ _
      refine lcK_go (p := a) (kvs := rkv m') rfl (Ta m m') (fun z hz => ?_) (fun w => match w with | .str n => .tup [.int ((flook m' n).getD 0), .str n] | _ => .non) (by rw [rkv_len]; omega) (fun z hz => ?_) (fun z hz => ?_) ?_
      · unfold rkv at hz
        obtain ⟨w, hw, rfl⟩ := List.mem_map.mp hz
        exact sv_name (L.nm _ (D.sa _ (List.mem_map.mpr ⟨w, hw, rfl⟩)))
      · unfold rkv at hz
        obtain ⟨z, hz2, rfl⟩ := List.mem_map.mp hz
        refine ⟨_, rfl, fun S' Qe hv => ?_⟩
        have hz' : flook m' z.1 = some z.2 := flook_of D.na hz2
        have ev : wval (((rkv m').map (·.1)).zip ((rkv m').map (·.2))) (Sum.inr z.1) = some (.int z.2) := by rw [zip_prod, wval_rkv, hz']; rfl
        (array_get_dec)
        simp only [kW, wkey_str, ev]
        refine ⟨by show 2 ≤ 1000000; decide, ?_⟩
        have hv : Qe (.tup [.int ((flook m' z.1).getD 0), .str z.1]) _ := hv
        rw [hz'] at hv
        exact hv
      · unfold rkv at hz
        obtain ⟨w, hw, rfl⟩ := List.mem_map.mp hz
        rfl
      · have hk : ((rkv m').map fun z => (fun w => match w with | W.str n => W.tup [.int ((flook m' n).getD 0), .str n] | _ => .non) (kW z.1)) = (m'.map fun p => (p.2, p.1)).map pairIS := by
          rw [← fm_pairs D.na, List.map_map]
          unfold rkv
          rw [List.map_map]; rfl
        rw [hk, hm', List.map_cons, List.map_cons]
        refine ⟨_, _, _, rfl, rfl, ?_, ?_, fun w hw hpd => ?_⟩
        · intro y hy
          have hy : y ∈ ((e0.2, e0.1) :: m''.map fun p => (p.2, p.1)).map pairIS := hy
          obtain ⟨z, _, rfl⟩ := List.mem_map.mp hy
          rfl
        · exact alike_pairs ((e0.2, e0.1) :: m''.map fun p => (p.2, p.1))
        · have hw : w ∈ ((e0.2, e0.1) :: m''.map fun p => (p.2, p.1)).map pairIS := hw
          obtain ⟨z, _, rfl⟩ := List.mem_map.mp hw
          rw [hmin] at hpd
          rw [pd_pair hpd, ← hm']
          exact h
    (((try unfold ζq); dsimp only; refine seq_go ?_))
    refine del_go (n := e.2) (kvs := rkv m') rfl rfl (Ta m m') (by rw [wval_rkv, hlook]; rfl) ?_
    rw [wdrop_rkv, Tua]
    (((try unfold ζq); dsimp only; refine seq_go ?_))
    have h40 := L.hi
    refine put_go (n := e.2) (kvs := rkv m) (.int e.1) (fun Q h => h) rfl rfl (Tp _ _) (by rw [rkv_len]; omega) ?_
    rw [wput_rkv, Tup]
    (((try unfold ζq); dsimp only))
    obtain ⟨D1, hmax⟩ := D.take hlook hle'
    obtain ⟨i, hi⟩ := List.getElem?_of_mem hen
    have hil : i < ls.length := by rw [L.len]; exact (List.getElem?_eq_some_iff.mp hi).1
    obtain ⟨l, hl⟩ : ∃ l, ls[i]? = some l := ⟨_, List.getElem?_eq_getElem hil⟩
    have hl200 := L.few l (List.mem_of_getElem? hl)
    have m1len : (fput m e.2 e.1).length = m.length + 1 := by
      rw [← fkeys_len, fkeys_put, if_neg hel, List.length_append, fkeys_len]; rfl
    have hp1 : flook (fput m e.2 e.1) e.2 = some e.1 := by rw [flook_put, if_pos rfl]
    have hE : ∀ u v c, adjE names ls u v c ↔ (adjE names ls u v c ∧ u ≠ e.2) ∨ (u = e.2 ∧ (v, c) ∈ l) := fun u v c => by
      constructor
      · intro h
        by_cases z : u = e.2
        · refine .inr ⟨z, ?_⟩
          obtain ⟨j, l', h1, h2, h3⟩ := h
          have : j = i := nodup_idx L.nd h1 (by rw [hi, z])
          subst this
          rw [hl] at h2
          cases h2
          exact h3
        · exact .inl ⟨h, z⟩
      · rintro (⟨h, _⟩ | ⟨rfl, h⟩)
        · exact h
        · exact ⟨i, l, hi, hl, h⟩
    refine forS (w := .lst (stepsW l)) (xs := stepsW l) (fun Q' h => ?_) rfl (fun j ω3 S3 => ∃ y6 y7, ω3 = ⟨[some (linksW names ls), some (.str s), some (.ref p), some (.ref a), some (.int e.1), some (.str e.2), y6, y7, none], XF⟩ ∧ ∃ m2', DJ names (adjE names ls) (fun u v c => (adjE names ls u v c ∧ u ≠ e.2) ∨ (u = e.2 ∧ (v, c) ∈ l.take j)) s (fput m e.2 e.1) m2' ∧ S3 = T (fput m e.2 e.1) m2') ⟨_, _, rfl, _, D1.mon (fun u v c h => h.elim id fun z => by simp at z), rfl⟩ (fun _ _ _ _ => rfl) ?_ ?_
    · (array_get_dec)
      have ev : wval ((names.map Sum.inr : List Key).zip (ls.map fun l => W.lst (stepsW l))) (Sum.inr e.2) = some (.lst (stepsW l)) := wval_at L.nd hi (by rw [List.getElem?_map, hl]; rfl)
      simp only [linksW, view_c_dct, wkey_str, ev]
      exact h
    · rintro j w ω3 S3 hw ⟨y6, y7, rfl, m2', D2, rfl⟩
      rw [List.getElem?_map] at hw
      cases hj : l[j]? with
      | none => rw [hj] at hw; cases hw
      | some vc =>
        rw [hj] at hw
        cases hw
        obtain ⟨v, c⟩ := vc
        have hadj : adjE names ls e.2 v c := ⟨i, l, hi, hl, List.mem_of_getElem? hj⟩
        obtain ⟨k1, k2⟩ := D2.look hp1 hmax hadj nn (L.to _ _ _ hadj).1
        have hmon : ∀ u w d, (((adjE names ls u w d ∧ u ≠ e.2) ∨ (u = e.2 ∧ (w, d) ∈ l.take (j + 1))) → (((adjE names ls u w d ∧ u ≠ e.2) ∨ (u = e.2 ∧ (w, d) ∈ l.take j)) ∨ (u = e.2 ∧ w = v ∧ d = c))) := fun u w d h => by
          rcases h with h | ⟨h1, h2⟩
          · exact .inl (.inl h)
          · rw [List.take_succ, hj] at h2
            rcases List.mem_append.mp h2 with h2 | h2
            · exact .inl (.inr ⟨h1, h2⟩)
            · have := List.mem_singleton.mp h2
              cases this
              exact .inr ⟨h1, rfl, rfl⟩
        refine ⟨_, rfl, ?_⟩
        refine if_b (!(flook (fput m e.2 e.1) v).isSome) (fun Q h => ?_) (fun c1 => ?_) (fun c1 => ?_)
        · (array_get_dec)
          simp only [inW_fm (Tp _ _)]
          exact h
        · have hn : flook (fput m e.2 e.1) v = none := by
            cases z : flook (fput m e.2 e.1) v with
            | none => rfl
            | some _ => rw [z] at c1; cases c1
          have h2 := nodup_sub_len D2.na D2.sa
          rw [fkeys_len] at h2
          refine put_go (n := v) (kvs := rkv m2') (.int (if (flook m2' v).getD (e.1 + c) < e.1 + c then (flook m2' v).getD (e.1 + c) else e.1 + c)) (fun Q h => ?_) rfl rfl (Ta _ _) (by rw [rkv_len]; omega) ?_
          · (array_get_dec)
            refine ⟨by unfold isDv; rw [view_refD (Ta _ _)], _, _, _, view_refD (Ta _ _), rfl, ?_⟩
            rw [zip_prod, wval_rkv]
            have eg : ((flook m2' v).map W.int).getD (.int (e.1 + c)) = .int ((flook m2' v).getD (e.1 + c)) := by cases flook m2' v <;> rfl
            rw [eg]
            exact h
          rw [wput_rkv, Tua]
          exact ⟨_, _, rfl, _, (k2 hn).mon hmon, rfl⟩
        · have hn : ∃ y, flook (fput m e.2 e.1) v = some y := by
            cases z : flook (fput m e.2 e.1) v with
            | none => rw [z] at c1; cases c1
            | some y => exact ⟨y, rfl⟩
          obtain ⟨y, hy⟩ := hn
          (((try unfold ζq); dsimp only))
          exact ⟨_, _, rfl, _, (k1 y hy).mon hmon, rfl⟩
    · rintro ω3 S3 ⟨y6, y7, rfl, m2', D2, rfl⟩
      rw [List.length_map, List.take_length] at D2
      exact ⟨_, _, _, _, rfl, _, m2', D2.mon (fun u v c h => (hE u v c).mp h), rfl, m1len⟩
section
variable {P : Program} {w : World} {K : PySem.W.Frag} {mg : Str → Option Value} {base : Heap} {c_Ground c_BadTime c_NoGround c_NoPlace c_NoProof c_NoKind c_BadText c_NoDeed c_NoRow c_TooMany c_NotDone c_NoBook c_NoCall c_NoEngine c_NoEngines c_NoText c_Nothing c_NoSaying : Addr}
theorem ok_least_minutes {f : Addr} {fd : FuncData} (F : Fun K "least_minutes" "least_minutes" s_least_minutes f fd) (T : Txt K w mg c_Ground c_BadTime c_NoGround c_NoPlace c_NoProof c_NoKind c_BadText c_NoDeed c_NoRow c_TooMany c_NotDone c_NoBook c_NoCall c_NoEngine c_NoEngines c_NoText c_Nothing c_NoSaying) : FnOk P w K mg base CX0 1 f fd ["links", "start"] (uSp K (sp_least_minutes)) :=
  Fun.okF F sc_least_minutes (td_least_minutes) (fun cdv A outer s H E hr =>
    (dss_cons (ds_set (i := 2) sc_least_minutes.nd de_dnewK)
    (dss_cons (ds_set (i := 3) sc_least_minutes.nd (de_disp (dpp_cons (dv 1) de_int dpp_nil)))
    (dss_cons (ds_while PassesOwn.never (dt_tru (dv 3))
      (dss_cons (ds_asgT (de_callB (cd_minL hr) T.z_min (da_cons (de_lcK (i := 3) (own := [("name", 8)]) sc_least_minutes.nd  (blkOk_by (own := [("name", 8)]) (N := N_least_minutes) (sc := defScope s_least_minutes) (by decide +kernel)) (fun _ _ _ _ _ => (dg_nm (i := 8) sc_least_minutes.nd)) (fun _ _ _ _ _ => dts_nil) (fun _ _ _ _ _ => (de_tup (da_cons (de_dget hr (dv 3) (dv 8)) (da_cons (dv 8) da_nil))))) da_nil)) (dg_tp (dgs_cons (dg_nm (i := 4) sc_least_minutes.nd) (dgs_cons (dg_nm (i := 5) sc_least_minutes.nd) dgs_nil))))
      (dss_cons (ds_ddel (dv 3) (dv 5))
      (dss_cons (ds_dput hr (dv 2) (dv 5) (dv 4))
      (dss_one (ds_for PassesOwn.never (di_seq (de_dget hr (dv 0) (dv 5))) (dg_tp (dgs_cons (dg_nm (i := 6) sc_least_minutes.nd) (dgs_cons (dg_nm (i := 7) sc_least_minutes.nd) dgs_nil)))
        (dss_one (ds_if (dt_cmp (oc_notin hr) (dv 6) (dv 2)) (dss_one (ds_dput hr (dv 3) (dv 6) (de_callB cd_min2 T.z_min (da_cons (de_op oa_add (dv 4) (dv 7)) (da_cons (de_get2 hr (dv 3) (dv 6) (de_op oa_add (dv 4) (dv 7))) da_nil))))) dss_nil))))))))
    (dss_one (ds_ret (dv 2))))))) (fun ws S Q E h => len_least_minutes h) (hd_least_minutes)
end
theorem LkOk.of {ps : List (Str × Int)} {rs : List Rd4} {h : Int} {sh : Option (List Int)} {ls : List (List (Str × Int))} (P : PsOk ps) (R : RsOk ps rs) (l1 : ls.length = ps.length) (l2 : ∀ u v c, adjE (ps.map (·.1)) ls u v c ↔ rdE rs h sh u v c) (l3 : ∀ l ∈ ls, l.length ≤ 200) : LkOk (ps.map (·.1)) ls :=
  ⟨P.nd, by rw [List.length_map]; exact P.hi, by rw [List.length_map]; exact l1, fun n hn => P.name hn, l3, fun u v c e => by have := rdE_nn R ((l2 u v c).mp e); exact ⟨this.2.2.2, this.1⟩⟩
abbrev s_Ground_minutes : Stmt := inClass (topS 34) 5
abbrev N_Ground_minutes : List Str := ["self", "start", "goal", "hour", "shut"]
theorem sc_Ground_minutes : FnScope N_Ground_minutes ["self", "start", "goal", "hour", "shut"] (defScope s_Ground_minutes) := ⟨rfl, rfl, rfl, by decide +kernel, rfl, by decide +kernel, by decide +kernel⟩
theorem st_Ground_minutes {x0 x1 x2 x3 x4 : W} : ζh N_Ground_minutes [x0, x1, x2, x3, x4] = [some x0, some x1, some x2, some x3, some x4] := rfl
def td_Ground_minutes (c_Ground c_NoPlace : Addr) : DS' :=
    (ζX (ζr (dMthX c_Ground "check_place" (sp_Ground_check_place c_Ground c_NoPlace) [] (ζF 0) (ζm (ζF 1) ζR)))
    (ζX (ζr (dMthX c_Ground "check_place" (sp_Ground_check_place c_Ground c_NoPlace) [] (ζF 0) (ζm (ζF 2) ζR)))
    (ζY (dGet1 (ζu sp_least_minutes (ζm (dMth c_Ground "links" (sp_Ground_links c_Ground) [] (ζF 0) (ζm (ζF 3) (ζm (ζF 4) ζR))) (ζm (ζF 1) ζR))) (ζF 2)))))
def sp_Ground_minutes (C NP : Addr) : DSp := fun ws S Q E => ∃ ps rs ss x y h sh, ws = [gW C ps rs ss, x, y, .int h, shutW sh] ∧ Pl x = true ∧ Pl y = true ∧ PsOk ps ∧ RsOk ps rs ∧ (isP ps x = false → E (.ref NP) (some [("place", x)]) S) ∧ (isP ps x = true → isP ps y = false → E (.ref NP) (some [("place", y)]) S) ∧ (isP ps x = true → isP ps y = true → ∃ s g, x = .str s ∧ y = .str g ∧ s ∈ ps.map (·.1) ∧ g ∈ ps.map (·.1) ∧ ∀ f : Str → Option Int, DM (rdE rs h sh) s f → Q (((f g).map W.int).getD .non) S)
theorem len_Ground_minutes {C NP ws S Q E} (h : sp_Ground_minutes C NP ws S Q E) : ws.length = 5 := by obtain ⟨_, _, _, _, _, _, _, rfl, _⟩ := h; rfl
theorem hd_Ground_minutes (C NP : Addr) (ws S Q E) (h : sp_Ground_minutes C NP ws S Q E) : td_Ground_minutes C NP { nx := fun _ S' => frzQ Q .non S', rt := frzQ Q } ⟨ζh N_Ground_minutes ws, frzX E⟩ S := by
  obtain ⟨ps, rs, ss, x, y, h, sh, rfl, px, py, P, R, q1, q2, q3⟩ := h
  simp only [st_Ground_minutes, td_Ground_minutes]
  refine seq_go (drop_go ?_)
  simp only [dMthX]
  (array_get_dec)
  refine ⟨g_ins (by decide +kernel), ps, rs, ss, x, rfl, px, fun ex => ?_, fun ex => frzX.mk (l := []) (q1 ex)⟩
  simp only [dMthX]
  (array_get_dec)
  refine ⟨g_ins (by decide +kernel), ps, rs, ss, y, rfl, py, fun ey => ?_, fun ey => frzX.mk (l := []) (q2 ex ey)⟩
  obtain ⟨s, g, rfl, rfl, hs, hg, q⟩ := q3 ex ey
  simp only [dMth, dGet1]
  (array_get_dec)
  refine ⟨g_ins (by decide +kernel), ps, rs, ss, h, sh, rfl, P, R, fun ls l1 l2 l3 => ?_⟩
  refine ⟨ps.map (·.1), ls, s, rfl, LkOk.of P R l1 l2 l3, hs, fun m D _ _ => ?_⟩
  refine ⟨rfl, _, _, _, rfl, rfl, ?_⟩
  rw [fm_val]
  exact frzQ.mk (q _ (D.congr l2))
section
variable {P : Program} {w : World} {K : PySem.W.Frag} {mg : Str → Option Value} {base : Heap} {c_Ground c_BadTime c_NoGround c_NoPlace c_NoProof c_NoKind c_BadText c_NoDeed c_NoRow c_TooMany c_NotDone c_NoBook c_NoCall c_NoEngine c_NoEngines c_NoText c_Nothing c_NoSaying : Addr}
theorem ok_Ground_minutes {f : Addr} {fd : FuncData} (F : FunD K "minutes" "Ground.minutes" (defArgs s_Ground_minutes) (defBody s_Ground_minutes) (defScope s_Ground_minutes) [.int 0, .non] [] f fd) (T : Txt K w mg c_Ground c_BadTime c_NoGround c_NoPlace c_NoProof c_NoKind c_BadText c_NoDeed c_NoRow c_TooMany c_NotDone c_NoBook c_NoCall c_NoEngine c_NoEngines c_NoText c_Nothing c_NoSaying) (DX_Ground_check_place : MthX P w K mg base 3 c_Ground "check_place" (sp_Ground_check_place c_Ground c_NoPlace) []) (C_least_minutes : CalD P w K mg base 1 "least_minutes" sp_least_minutes) (D_Ground_links : MthD P w K mg base 1 c_Ground "links" (sp_Ground_links c_Ground) []) : FnOk P w K mg base (L2.CX P w) 4 f fd ["self", "start", "goal", "hour", "shut"] (uSp K (sp_Ground_minutes c_Ground c_NoPlace)) :=
  FunD.okXF F sc_Ground_minutes (td_Ground_minutes c_Ground c_NoPlace) (fun cdv A outer s H E hr =>
    (dss_cons (ds_expr (de_mthX T.cl_Ground DX_Ground_check_place (takes_of rfl rfl rfl rfl) hr (dv 0) (da_cons (dv 1) da_nil)))
    (dss_cons (ds_expr (de_mthX T.cl_Ground DX_Ground_check_place (takes_of rfl rfl rfl rfl) hr (dv 0) (da_cons (dv 2) da_nil)))
    (dss_one (ds_ret (de_get1 hr (de_call C_least_minutes hr (da_cons (de_mth T.cl_Ground D_Ground_links hr (dv 0) (da_cons (dv 3) (da_cons (dv 4) da_nil))) (da_cons (dv 1) da_nil))) (dv 2))))))) (fun ws S Q E h => len_Ground_minutes h) (hd_Ground_minutes c_Ground c_NoPlace)
end
abbrev s_Ground_road : Stmt := inClass (topS 34) 6
abbrev N_Ground_road : List Str := ["self", "start", "goal", "hour", "shut", "links", "left"]
theorem sc_Ground_road : FnScope N_Ground_road ["self", "start", "goal", "hour", "shut"] (defScope s_Ground_road) := ⟨rfl, rfl, rfl, by decide +kernel, rfl, by decide +kernel, by decide +kernel⟩
theorem st_Ground_road {x0 x1 x2 x3 x4 : W} : ζh N_Ground_road [x0, x1, x2, x3, x4] = [some x0, some x1, some x2, some x3, some x4, none, none] := rfl
def td_Ground_road (c_Ground c_NoPlace : Addr) : DS' :=
    (ζX (ζr (dMthX c_Ground "check_place" (sp_Ground_check_place c_Ground c_NoPlace) [] (ζF 0) (ζm (ζF 1) ζR)))
    (ζX (ζr (dMthX c_Ground "check_place" (sp_Ground_check_place c_Ground c_NoPlace) [] (ζF 0) (ζm (ζF 2) ζR)))
    (ζX (fun _ _ _ => False)
    (ζX (fun _ _ _ => False)
    (ζX (fun _ _ _ => False)
    (fun _ _ _ => False))))))
def sp_Ground_road (C NP : Addr) : DSp := fun ws S Q E => ∃ ps rs ss x y h sh, ws = [gW C ps rs ss, x, y, .int h, shutW sh] ∧ Pl x = true ∧ Pl y = true ∧ (isP ps x = false → E (.ref NP) (some [("place", x)]) S) ∧ (isP ps x = true → isP ps y = false ∧ E (.ref NP) (some [("place", y)]) S)
theorem len_Ground_road {C NP ws S Q E} (h : sp_Ground_road C NP ws S Q E) : ws.length = 5 := by obtain ⟨_, _, _, _, _, _, _, rfl, _⟩ := h; rfl
theorem hd_Ground_road (C NP : Addr) (ws S Q E) (h : sp_Ground_road C NP ws S Q E) : td_Ground_road C NP { nx := fun _ S' => frzQ Q .non S', rt := frzQ Q } ⟨ζh N_Ground_road ws, frzX E⟩ S := by
  obtain ⟨ps, rs, ss, x, y, h, sh, rfl, px, py, q1, q2⟩ := h
  simp only [st_Ground_road, td_Ground_road]
  refine seq_go (drop_go ?_)
  simp only [dMthX]
  (array_get_dec)
  refine ⟨g_ins (by decide +kernel), ps, rs, ss, x, rfl, px, fun ex => ?_, fun ex => frzX.mk (l := []) (q1 ex)⟩
  simp only [dMthX]
  (array_get_dec)
  exact ⟨g_ins (by decide +kernel), ps, rs, ss, y, rfl, py, fun ey => (by rw [(q2 ex).1] at ey; cases ey), fun ey => frzX.mk (l := []) (q2 ex).2⟩
section
variable {P : Program} {w : World} {K : PySem.W.Frag} {mg : Str → Option Value} {base : Heap} {c_Ground c_BadTime c_NoGround c_NoPlace c_NoProof c_NoKind c_BadText c_NoDeed c_NoRow c_TooMany c_NotDone c_NoBook c_NoCall c_NoEngine c_NoEngines c_NoText c_Nothing c_NoSaying : Addr}
theorem ok_Ground_road {f : Addr} {fd : FuncData} (F : FunD K "road" "Ground.road" (defArgs s_Ground_road) (defBody s_Ground_road) (defScope s_Ground_road) [.int 0, .non] [] f fd) (T : Txt K w mg c_Ground c_BadTime c_NoGround c_NoPlace c_NoProof c_NoKind c_BadText c_NoDeed c_NoRow c_TooMany c_NotDone c_NoBook c_NoCall c_NoEngine c_NoEngines c_NoText c_Nothing c_NoSaying) (DX_Ground_check_place : MthX P w K mg base 3 c_Ground "check_place" (sp_Ground_check_place c_Ground c_NoPlace) []) : FnOk P w K mg base (L2.CX P w) 4 f fd ["self", "start", "goal", "hour", "shut"] (uSp K (sp_Ground_road c_Ground c_NoPlace)) :=
  FunD.okXF F sc_Ground_road (td_Ground_road c_Ground c_NoPlace) (fun cdv A outer s H E hr =>
    (dss_cons (ds_expr (de_mthX T.cl_Ground DX_Ground_check_place (takes_of rfl rfl rfl rfl) hr (dv 0) (da_cons (dv 1) da_nil)))
    (dss_cons (ds_expr (de_mthX T.cl_Ground DX_Ground_check_place (takes_of rfl rfl rfl rfl) hr (dv 0) (da_cons (dv 2) da_nil)))
    (dss_cons ds_never
    (dss_cons ds_never
    (dss_cons ds_never
    (dss_one ds_never))))))) (fun ws S Q E h => len_Ground_road h) (hd_Ground_road c_Ground c_NoPlace)
end
abbrev s_Ground_risk : Stmt := inClass (topS 34) 9
abbrev N_Ground_risk : List Str := ["self", "place"]
theorem sc_Ground_risk : FnScope N_Ground_risk ["self", "place"] (defScope s_Ground_risk) := ⟨rfl, rfl, rfl, by decide +kernel, rfl, by decide +kernel, by decide +kernel⟩
theorem st_Ground_risk {x0 x1 : W} : ζh N_Ground_risk [x0, x1] = [some x0, some x1] := rfl
def td_Ground_risk (c_Ground c_NoPlace : Addr) : DS' :=
    (ζX (ζr (dMthX c_Ground "check_place" (sp_Ground_check_place c_Ground c_NoPlace) [] (ζF 0) (ζm (ζF 1) ζR)))
    (fun _ _ _ => False))
def sp_Ground_risk (C NP : Addr) : DSp := fun ws S Q E => ∃ ps rs ss x, ws = [gW C ps rs ss, x] ∧ Pl x = true ∧ isP ps x = false ∧ E (.ref NP) (some [("place", x)]) S
theorem len_Ground_risk {C NP ws S Q E} (h : sp_Ground_risk C NP ws S Q E) : ws.length = 2 := by obtain ⟨_, _, _, _, rfl, _⟩ := h; rfl
theorem hd_Ground_risk (C NP : Addr) (ws S Q E) (h : sp_Ground_risk C NP ws S Q E) : td_Ground_risk C NP { nx := fun _ S' => frzQ Q .non S', rt := frzQ Q } ⟨ζh N_Ground_risk ws, frzX E⟩ S := by
  obtain ⟨ps, rs, ss, x, rfl, px, ex, q⟩ := h
  simp only [st_Ground_risk, td_Ground_risk]
  refine seq_go (drop_go ?_)
  simp only [dMthX]
  (array_get_dec)
  exact ⟨g_ins (by decide +kernel), ps, rs, ss, x, rfl, px, fun e => (by rw [ex] at e; cases e), fun _ => frzX.mk (l := []) q⟩
section
variable {P : Program} {w : World} {K : PySem.W.Frag} {mg : Str → Option Value} {base : Heap} {c_Ground c_BadTime c_NoGround c_NoPlace c_NoProof c_NoKind c_BadText c_NoDeed c_NoRow c_TooMany c_NotDone c_NoBook c_NoCall c_NoEngine c_NoEngines c_NoText c_Nothing c_NoSaying : Addr}
theorem ok_Ground_risk {f : Addr} {fd : FuncData} (F : Fun K "risk" "Ground.risk" s_Ground_risk f fd) (T : Txt K w mg c_Ground c_BadTime c_NoGround c_NoPlace c_NoProof c_NoKind c_BadText c_NoDeed c_NoRow c_TooMany c_NotDone c_NoBook c_NoCall c_NoEngine c_NoEngines c_NoText c_Nothing c_NoSaying) (DX_Ground_check_place : MthX P w K mg base 3 c_Ground "check_place" (sp_Ground_check_place c_Ground c_NoPlace) []) : FnOk P w K mg base (L2.CX P w) 4 f fd ["self", "place"] (uSp K (sp_Ground_risk c_Ground c_NoPlace)) :=
  Fun.okXF F sc_Ground_risk (td_Ground_risk c_Ground c_NoPlace) (fun cdv A outer s H E hr =>
    (dss_cons (ds_expr (de_mthX T.cl_Ground DX_Ground_check_place (takes_of rfl rfl rfl rfl) hr (dv 0) (da_cons (dv 1) da_nil)))
    (dss_one ds_never))) (fun ws S Q E h => len_Ground_risk h) (hd_Ground_risk c_Ground c_NoPlace)
end
abbrev s_Ground_station_of : Stmt := inClass (topS 34) 7
abbrev N_Ground_station_of : List Str := ["self", "place", "hour", "shut"]
theorem sc_Ground_station_of : FnScope N_Ground_station_of ["self", "place", "hour", "shut"] (defScope s_Ground_station_of) := ⟨rfl, rfl, rfl, by decide +kernel, rfl, by decide +kernel, by decide +kernel⟩
theorem st_Ground_station_of {x0 x1 x2 x3 : W} : ζh N_Ground_station_of [x0, x1, x2, x3] = [some x0, some x1, some x2, some x3] := rfl
def td_Ground_station_of (c_Ground c_NoPlace : Addr) : DS' :=
    (ζX (ζr (dMthX c_Ground "check_place" (sp_Ground_check_place c_Ground c_NoPlace) [] (ζF 0) (ζm (ζF 1) ζR)))
    (fun _ _ _ => False))
def sp_Ground_station_of (C NP : Addr) : DSp := fun ws S Q E => ∃ ps rs ss x h sh, ws = [gW C ps rs ss, x, .int h, shutW sh] ∧ Pl x = true ∧ isP ps x = false ∧ E (.ref NP) (some [("place", x)]) S
theorem len_Ground_station_of {C NP ws S Q E} (h : sp_Ground_station_of C NP ws S Q E) : ws.length = 4 := by obtain ⟨_, _, _, _, _, _, rfl, _⟩ := h; rfl
theorem hd_Ground_station_of (C NP : Addr) (ws S Q E) (h : sp_Ground_station_of C NP ws S Q E) : td_Ground_station_of C NP { nx := fun _ S' => frzQ Q .non S', rt := frzQ Q } ⟨ζh N_Ground_station_of ws, frzX E⟩ S := by
  obtain ⟨ps, rs, ss, x, h, sh, rfl, px, ex, q⟩ := h
  simp only [st_Ground_station_of, td_Ground_station_of]
  refine seq_go (drop_go ?_)
  simp only [dMthX]
  (array_get_dec)
  exact ⟨g_ins (by decide +kernel), ps, rs, ss, x, rfl, px, fun e => (by rw [ex] at e; cases e), fun _ => frzX.mk (l := []) q⟩
section
variable {P : Program} {w : World} {K : PySem.W.Frag} {mg : Str → Option Value} {base : Heap} {c_Ground c_BadTime c_NoGround c_NoPlace c_NoProof c_NoKind c_BadText c_NoDeed c_NoRow c_TooMany c_NotDone c_NoBook c_NoCall c_NoEngine c_NoEngines c_NoText c_Nothing c_NoSaying : Addr}
theorem ok_Ground_station_of {f : Addr} {fd : FuncData} (F : FunD K "station_of" "Ground.station_of" (defArgs s_Ground_station_of) (defBody s_Ground_station_of) (defScope s_Ground_station_of) [.int 0, .non] [] f fd) (T : Txt K w mg c_Ground c_BadTime c_NoGround c_NoPlace c_NoProof c_NoKind c_BadText c_NoDeed c_NoRow c_TooMany c_NotDone c_NoBook c_NoCall c_NoEngine c_NoEngines c_NoText c_Nothing c_NoSaying) (DX_Ground_check_place : MthX P w K mg base 3 c_Ground "check_place" (sp_Ground_check_place c_Ground c_NoPlace) []) : FnOk P w K mg base (L2.CX P w) 4 f fd ["self", "place", "hour", "shut"] (uSp K (sp_Ground_station_of c_Ground c_NoPlace)) :=
  FunD.okXF F sc_Ground_station_of (td_Ground_station_of c_Ground c_NoPlace) (fun cdv A outer s H E hr =>
    (dss_cons (ds_expr (de_mthX T.cl_Ground DX_Ground_check_place (takes_of rfl rfl rfl rfl) hr (dv 0) (da_cons (dv 1) da_nil)))
    (dss_one ds_never))) (fun ws S Q E h => len_Ground_station_of h) (hd_Ground_station_of c_Ground c_NoPlace)
end
abbrev s_law_take : Stmt := topS 47
abbrev N_law_take : List Str := ["_law_bag_here", "_law_many", "_law_digit"]
theorem sc_law_take : FnScope N_law_take ["_law_bag_here", "_law_many"] (defScope s_law_take) := ⟨rfl, rfl, rfl, by decide +kernel, rfl, by decide +kernel, by decide +kernel⟩
theorem st_law_take {x0 x1 : W} : ζh N_law_take [x0, x1] = [some x0, some x1, none] := rfl
def td_law_take : DS' :=
    (ζX (ζZ (ζj (dOp dGt (dOp dIx (ζF 0) (dC (.int 0))) (dC (.int 0)))) (ζX (ξa 2 (dOp ζJ (dOp dIx (ζF 0) (dC (.int 0))) (ζF 1)))
      (ζX (ζg (ζF 0) (dC (.int 0)) (dOp ζI (dOp dIx (ζF 0) (dC (.int 0))) (ζF 1)))
      (ζY (ζF 2)))) ζq)
    (ζX (ζg (ζF 0) (dC (.int 1)) (dOp ζJ (dOp ζL (dOp ζH (dOp dIx (ζF 0) (dC (.int 1))) (dC (.int 48271))) (dC (.int 11))) (dC (.int 2147483647))))
    (ζY (dOp ζJ (dOp ζJ (dOp ζK (dOp ζI (dOp dIx (ζF 0) (dC (.int 1))) (dC (.int 8))) (dC (.int 3))) (dC (.int 2147483629))) (ζF 1)))))
def sp_law_take : DSp := fun ws S Q _ => ∃ (b : Addr) (m : Int), ws = [.ref b, .int m] ∧ Bg S b ∧ 0 < m ∧ m < 1000000 ∧ ∀ r, 0 ≤ r → r < m → aft S b fun S' => Q (.int r) S'
theorem len_law_take {ws S Q E} (h : sp_law_take ws S Q E) : ws.length = 2 := by obtain ⟨b, m, rfl, _⟩ := h; rfl
theorem hd_law_take (ws S Q E) (h : sp_law_take ws S Q E) : td_law_take { nx := fun _ S' => frzQ Q .non S', rt := frzQ Q } ⟨ζh N_law_take ws, XF⟩ S := by
  obtain ⟨b, m, rfl, ⟨g, s, hb, ok⟩, m0, m1, q⟩ := h
  simp only [st_law_take, td_law_take]
  (array_get_dec)
  simp only [view_ref hb, atI_0, atI_1]
  try (array_get_dec)
  refine bl_cases (fun e => ?_) (fun e => ?_)
  · have eg : (0 : Int) < g := of_decide_eq_true e
    refine ⟨m0, ⟨m0, by omega⟩, ?_⟩
    simp only [hb]
    have e1 : ixN [W.int g, W.int s].length 0 = some 0 := rfl
    simp only [e1]
    try (array_get_dec)
    exact frzQ.mk (q _ (Int.emod_nonneg _ (by omega)) (Int.emod_lt_of_pos _ m0) _ _ ⟨Int.ediv_nonneg ok.g0 (by omega), ok.s0, ok.s1⟩)
  · refine ⟨.inr ⟨by omega, by omega⟩, (by decide), ?_⟩
    simp only [hb]
    have e1 : ixN [W.int g, W.int s].length 1 = some 1 := rfl
    simp only [e1]
    try (array_get_dec)
    simp only [view_ref up_same, atI_1]
    try (array_get_dec)
    have h0 : 0 ≤ (s * 48271 + 11) % 2147483647 := Int.emod_nonneg _ (by decide)
    have h1 : (s * 48271 + 11) % 2147483647 < 2147483647 := Int.emod_lt_of_pos _ (by decide)
    refine ⟨⟨by decide, by decide⟩, ⟨by decide, by decide, by omega⟩, by decide, m0, ?_⟩
    exact frzQ.mk (q _ (Int.emod_nonneg _ (by omega)) (Int.emod_lt_of_pos _ m0) _ _ ⟨ok.g0, h0, by omega⟩)
section
variable {P : Program} {w : World} {K : PySem.W.Frag} {mg : Str → Option Value} {base : Heap} {c_Ground c_BadTime c_NoGround c_NoPlace c_NoProof c_NoKind c_BadText c_NoDeed c_NoRow c_TooMany c_NotDone c_NoBook c_NoCall c_NoEngine c_NoEngines c_NoText c_Nothing c_NoSaying : Addr}
theorem ok_law_take {f : Addr} {fd : FuncData} (F : Fun K "_law_take" "_law_take" s_law_take f fd) (T : Txt K w mg c_Ground c_BadTime c_NoGround c_NoPlace c_NoProof c_NoKind c_BadText c_NoDeed c_NoRow c_TooMany c_NotDone c_NoBook c_NoCall c_NoEngine c_NoEngines c_NoText c_Nothing c_NoSaying) : FnOk P w K mg base CX0 1 f fd ["_law_bag_here", "_law_many"] (uSp K (sp_law_take)) :=
  Fun.okF F sc_law_take (td_law_take) (fun cdv A outer s H E hr =>
    (dss_cons (ds_if (dt_cmp oc_gt (de_ix (dv 0) de_int) de_int) (dss_cons (ds_set (i := 2) sc_law_take.nd (de_op oa_mod (de_ix (dv 0) de_int) (dv 1)))
      (dss_cons (ds_setIx (dv 0) de_int (de_op oa_div (de_ix (dv 0) de_int) (dv 1)))
      (dss_one (ds_ret (dv 2))))) dss_nil)
    (dss_cons (ds_setIx (dv 0) de_int (de_op oa_mod (de_op oa_add (de_op oa_mul (de_ix (dv 0) de_int) de_int) de_int) de_int))
    (dss_one (ds_ret (de_op oa_mod (de_op oa_mod (de_op oa_pow (de_op oa_div (de_ix (dv 0) de_int) de_int) de_int) de_int) (dv 1))))))) (fun ws S Q E h => len_law_take h) (hd_law_take)
end
abbrev s_law_bag : Stmt := topS 46
abbrev N_law_bag : List Str := ["_law_script", "_law_at", "_law_cell", "_law_great", "_law_primes"]
theorem sc_law_bag : FnScope N_law_bag ["_law_script", "_law_at"] (defScope s_law_bag) := ⟨rfl, rfl, rfl, by decide +kernel, rfl, by decide +kernel, by decide +kernel⟩
theorem st_law_bag {x0 x1 : W} : ζh N_law_bag [x0, x1] = [some x0, some x1, none, none, none] := rfl
def td_law_bag : DS' :=
    (ζX (ξa 2 (dC (.int 0)))
    (ζX (ζZ (ζj (dOp dGt (dCB ζU (ζm (ζF 0) ζR)) (dC (.int 0)))) (ξa 2 (dOp dIx (ζF 0) (dOp ζJ (ζF 1) (dCB ζU (ζm (ζF 0) ζR))))) ζq)
    (ζX (ξa 3 (dC (.int 0)))
    (ζX (ζZ (ζP (ζj (dOp dGe (dCB ζV (ζm (ζF 2) ζR)) (dOp ζK (dC (.int 10)) (dC (.int 18))))) (ζj (dOp dLt (ζF 1) (dCB ζU (ζm (ζF 0) ζR))))) (ξa 3 (dCB ζV (ζm (ζF 2) ζR))) ζq)
    (ζX (ξa 4 (ζS (ζm (dC (.int 2147483629)) (ζm (dC (.int 2147483587)) (ζm (dC (.int 2147483579)) (ζm (dC (.int 2147483563)) (ζm (dC (.int 2147483549)) (ζm (dC (.int 2147483543)) (ζm (dC (.int 2147483497)) (ζm (dC (.int 2147483489)) ζR))))))))))
    (ζY (ζn (ζm (ζF 3) (ζm (dOp ζJ (dOp ζK (dOp ζL (dOp ζL (dOp ζJ (ζF 2) (dC (.int 2147483647))) (dOp ζH (dC (.int 104729)) (ζF 1))) (dC (.int 7))) (dC (.int 5))) (dOp dIx (ζF 4) (dOp ζJ (ζF 1) (dC (.int 8))))) ζR)))))))))
def sp_law_bag : DSp := fun ws S Q _ => ∃ (ns : List Int) (m : Int), ws = [.scr ns, .int m] ∧ 0 ≤ m ∧ m < 1000000 ∧ ∀ p, S p = none → aft S p fun S' => Q (.ref p) S'
theorem len_law_bag {ws S Q E} (h : sp_law_bag ws S Q E) : ws.length = 2 := by obtain ⟨b, m, rfl, _⟩ := h; rfl
theorem hd_law_bag (ws S Q E) (h : sp_law_bag ws S Q E) : td_law_bag { nx := fun _ S' => frzQ Q .non S', rt := frzQ Q } ⟨ζh N_law_bag ws, XF⟩ S := by
  obtain ⟨ns, m, rfl, m0, m1, q⟩ := h
  have nat8 : (m % 8).toNat < 8 := by omega
  obtain ⟨pr, hpr, pr0, pr1⟩ := primes_at _ nat8
  have hat : L2.atI (primes.map W.int) (m % 8) = some (.int pr) := by rw [atI_toNat (by omega) (by rw [List.length_map]; exact nat8), List.getElem?_map, hpr]; rfl
  have hcell : ∀ x : Int, (x % 2147483647 + 104729 * m + 7).natAbs < 2 ^ 64 := fun x => by omega
  have cp : CPow 10 18 := ⟨by decide, by decide, by omega⟩
  have cm : CMul 104729 m := .inl ⟨by omega, by omega⟩
  simp only [st_law_bag, td_law_bag]
  refine seq_go (set_go (.int 0) S (fun _ h => h) ?_)
  (((try unfold ζq); dsimp only; refine seq_go ?_))
  refine ifset_go (decide ((0 : Int) < (ns.length : Int))) (fun w => ∃ c : Int, w = .int c) (fun Q h => by (array_get_dec); exact h) (fun e Q h => ?_) ⟨_, rfl, 0, rfl⟩ ?_
  · have hl : (0 : Int) < (ns.length : Int) := of_decide_eq_true e
    have h0 : 0 ≤ m % (ns.length : Int) := Int.emod_nonneg _ (by omega)
    have h1 : m % (ns.length : Int) < (ns.length : Int) := Int.emod_lt_of_pos _ hl
    have ha : L2.atI ns (m % (ns.length : Int)) = some (ns[(m % (ns.length : Int)).toNat]'(by omega)) := by rw [atI_toNat h0 (by omega)]; exact List.getElem?_eq_getElem (by omega)
    (array_get_dec)
    refine ⟨hl, ?_⟩
    simp only [ha]
    exact h _ ⟨_, rfl⟩
  rintro _ ⟨c, rfl⟩
  (((try unfold ζq); dsimp only; refine seq_go ?_))
  refine set_go (.int 0) S (fun _ h => h) ?_
  (((try unfold ζq); dsimp only; refine seq_go ?_))
  refine ifset_go (decide ((if c < 0 then -c else c) ≥ 10 ^ Int.toNat 18) && decide (m < (ns.length : Int))) (fun w => ∃ g : Int, w = .int g ∧ 0 ≤ g) (fun Q h => ?_) (fun e Q h => ?_) ⟨_, rfl, 0, rfl, by decide⟩ ?_
  · refine and_b (a := decide ((if c < 0 then -c else c) ≥ 10 ^ Int.toNat 18)) (b := decide (m < (ns.length : Int))) (fun Q h => ?_) (fun _ Q h => ?_) h
    · (array_get_dec)
      refine ⟨cp, ?_⟩
      exact h
    · (array_get_dec)
      exact h
  · (array_get_dec)
    exact h _ ⟨_, rfl, by split <;> omega⟩
  rintro _ ⟨g, rfl, hg⟩
  (((try unfold ζq); dsimp only; refine seq_go ?_))
  refine set_go (.tup (primes.map W.int)) S (fun Q h => ?_) ?_
  · (array_get_dec)
    exact ⟨by decide, h⟩
  (((try unfold ζq); dsimp only))
  refine ret_go ?_
  (array_get_dec)
  simp only [hat]
  refine ⟨by decide, cm, ⟨by decide, by decide, hcell c⟩, by decide, pr0, by decide, fun p hp => ?_⟩
  exact frzQ.mk (q p hp _ _ ⟨hg, Int.emod_nonneg _ (by omega), Int.lt_trans (Int.emod_lt_of_pos _ pr0) pr1⟩)
section
variable {P : Program} {w : World} {K : PySem.W.Frag} {mg : Str → Option Value} {base : Heap} {c_Ground c_BadTime c_NoGround c_NoPlace c_NoProof c_NoKind c_BadText c_NoDeed c_NoRow c_TooMany c_NotDone c_NoBook c_NoCall c_NoEngine c_NoEngines c_NoText c_Nothing c_NoSaying : Addr}
theorem ok_law_bag {f : Addr} {fd : FuncData} (F : Fun K "_law_bag" "_law_bag" s_law_bag f fd) (T : Txt K w mg c_Ground c_BadTime c_NoGround c_NoPlace c_NoProof c_NoKind c_BadText c_NoDeed c_NoRow c_TooMany c_NotDone c_NoBook c_NoCall c_NoEngine c_NoEngines c_NoText c_Nothing c_NoSaying) : FnOk P w K mg base CX0 1 f fd ["_law_script", "_law_at"] (uSp K (sp_law_bag)) :=
  Fun.okF F sc_law_bag (td_law_bag) (fun cdv A outer s H E hr =>
    (dss_cons (ds_set (i := 2) sc_law_bag.nd de_int)
    (dss_cons (ds_if (dt_cmp oc_gt (de_callB cd_len T.z_len (da_cons (dv 0) da_nil)) de_int) (dss_one (ds_set (i := 2) sc_law_bag.nd (de_ix (dv 0) (de_op oa_mod (dv 1) (de_callB cd_len T.z_len (da_cons (dv 0) da_nil)))))) dss_nil)
    (dss_cons (ds_set (i := 3) sc_law_bag.nd de_int)
    (dss_cons (ds_if (PW.pt (dw_and (dt_cmp oc_ge (de_callB cd_abs T.z_abs (da_cons (dv 2) da_nil)) (de_op oa_pow de_int de_int)) (dw_and1 (dt_cmp oc_lt (dv 1) (de_callB cd_len T.z_len (da_cons (dv 0) da_nil)))))) (dss_one (ds_set (i := 3) sc_law_bag.nd (de_callB cd_abs T.z_abs (da_cons (dv 2) da_nil)))) dss_nil)
    (dss_cons (ds_set (i := 4) sc_law_bag.nd (de_tup (da_cons de_int (da_cons de_int (da_cons de_int (da_cons de_int (da_cons de_int (da_cons de_int (da_cons de_int (da_cons de_int da_nil))))))))))
    (dss_one (ds_ret (de_lstM (da_cons (dv 3) (da_cons (de_op oa_mod (de_op oa_pow (de_op oa_add (de_op oa_add (de_op oa_mod (dv 2) de_int) (de_op oa_mul de_int (dv 1))) de_int) de_int) (de_ix (dv 4) (de_op oa_mod (dv 1) de_int))) da_nil))))))))))) (fun ws S Q E h => len_law_bag h) (hd_law_bag)
end
theorem str_eq {x y : Str} (h : x.cps.toList = y.cps.toList) : x = y := PySem.W.str_of_cps h
theorem cutS_cut (z : Str) (lo hi : Option Int) : (cutS z lo hi).cps.toList = cut z.cps.toList lo hi := by
  show (z.cps.toList.drop (HT.sIx z.length 0 lo)).take (HT.sIx z.length z.length hi - HT.sIx z.length 0 lo) = _
  unfold cut
  rw [str_len]
theorem app_l (x y : Str) : (x ++ y).cps.toList = x.cps.toList ++ y.cps.toList := by
  show (x.cps ++ y.cps).toList = _
  rw [Array.toList_append]
def own (sh k : Nat) : List Nat := if k ≤ 25 then [97 + (sh + k) % 26] else [97 + (sh + k) % 26, 97 + k % 25]
theorem own_inj {sh i j : Nat} (hi : i < 51) (hj : j < 51) (h : own sh i = own sh j) : i = j := by
  unfold own at h
  by_cases ci : i ≤ 25 <;> by_cases cj : j ≤ 25
  · rw [if_pos ci, if_pos cj] at h
    have := List.cons.inj h
    omega
  · rw [if_pos ci, if_neg cj] at h
    have := congrArg List.length h
    simp at this
  · rw [if_neg ci, if_pos cj] at h
    have := congrArg List.length h
    simp at this
  · rw [if_neg ci, if_neg cj] at h
    have := List.cons.inj h
    omega
theorem own_az (sh k : Nat) : (own sh k).all az = true := by
  have a1 : az (97 + (sh + k) % 26) = true := by unfold az; rw [decide_eq_true (by omega), decide_eq_true (by omega)]; rfl
  have a2 : az (97 + k % 25) = true := by unfold az; rw [decide_eq_true (by omega), decide_eq_true (by omega)]; rfl
  unfold own
  split
  · rw [List.all_cons, a1]; rfl
  · rw [List.all_cons, List.all_cons, a1, a2]; rfl
theorem own_len (sh k : Nat) : 1 ≤ (own sh k).length ∧ (own sh k).length ≤ 2 := by unfold own; split <;> exact ⟨by simp, by simp⟩
structure NsOk (n : Nat) (ns : List Str) : Prop where
  len : ns.length = n
  ok : ∀ x ∈ ns, isName (.str x) = true
  nd : ns.Nodup
abbrev s_law_names : Stmt := topS 48
abbrev N_law_names : List Str := ["_law_bag_here", "_law_many", "_law_letters", "_law_stem", "_law_spot", "_law_first", "_law_more", "_law_k", "_law_one"]
theorem sc_law_names : FnScope N_law_names ["_law_bag_here", "_law_many"] (defScope s_law_names) := ⟨rfl, rfl, rfl, by decide +kernel, rfl, by decide +kernel, by decide +kernel⟩
theorem st_law_names {x0 x1 : W} : ζh N_law_names [x0, x1] = [some x0, some x1, none, none, none, none, none, none, none] := rfl
def td_law_names : DS' :=
    (ζX (ξa 2 (dC (.str "abcdefghijklmnopqrstuvwxyz")))
    (ζX (ξa 3 (ζy (dC (.str "")) (dLc (ζA (ζm (ζu sp_law_take (ζm (ζF 0) (ζm (dC (.int 6)) ζR))) ζR)) (.nm 7) dYes (dOp dIx (ζF 2) (ζu sp_law_take (ζm (ζF 0) (ζm (dC (.int 26)) ζR)))) [7])))
    (ζX (ζs (.tp ((.nm 4) :: ((.nm 5) :: []))) (ζS (ζm (ζu sp_law_take (ζm (ζF 0) (ζm (dOp ζL (dCB ζU (ζm (ζF 3) ζR)) (dC (.int 1))) ζR))) (ζm (ζu sp_law_take (ζm (ζF 0) (ζm (dC (.int 26)) ζR))) ζR))))
    (ζX (ξa 6 (dLc (ζA (ζm (ζF 1) ζR)) (.nm 7) dYes (dOp ζL (dOp dIx (ζF 2) (dOp ζJ (dOp ζL (ζF 5) (ζF 7)) (dC (.int 26)))) (dOp dMulS (dOp dIx (ζF 2) (dOp ζJ (ζF 7) (dC (.int 25)))) (dCB ξg (ζm (dOp dGt (ζF 7) (dC (.int 25))) ζR)))) [7]))
    (ζY (dLc (ζD (ζF 6)) (.nm 8) dYes (dOp ζL (dOp ζL (dSl (ζF 3) dNo (ζv (ζF 4))) (ζF 8)) (dSl (ζF 3) (ζv (ζF 4)) dNo)) [8]))))))
def sp_law_names : DSp := fun ws S Q _ => ∃ (b : Addr) (n : Int), ws = [.ref b, .int n] ∧ Bg S b ∧ 0 ≤ n ∧ n ≤ 50 ∧ ∀ ns : List Str, NsOk n.toNat ns → aft S b (Q (.lst (ns.map W.str)))
theorem len_law_names {ws S Q E} (h : sp_law_names ws S Q E) : ws.length = 2 := by obtain ⟨b, n, rfl, _⟩ := h; rfl
theorem hd_law_names (ws S Q E) (h : sp_law_names ws S Q E) : td_law_names { nx := fun _ S' => frzQ Q .non S', rt := frzQ Q } ⟨ζh N_law_names ws, XF⟩ S := by
  obtain ⟨b, n, rfl, hb, n0, n1, q⟩ := h
  simp only [st_law_names, td_law_names]
  refine seq_go (set_go (.str letters) S (fun _ h => h) ?_)
  (((try unfold ζq); dsimp only; refine seq_go ?_))
  refine setN_go (fun w S1 => ∃ x g s, w = .str x ∧ x.cps.toList.all az = true ∧ x.cps.toList.length ≤ 5 ∧ BagOk g s ∧ S1 = up S b (bagO g s)) (fun Q h => ?_) ?_
  · refine join_go (fun cs S2 => cs.all az = true ∧ cs.length ≤ 5 ∧ ∃ g s, BagOk g s ∧ S2 = up S b (bagO g s)) (fun Q h => ?_) (fun cs S2 hc => by have := hc.2.1; omega) (fun cs S2 hc x hx => ?_)
    · refine lcBrN (fun z S1 => 0 ≤ z ∧ z ≤ 5 ∧ ∃ g s, BagOk g s ∧ S1 = up S b (bagO g s)) (fun Q' h => ?_) ?_
      · (array_get_dec)
        refine ⟨b, 6, rfl, hb, by decide, by decide, fun r r0 r1 g s ok => ?_⟩
        exact h _ _ ⟨r0, by omega, g, s, ok, rfl⟩
      · rintro z S1 ⟨z0, z5, g, s, ok, rfl⟩
        refine lcBr (b := b) (n := z) (fun _ h => h) z0 (by omega) (Bg.up ok) (fun _ v => ∃ c, v = W.str ⟨#[c]⟩ ∧ az c = true) (fun j hj => ⟨_, rfl, fun S' hB Qe hv => ?_⟩) (fun vs hl hG g' s' ok' => ?_)
        · (array_get_dec)
          refine ⟨b, 26, rfl, hB, by decide, by decide, fun r r0 r1 g s ok => ?_⟩
          have e : L2.atI (Str.ofString "abcdefghijklmnopqrstuvwxyz").cps.toList r = some (97 + r.toNat) := letter_at r0 r1
          simp only [e]
          refine hv _ ⟨_, rfl, ?_⟩ g s ok
          unfold az
          rw [decide_eq_true (by omega), decide_eq_true (by omega)]; rfl
        · obtain ⟨cs, rfl, hz⟩ := signs_of hG
          rw [List.length_map] at hl
          rw [up_up]
          exact h cs _ ⟨hz, by omega, g', s', ok', rfl⟩
    · obtain ⟨h1, h2, g, s, ok, rfl⟩ := hc
      exact h _ _ ⟨x, g, s, rfl, by rw [hx]; exact h1, by rw [hx]; exact h2, ok, rfl⟩
  rintro _ _ ⟨x, g, s, rfl, hz, hl5, ok, rfl⟩
  (((try unfold ζq); dsimp only; refine seq_go ?_))
  refine stN_go (fun ω' S1 => ∃ (f sh : Nat) (g s : Int), ω' = ⟨[some (.ref b), some (.int n), some (.str letters), some (.str x), some (.int (f : Nat)), some (.int (sh : Nat)), none, none, none], XF⟩ ∧ f ≤ x.cps.toList.length ∧ sh < 26 ∧ BagOk g s ∧ S1 = up S b (bagO g s)) (fun D h => ?_) ?_
  · (array_get_dec)
    have el : (x.length : Int) = (x.cps.toList.length : Int) := by rw [str_len]
    refine ⟨b, (x.length : Int) + 1, rfl, Bg.up ok, by omega, by omega, fun r r0 r1 g s ok => ?_⟩
    refine ⟨b, 26, rfl, by rw [up_up]; exact Bg.up ok, by decide, by decide, fun t t0 t1 g s ok => ?_⟩
    rw [up_up, up_up]
    exact ⟨by decide, h _ _ ⟨r.toNat, t.toNat, g, s, by rw [Int.toNat_of_nonneg r0, Int.toNat_of_nonneg t0], by omega, by omega, ok, rfl⟩⟩
  rintro _ _ ⟨f, sh, g0, s0, rfl, hf, hsh, ok0, rfl⟩
  (((try unfold ζq); dsimp only; refine seq_go ?_))
  refine set_go (.lst ((List.range n.toNat).map fun k : Nat => W.str ⟨(own sh k).toArray⟩)) (up S b (bagO g0 s0)) (fun Q h => ?_) ?_
  · refine lcMr (n := n) (fun _ h => h) n0 (by omega) (fun k : Nat => W.str ⟨(own sh k).toArray⟩) (fun i hi => ⟨_, rfl, fun p acc hp Qe he => ?_⟩) h
    have hlet : L2.atI letters.cps.toList (((sh : Int) + (i : Int)) % 26) = some (97 + (sh + i) % 26) := by
      rw [letter_at (by omega) (by omega), show (((sh : Int) + (i : Int)) % 26).toNat = (sh + i) % 26 by omega]
    have hlet2 : L2.atI letters.cps.toList ((i : Int) % 25) = some (97 + i % 25) := by
      rw [letter_at (by omega) (by omega), show ((i : Int) % 25).toNat = i % 25 by omega]
    (array_get_dec)
    refine ⟨by decide, ?_⟩
    simp only [hlet]
    refine ⟨by decide, ?_⟩
    simp only [hlet2]
    by_cases c : i ≤ 25
    · have d25 : decide ((25 : Int) < (i : Int)) = false := decide_eq_false (by omega)
      simp only [d25]
      refine ⟨⟨#[97 + i % 25]⟩, 0, rfl, rfl, mulOk0 _, by rw [mul_zero]; exact sv_empty, ?_⟩
      simp only [view_c_str, mul_zero]
      refine ⟨by show 1 + 0 ≤ 1000000; decide, ?_⟩
      have e : (⟨#[97 + (sh + i) % 26]⟩ : Str) ++ Str.empty = ⟨(own sh i).toArray⟩ := by
        refine str_eq ?_
        rw [app_l]
        unfold own
        rw [if_pos c]
        rfl
      rw [e]
      exact he
    · have d25 : decide ((25 : Int) < (i : Int)) = true := decide_eq_true (by omega)
      simp only [d25]
      have svl : sv (⟨#[97 + i % 25]⟩ : Str) := by
        refine sv_iff.mpr ⟨fun c hc => ?_, by show 1 ≤ sizeLine; decide⟩
        have : c = 97 + i % 25 := by simpa using hc
        omega
      refine ⟨⟨#[97 + i % 25]⟩, 1, rfl, rfl, mulOk1 (by show 1 ≤ 1000000; decide), by rw [mul_one]; exact svl, ?_⟩
      simp only [view_c_str, mul_one]
      refine ⟨by show 1 + 1 ≤ 1000000; decide, ?_⟩
      have e : (⟨#[97 + (sh + i) % 26]⟩ : Str) ++ (⟨#[97 + i % 25]⟩ : Str) = ⟨(own sh i).toArray⟩ := by
        refine str_eq ?_
        rw [app_l]
        unfold own
        rw [if_neg c]
        rfl
      rw [e]
      exact he
  (((try unfold ζq); dsimp only))
  refine ret_go ?_
  have l1 : (cutS x none (some (f : Int))).cps.toList = x.cps.toList.take f := by rw [cutS_cut, cut_take hf]
  have l2 : (cutS x (some (f : Int)) none).cps.toList = x.cps.toList.drop f := by rw [cutS_cut, cut_drop hf]
  have n1' : (cutS x none (some (f : Int))).length = f := by rw [str_len, l1, List.length_take]; omega
  have n2' : (cutS x (some (f : Int)) none).length = x.cps.toList.length - f := by rw [str_len, l2, List.length_drop]
  refine lcNs (w := .lst ((List.range n.toNat).map fun k : Nat => W.str ⟨(own sh k).toArray⟩)) (fun _ h => h) rfl (by simp; omega) (fun _ _ _ => rfl) (fun i v => ∃ y : Str, i < n.toNat ∧ y.cps.toList = x.cps.toList.take f ++ own sh i ++ x.cps.toList.drop f ∧ v = .str y) (fun i w hw => ⟨_, rfl, fun p acc hp Qe he => ?_⟩) (fun vs hv hG => ?_)
  · rw [List.getElem?_map] at hw
    have hil : i < n.toNat := by
      cases hr : (List.range n.toNat)[i]? with
      | none => rw [hr] at hw; cases hw
      | some k => have := (List.getElem?_eq_some_iff.mp hr).1; rw [List.length_range] at this; exact this
    rw [List.getElem?_range hil] at hw
    cases hw
    (array_get_dec)
    have n3 : (⟨(own sh i).toArray⟩ : Str).length = (own sh i).length := rfl
    have ol := own_len sh i
    refine ⟨by rw [n1', n3]; omega, by rw [str_app, n1', n2', n3]; omega, ?_⟩
    exact he _ ⟨_, hil, by rw [app_l, app_l, l1, l2], rfl⟩
  · rw [List.length_map, List.length_range] at hv
    obtain ⟨ns, rfl, hns⟩ := pick_G (R := fun y : Str => True) (g := W.str) (fun i v h => by obtain ⟨y, _, _, e⟩ := hG i v h; exact ⟨y, trivial, e⟩)
    rw [List.length_map] at hv
    have each : ∀ (i : Nat) y, ns[i]? = some y → i < n.toNat ∧ y.cps.toList = x.cps.toList.take f ++ own sh i ++ x.cps.toList.drop f := fun i y hy => by
      obtain ⟨y', h1, h2, e⟩ := hG i (.str y) (by rw [List.getElem?_map, hy]; rfl)
      cases e
      exact ⟨h1, h2⟩
    refine frzQ.mk (q ns ⟨hv, fun y hy => ?_, ?_⟩ _ _ ok0)
    · obtain ⟨i, hi⟩ := List.getElem?_of_mem hy
      have ol := own_len sh i
      refine nameOf (each i y hi).2 (by simp only [List.length_append]; omega) (by simp only [List.length_append, List.length_take, List.length_drop]; omega) ?_
      rw [List.all_append, List.all_append, Bool.and_eq_true, Bool.and_eq_true]
      refine ⟨⟨?_, own_az sh i⟩, ?_⟩
      · exact List.all_eq_true.mpr fun c hc => List.all_eq_true.mp hz c (List.mem_of_mem_take hc)
      · exact List.all_eq_true.mpr fun c hc => List.all_eq_true.mp hz c (List.mem_of_mem_drop hc)
    · unfold List.Nodup
      rw [List.pairwise_iff_getElem]
      intro i j hi hj hij e
      have h1 := each i ns[i] (List.getElem?_eq_getElem hi)
      have h2 := each j ns[i] (by rw [e]; exact List.getElem?_eq_getElem hj)
      have := h1.2.symm.trans h2.2
      have := List.append_cancel_right this
      have := List.append_cancel_left this
      have := own_inj (by omega) (by omega) this
      omega
section
variable {P : Program} {w : World} {K : PySem.W.Frag} {mg : Str → Option Value} {base : Heap} {c_Ground c_BadTime c_NoGround c_NoPlace c_NoProof c_NoKind c_BadText c_NoDeed c_NoRow c_TooMany c_NotDone c_NoBook c_NoCall c_NoEngine c_NoEngines c_NoText c_Nothing c_NoSaying : Addr}
theorem ok_law_names {f : Addr} {fd : FuncData} (F : Fun K "_law_names" "_law_names" s_law_names f fd) (T : Txt K w mg c_Ground c_BadTime c_NoGround c_NoPlace c_NoProof c_NoKind c_BadText c_NoDeed c_NoRow c_TooMany c_NotDone c_NoBook c_NoCall c_NoEngine c_NoEngines c_NoText c_Nothing c_NoSaying) (C_law_take : CalD P w K mg base 1 "_law_take" sp_law_take) : FnOk P w K mg base CX0 2 f fd ["_law_bag_here", "_law_many"] (uSp K (sp_law_names)) :=
  Fun.okF F sc_law_names (td_law_names) (fun cdv A outer s H E hr =>
    (dss_cons (ds_set (i := 2) sc_law_names.nd de_str)
    (dss_cons (ds_set (i := 3) sc_law_names.nd (de_join de_str (de_lc (own := [("_law_k", 7)]) sc_law_names.nd (di_range1 T.z_range (da_cons (de_call C_law_take hr (da_cons (dv 0) (da_cons de_int da_nil))) da_nil)) (blkOk_by (own := [("_law_k", 7)]) (N := N_law_names) (sc := defScope s_law_names) (by decide +kernel)) (fun _ _ _ _ _ => (dg_nm (i := 7) sc_law_names.nd)) (fun _ _ _ _ _ => dts_nil) (fun _ _ _ _ _ => (de_ix (dv 2) (de_call C_law_take hr (da_cons (dv 0) (da_cons de_int da_nil))))))))
    (dss_cons (ds_asgT (de_tup (da_cons (de_call C_law_take hr (da_cons (dv 0) (da_cons (de_op oa_add (de_callB cd_len T.z_len (da_cons (dv 3) da_nil)) de_int) da_nil))) (da_cons (de_call C_law_take hr (da_cons (dv 0) (da_cons de_int da_nil))) da_nil))) (dg_tp (dgs_cons (dg_nm (i := 4) sc_law_names.nd) (dgs_cons (dg_nm (i := 5) sc_law_names.nd) dgs_nil))))
    (dss_cons (ds_setLc (i := 6) (own := [("_law_k", 7)]) sc_law_names.nd (di_range1 T.z_range (da_cons (dv 1) da_nil)) (blkOk_by (own := [("_law_k", 7)]) (N := N_law_names) (sc := defScope s_law_names) (by decide +kernel)) (fun _ _ _ _ _ => (dg_nm (i := 7) sc_law_names.nd)) (fun _ _ _ _ _ => dts_nil) (fun _ _ _ _ _ => (de_op oa_add (de_ix (dv 2) (de_op oa_mod (de_op oa_add (dv 5) (dv 7)) de_int)) (de_op oa_mulS (de_ix (dv 2) (de_op oa_mod (dv 7) de_int)) (de_callTy cd_int T.z_int (da_cons (de_cmp oc_gt (dv 7) de_int) da_nil))))) (sw_true rfl rfl rfl (by decide +kernel)))
    (dss_one (ds_ret (de_lc (own := [("_law_one", 8)]) sc_law_names.nd (di_seq (dv 6)) (blkOk_by (own := [("_law_one", 8)]) (N := N_law_names) (sc := defScope s_law_names) (by decide +kernel)) (fun _ _ _ _ _ => (dg_nm (i := 8) sc_law_names.nd)) (fun _ _ _ _ _ => dts_nil) (fun _ _ _ _ _ => (de_op oa_add (de_op oa_add (de_sl (dv 3) do_none (do_some (dv 4))) (dv 8)) (de_sl (dv 3) (do_some (dv 4)) do_none))))))))))) (fun ws S Q E h => len_law_names h) (hd_law_names)
end
structure PqOk (m : Int) (n : Nat) (xs : List (Int × Int)) : Prop where
  len : xs.length ≤ n
  ok : ∀ x ∈ xs, 0 ≤ x.1 ∧ x.1 < x.2 ∧ x.2 < m
  nd : xs.Nodup
theorem PqOk.snoc {m : Int} {n : Nat} {xs : List (Int × Int)} (h : PqOk m n xs) {a b : Int} (h1 : 0 ≤ a ∧ a < b ∧ b < m) (h2 : (a, b) ∉ xs) : PqOk m (n + 1) (xs ++ [(a, b)]) := by
  refine ⟨by rw [List.length_append]; have := h.len; simp; omega, fun x hx => ?_, ?_⟩
  · rcases List.mem_append.mp hx with hx | hx
    · exact h.ok x hx
    · rw [List.mem_singleton.mp hx]; exact h1
  · exact List.nodup_append.mpr ⟨h.nd, by simp, fun x hx y hy => by rw [List.mem_singleton.mp hy]; exact fun e => h2 (e ▸ hx)⟩
theorem PqOk.mono {m : Int} {n n' : Nat} {xs : List (Int × Int)} (h : PqOk m n xs) (hn : n ≤ n') : PqOk m n' xs := ⟨Nat.le_trans h.len hn, h.ok, h.nd⟩
theorem PqOk.pr {m : Int} {n : Nat} {xs : List (Int × Int)} (h : PqOk m n xs) : PrOk m n xs := by
  refine ⟨h.len, fun x hx => by have := h.ok x hx; omega, ?_⟩
  have hn : xs.Pairwise (· ≠ ·) := h.nd
  refine List.Pairwise.imp_of_mem (fun {x y} hx hy hne => ⟨hne, fun e => ?_⟩) hn
  have h1 := h.ok x hx
  have h2 := h.ok y hy
  omega
theorem er_map {α β : Type} {f : α → β} : ∀ (xs : List α) (k : Nat), (xs.eraseIdx k).map f = (xs.map f).eraseIdx k
  | [], _ => rfl
  | _ :: _, 0 => rfl
  | x :: xs, k + 1 => congrArg (f x :: ·) (er_map xs k)
theorem RsOk.of2 {ps : List (Str × Int)} {ns : List Str} {n : Nat} {prs : List (Int × Int)} {rs : List Rd4} (hps : ps.map (·.1) = ns) (hnd : ns.Nodup) (hp : PrOk (ns.length : Int) n prs) (hn : n ≤ 80) (hl : rs.length = prs.length)
    (h : ∀ (i : Nat) r, rs[i]? = some r → ∃ x : Int × Int, prs[i]? = some x ∧ ((ns[x.1.toNat]? = some r.a ∧ ns[x.2.toNat]? = some r.b) ∨ (ns[x.2.toNat]? = some r.a ∧ ns[x.1.toNat]? = some r.b)) ∧ (1 ≤ r.m ∧ r.m ≤ 60) ∧ (0 ≤ r.s ∧ r.s ≤ 60)) : RsOk ps rs := by
  have inj : ∀ {i j : Nat} {x y : Str}, ns[i]? = some x → ns[j]? = some y → x = y → i = j := fun {i j x y} h1 h2 e => by
    subst e
    have hi := (List.getElem?_eq_some_iff.mp h1).1
    have hj := (List.getElem?_eq_some_iff.mp h2).1
    exact (List.getElem_inj (h₀ := hi) (h₁ := hj) hnd).mp ((List.getElem?_eq_some_iff.mp h1).2.trans (List.getElem?_eq_some_iff.mp h2).2.symm)
  refine ⟨by have := hp.len; omega, fun r hr => ?_, ?_⟩
  · obtain ⟨i, hi⟩ := List.getElem?_of_mem hr
    obtain ⟨x, hx, hab, hm, hs⟩ := h i r hi
    have ok := hp.ok x (List.mem_of_getElem? hx)
    rw [hps]
    rcases hab with ⟨ha, hb⟩ | ⟨ha, hb⟩
    · refine ⟨List.mem_of_getElem? ha, List.mem_of_getElem? hb, fun e => ?_, hm, hs⟩
      have := inj ha hb e
      omega
    · refine ⟨List.mem_of_getElem? ha, List.mem_of_getElem? hb, fun e => ?_, hm, hs⟩
      have := inj ha hb e
      omega
  · unfold List.Nodup
    rw [List.pairwise_map, List.pairwise_iff_getElem]
    intro i j hi hj hij e
    obtain ⟨x, hx, hab, _⟩ := h i _ (List.getElem?_eq_getElem hi)
    obtain ⟨y, hy, hcd, _⟩ := h j _ (List.getElem?_eq_getElem hj)
    have okx := hp.ok x (List.mem_of_getElem? hx)
    have oky := hp.ok y (List.mem_of_getElem? hy)
    have pw := List.pairwise_iff_getElem.mp hp.nd i j (by omega) (by omega) hij
    have ex : prs[i]'(by omega) = x := (List.getElem?_eq_some_iff.mp hx).2
    have ey : prs[j]'(by omega) = y := (List.getElem?_eq_some_iff.mp hy).2
    rw [ex, ey] at pw
    obtain ⟨p1, p2⟩ := pw
    have fin : ((x.1.toNat = y.1.toNat ∧ x.2.toNat = y.2.toNat) ∨ (x.1.toNat = y.2.toNat ∧ x.2.toNat = y.1.toNat)) → False := by
      rintro (⟨h1, h2⟩ | ⟨h1, h2⟩)
      · exact p1 (Prod.ext (by omega) (by omega))
      · exact p2 ⟨by omega, by omega⟩
    rcases ends_inj e with ⟨e1, e2⟩ | ⟨e1, e2⟩ <;> rcases hab with ⟨ha, hb⟩ | ⟨ha, hb⟩ <;> rcases hcd with ⟨hc, hd⟩ | ⟨hc, hd⟩
    · exact fin (.inl ⟨inj ha hc e1, inj hb hd e2⟩)
    · exact fin (.inr ⟨inj ha hc e1, inj hb hd e2⟩)
    · exact fin (.inr ⟨inj hb hd e2, inj ha hc e1⟩)
    · exact fin (.inl ⟨inj hb hd e2, inj ha hc e1⟩)
    · exact fin (.inr ⟨inj ha hd e1, inj hb hc e2⟩)
    · exact fin (.inl ⟨inj ha hd e1, inj hb hc e2⟩)
    · exact fin (.inl ⟨inj hb hc e2, inj ha hd e1⟩)
    · exact fin (.inr ⟨inj hb hc e2, inj ha hd e1⟩)
abbrev s_law_ground : Stmt := topS 49
abbrev N_law_ground : List Str := ["_law_bag_here", "_law_many", "_law_names_here", "_law_longest", "_law_sites", "_law_pairs", "_law_one", "_law_far", "_law_lanes", "_law_ends", "_law_left", "_law_posts", "_law_name", "_law_k"]
theorem sc_law_ground : FnScope N_law_ground ["_law_bag_here"] (defScope s_law_ground) := ⟨rfl, rfl, rfl, by decide +kernel, rfl, by decide +kernel, by decide +kernel⟩
theorem st_law_ground {x0 : W} : ζh N_law_ground [x0] = [some x0, none, none, none, none, none, none, none, none, none, none, none, none, none] := rfl
def td_law_ground : DS' :=
    (ζX (ξa 1 (dOp dIx (ζS (ζm (dC (.int 5)) (ζm (dC (.int 2)) (ζm (dC (.int 9)) (ζm (dC (.int 16)) (ζm (dC (.int 40)) (ζm (dC (.int 1)) ζR))))))) (ζu sp_law_take (ζm (ζF 0) (ζm (dC (.int 6)) ζR)))))
    (ζX (ξa 2 (ζu sp_law_names (ζm (ζF 0) (ζm (ζF 1) ζR))))
    (ζX (ξa 3 (dOp dIx (ζS (ζm (dC (.int 3)) (ζm (dC (.int 12)) (ζm (dC (.int 60)) ζR)))) (ζu sp_law_take (ζm (ζF 0) (ζm (dC (.int 3)) ζR)))))
    (ζX (ξa 4 (dCB ζd (ζm (dLc (ζD (ζF 2)) (.nm 12) dYes (ζS (ζm (ζF 12) (ζm (dOp ζL (dC (.int 1)) (ζu sp_law_take (ζm (ζF 0) (ζm (dC (.int 4)) ζR)))) ζR))) [12]) ζR)))
    (ζX (ξa 5 (dLcM (ζB (ζm (dC (.int 1)) (ζm (ζF 1) ζR))) (.nm 13) (ζj (dOp dGt (ζu sp_law_take (ζm (ζF 0) (ζm (dC (.int 6)) ζR))) (dC (.int 0)))) (ζS (ζm (ζu sp_law_take (ζm (ζF 0) (ζm (ζF 13) ζR))) (ζm (ζF 13) ζR))) [13]))
    (ζX (dFor (ζA (ζm (dOp ζH (ζu sp_law_take (ζm (ζF 0) (ζm (ζF 1) ζR))) (dCB ξg (ζm (dOp dGt (ζF 1) (dC (.int 2))) ζR))) ζR)) (.nm 13)
      (ζX (dAsgL [6, 7] (dCB dSorted (ζm (ζT (ζm (ζu sp_law_take (ζm (ζF 0) (ζm (ζF 1) ζR))) (ζm (ζu sp_law_take (ζm (ζF 0) (ζm (ζF 1) ζR))) ζR))) ζR)))
      (ζZ (ζP (ζj (dOp dNe (ζF 6) (ζF 7))) (ζj (dOp ζi (ζS (ζm (ζF 6) (ζm (ζF 7) ζR))) (ζF 5)))) (ζr (dBM ξc (ζF 5) (ζm (ζS (ζm (ζF 6) (ζm (ζF 7) ζR))) ζR))) ζq)))
    (ζX (ξa 8 (ζn ζR))
    (ζX (dFor (ζD (ζF 5)) (.tp ((.nm 6) :: ((.nm 7) :: [])))
      (ζX (ξa 9 (dSlT (ζS (ζm (dOp dIx (ζF 2) (ζF 6)) (ζm (dOp dIx (ζF 2) (ζF 7)) ζR))) (dOp ζG (dC (.int 1)) (dOp ζH (dC (.int 2)) (ζu sp_law_take (ζm (ζF 0) (ζm (dC (.int 2)) ζR)))))))
      (ζr (dBM ξc (ζF 8) (ζm (dOp ζL (ζF 9) (ζS (ζm (dOp ζL (dC (.int 1)) (ζu sp_law_take (ζm (ζF 0) (ζm (ζF 3) ζR)))) (ζm (dOp ζH (ζu sp_law_take (ζm (ζF 0) (ζm (dC (.int 2)) ζR))) (ζu sp_law_take (ζm (ζF 0) (ζm (dC (.int 61)) ζR)))) ζR)))) ζR)))))
    (ζX (ξa 10 (dCB ζa (ζm (ζF 2) ζR)))
    (ζX (ξa 11 (dLc (ζA (ζm (ζu sp_law_take (ζm (ζF 0) (ζm (dCB ζp (ζm (dC (.int 13)) (ζm (dOp ζL (ζF 1) (dC (.int 1))) ζR))) ζR))) ζR)) (.nm 13) dYes (dBM dPopAt (ζF 10) (ζm (ζu sp_law_take (ζm (ζF 0) (ζm (dCB ζU (ζm (ζF 10) ζR)) ζR))) ζR)) [13]))
    (ζY (ζS (ζm (ζF 4) (ζm (dCB ζd (ζm (ζF 8) ζR)) (ζm (dCB ζd (ζm (ζF 11) ζR)) ζR)))))))))))))))
def sp_law_ground : DSp := fun ws S Q _ => ∃ (b : Addr), ws = [.ref b] ∧ Bg S b ∧ ∀ ps rs ss, PsOk ps → RsOk ps rs → SsOk ps ss → aft S b (Q (.tup [placesW ps, roadsW rs, stationsW ss]))
theorem len_law_ground {ws S Q E} (h : sp_law_ground ws S Q E) : ws.length = 1 := by obtain ⟨b, rfl, _⟩ := h; rfl
theorem hd_law_ground (ws S Q E) (h : sp_law_ground ws S Q E) : td_law_ground { nx := fun _ S' => frzQ Q .non S', rt := frzQ Q } ⟨ζh N_law_ground ws, XF⟩ S := by
  obtain ⟨b, rfl, hb, q⟩ := h
  simp only [st_law_ground, td_law_ground]
  refine seq_go (setN_go (fun w S1 => ∃ (m : Nat) (g s : Int), w = .int (m : Nat) ∧ 1 ≤ m ∧ m ≤ 40 ∧ BagOk g s ∧ S1 = up S b (bagO g s)) (fun Q h => ?_) ?_)
  · (array_get_dec)
    refine ⟨by decide, b, 6, rfl, hb, by decide, by decide, fun r r0 r1 g s ok => ?_⟩
    obtain ⟨w, hw, hat⟩ := atI_pick (xs := [W.int 5, .int 2, .int 9, .int 16, .int 40, .int 1]) r0 r1
    simp only [hat]
    simp only [List.mem_cons, List.not_mem_nil, or_false] at hw
    rcases hw with rfl | rfl | rfl | rfl | rfl | rfl
    · exact h _ _ ⟨5, g, s, rfl, by decide, by decide, ok, rfl⟩
    · exact h _ _ ⟨2, g, s, rfl, by decide, by decide, ok, rfl⟩
    · exact h _ _ ⟨9, g, s, rfl, by decide, by decide, ok, rfl⟩
    · exact h _ _ ⟨16, g, s, rfl, by decide, by decide, ok, rfl⟩
    · exact h _ _ ⟨40, g, s, rfl, by decide, by decide, ok, rfl⟩
    · exact h _ _ ⟨1, g, s, rfl, by decide, by decide, ok, rfl⟩
  rintro _ _ ⟨m, g, s, rfl, m1, m40, ok, rfl⟩
  (((try unfold ζq); dsimp only; refine seq_go ?_))
  refine setN_go (fun w S1 => ∃ (ns : List Str) (g s : Int), w = .lst (ns.map W.str) ∧ NsOk m ns ∧ BagOk g s ∧ S1 = up S b (bagO g s)) (fun Q h => ?_) ?_
  · (array_get_dec)
    refine ⟨b, (m : Int), rfl, Bg.up ok, by omega, by omega, fun ns hns g s ok => ?_⟩
    rw [up_up]
    exact h _ _ ⟨ns, g, s, rfl, by simpa using hns, ok, rfl⟩
  rintro _ _ ⟨ns, g, s, rfl, N, ok, rfl⟩
  have nl := N.len
  (((try unfold ζq); dsimp only; refine seq_go ?_))
  refine setN_go (fun w S1 => ∃ (l g s : Int), w = .int l ∧ 1 ≤ l ∧ l ≤ 60 ∧ BagOk g s ∧ S1 = up S b (bagO g s)) (fun Q h => ?_) ?_
  · (array_get_dec)
    refine ⟨by decide, b, 3, rfl, Bg.up ok, by decide, by decide, fun r r0 r1 g s ok => ?_⟩
    rw [up_up]
    obtain ⟨w, hw, hat⟩ := atI_pick (xs := [W.int 3, .int 12, .int 60]) r0 r1
    simp only [hat]
    simp only [List.mem_cons, List.not_mem_nil, or_false] at hw
    rcases hw with rfl | rfl | rfl <;> exact h _ _ ⟨_, g, s, rfl, by decide, by decide, ok, rfl⟩
  rintro _ _ ⟨lg, g, s, rfl, lg1, lg60, ok, rfl⟩
  (((try unfold ζq); dsimp only; refine seq_go ?_))
  refine setN_go (fun w S1 => ∃ (ps : List (Str × Int)) (g s : Int), w = placesW ps ∧ PsOk ps ∧ ps.map (·.1) = ns ∧ BagOk g s ∧ S1 = up S b (bagO g s)) (fun Q h => ?_) ?_
  · (array_get_dec)
    refine lcBs (xs := ns.map W.str) (fun _ h => h) (by rw [List.length_map]; omega) (Bg.up ok) (fun i v => ∃ x r, ns[i]? = some x ∧ v = placeW x r ∧ 1 ≤ r ∧ r ≤ 4) (fun i w hw => ⟨_, rfl, fun S' hB Qe hv => ?_⟩) (fun vs hvl hG g s ok => ?_)
    · rw [List.getElem?_map] at hw
      cases hx : ns[i]? with
      | none => rw [hx] at hw; cases hw
      | some x =>
        rw [hx] at hw
        cases hw
        (array_get_dec)
        refine ⟨b, 4, rfl, hB, by decide, by decide, fun r r0 r1 g s ok => ⟨by show 2 ≤ 1000000; decide, ?_⟩⟩
        exact hv _ ⟨x, 1 + r, hx, rfl, by omega, by omega⟩ g s ok
    · rw [List.length_map] at hvl
      obtain ⟨ps, rfl, hps, hr⟩ := places_of hvl hG
      (array_get_dec)
      rw [up_up]
      have hlp : ps.length = m := by have := congrArg List.length hps; rw [List.length_map] at this; omega
      refine h _ _ ⟨ps, g, s, rfl, ⟨by omega, by omega, fun p hp => ⟨N.ok p.1 (by rw [← hps]; exact List.mem_map.mpr ⟨p, hp, rfl⟩), hr p hp⟩, by rw [hps]; exact N.nd⟩, hps, ok, rfl⟩
  rintro _ _ ⟨ps, g, s, rfl, P, hps, ok, rfl⟩
  (((try unfold ζq); dsimp only; refine seq_go ?_))
  -- pairs
  refine setN_go (fun w S1 => ∃ (p : Addr) (xs : List (Int × Int)) (g s : Int), w = .ref p ∧ S p = none ∧ p ≠ b ∧ PqOk (m : Int) 39 xs ∧ BagOk g s ∧ S1 = up (up S p (.lst (xs.map pairW))) b (bagO g s)) (fun Q h => ?_) ?_
  · refine lcMBr2 (b := b) (lo := 1) (hi := (m : Int)) (fun Q' h => by (array_get_dec); exact h) ⟨by decide, by decide, by omega, by omega⟩ (Bg.up ok) (fun i acc => ∃ xs : List (Int × Int), acc = xs.map pairW ∧ PqOk (m : Int) i xs ∧ ∀ x ∈ xs, x.2 ≤ (i : Int)) ⟨[], rfl, ⟨Nat.le_refl _, fun x h => (by cases h), .nil⟩, fun x h => (by cases h)⟩ (fun i acc hi hI => ⟨_, rfl, fun S' hB Kt Kf hT hF => ?_⟩) (fun vs hv hI p hp hpb g s ok => ?_)
    · obtain ⟨xs, rfl, hX, hle⟩ := hI
      (array_get_dec)
      refine ⟨b, 6, rfl, hB, by decide, by decide, fun r r0 r1 g s ok => ?_⟩
      refine bl_cases (fun c => ?_) (fun c => ?_)
      · refine ⟨b, 1 + (i : Int), rfl, Bg.up ok, by omega, by omega, fun t t0 t1 g s ok => ⟨by show 2 ≤ 1000000; decide, ?_⟩⟩
        rw [up_up]
        refine hT _ ⟨xs ++ [(t, 1 + (i : Int))], by rw [List.map_append]; rfl, hX.snoc ⟨t0, by omega, by omega⟩ (fun hm => by have := hle _ hm; simp only at this; omega), fun x hx => ?_⟩ g s ok
        rcases List.mem_append.mp hx with hx | hx
        · have := hle x hx; omega
        · rw [List.mem_singleton.mp hx]; simp only; omega
      · exact hF ⟨xs, rfl, hX.mono (by omega), fun x hx => by have := hle x hx; omega⟩ g s ok
    · obtain ⟨xs, rfl, hX, _⟩ := hI
      have hpS : S p = none := by rw [up_ne hpb] at hp; exact hp
      refine h _ _ ⟨p, xs, g, s, rfl, hpS, hpb, hX.mono (by omega), ok, ?_⟩
      rw [up_comm (Ne.symm hpb), up_up]
  rintro _ _ ⟨p, xs0, g, s, rfl, hpS, hpb, X0', ok, rfl⟩
  (((try unfold ζq); dsimp only; refine seq_go ?_))
  refine forRN (fun n S1 => (0 ≤ n ∧ n ≤ 39) ∧ ∃ g s, BagOk g s ∧ S1 = up (up S p (.lst (xs0.map pairW))) b (bagO g s)) (fun Q' h => ?_) ?_
  · (array_get_dec)
    refine ⟨b, (m : Int), rfl, Bg.up ok, by omega, by omega, fun r r0 r1 g s ok => ?_⟩
    rw [up_up]
    refine ⟨.inl ⟨by omega, by omega⟩, h _ _ ⟨?_, g, s, ok, rfl⟩⟩
    by_cases c : (2 : Int) < (m : Int)
    · simp only [decide_eq_true c, if_true]; omega
    · simp only [decide_eq_false c, Bool.false_eq_true, if_false]; omega
  rintro n S1 ⟨⟨n0, n39⟩, g, s, ok, rfl⟩
  refine ⟨⟨by omega, by omega⟩, fun i ω' S' => ∃ (y6 y7 y13 : Option W) (xs : List (Int × Int)) (g s : Int), ω' = ⟨[some (.ref b), some (.int (m : Nat)), some (.lst (ns.map W.str)), some (.int lg), some (placesW ps), some (.ref p), y6, y7, none, none, none, none, none, y13], XF⟩ ∧ PqOk (m : Int) (39 + i) xs ∧ BagOk g s ∧ S' = up (up S p (.lst (xs.map pairW))) b (bagO g s), ⟨_, _, _, xs0, g, s, rfl, X0', ok, rfl⟩, ?_, ?_⟩
  · rintro i ω' S' hi ⟨y6, y7, y13, xs, g, s, rfl, hX, ok, rfl⟩
    refine ⟨_, rfl, ?_⟩
    refine seq_go (stN_go (fun ω2 S2 => ∃ (a c g s : Int), ω2 = ⟨[some (.ref b), some (.int (m : Nat)), some (.lst (ns.map W.str)), some (.int lg), some (placesW ps), some (.ref p), some (.int a), some (.int c), none, none, none, none, none, some (.int (i : Nat))], XF⟩ ∧ 0 ≤ a ∧ a ≤ c ∧ c < (m : Int) ∧ BagOk g s ∧ S2 = up (up S p (.lst (xs.map pairW))) b (bagO g s)) (fun D h => ?_) ?_)
    · simp only [dAsgL]
      (array_get_dec)
      refine ⟨b, (m : Int), rfl, Bg.up ok, by omega, by omega, fun r r0 r1 g s ok => ?_⟩
      rw [up_up]
      refine ⟨b, (m : Int), rfl, Bg.up ok, by omega, by omega, fun t t0 t1 g s ok => ?_⟩
      rw [up_up]
      refine ⟨by show 2 ≤ 1000000; decide, ?_⟩
      simp only [dSorted, view_c_lst]
      refine ⟨Srt.map [r, t] (f := W.int) (fun x y => rfl) (.inr fun x => ⟨fun e => (nomatch e), fun ys e => (nomatch e)⟩) (fun x => ⟨rfl, Nat.zero_le _⟩), _, rfl, ?_⟩
      rw [wsort_two]
      by_cases c : t < r
      · rw [if_pos c]
        exact ⟨_, rfl, h _ _ ⟨t, r, g, s, rfl, t0, by omega, r1, ok, rfl⟩⟩
      · rw [if_neg c]
        exact ⟨_, rfl, h _ _ ⟨r, t, g, s, rfl, r0, by omega, t1, ok, rfl⟩⟩
    rintro _ _ ⟨a, c, g, s, rfl, a0, ac, cm, ok, rfl⟩
    have hSp : up (up S p (.lst (xs.map pairW))) b (bagO g s) p = some (.lst (xs.map pairW)) := by rw [up_ne hpb, up_same]
    have hxl := hX.len
    (((try unfold ζq); dsimp only))
    refine if_b (!decide (a = c) && !decide ((a, c) ∈ xs)) (fun Q h => ?_) (fun e => ?_) (fun e => ?_)
    · refine and_b (a := !decide (a = c)) (b := !decide ((a, c) ∈ xs)) (fun Q h => ?_) (fun _ Q h => ?_) h
      · (array_get_dec)
        refine ⟨rfl, rfl, ?_⟩
        simp only [view_c_int, weq_int]
        exact h
      · (array_get_dec)
        refine ⟨by show 2 ≤ 1000000; decide, ?_⟩
        simp only [inW_refL hSp (okD_pair a c) (okD_pairs xs), any_pair]
        exact h
    · rw [Bool.and_eq_true] at e
      have hne : a ≠ c := by simpa using e.1
      have hni : (a, c) ∉ xs := by simpa using e.2
      refine drop_go (bm_go (var_go rfl ⟨isL_ref hSp, ?_⟩))
      (array_get_dec)
      refine ⟨by show 2 ≤ 1000000; decide, ?_⟩
      simp only [hSp]
      refine ⟨by rw [List.length_map]; omega, _, _, _, xs ++ [(a, c)], g, s, rfl, hX.snoc ⟨a0, by omega, cm⟩ hni, ok, ?_⟩
      rw [List.map_append, ← up_comm hpb, up_up]
      rfl
    · (((try unfold ζq); dsimp only))
      exact ⟨_, _, _, xs, g, s, rfl, hX.mono (by omega), ok, rfl⟩
  · rintro ω' S' ⟨y6, y7, y13, xs, g, s, rfl, hX, ok, rfl⟩
    have hX := hX.mono (n' := 78) (by omega)
    have hxl := hX.len
    (((try unfold ζq); dsimp only; refine seq_go ?_))
    refine setN_go (fun w S1 => ∃ l, w = .ref l ∧ S l = none ∧ l ≠ b ∧ l ≠ p ∧ S1 = up (up (up S p (.lst (xs.map pairW))) l (.lst [])) b (bagO g s)) (fun Q h => ?_) ?_
    · (array_get_dec)
      refine ⟨by decide, fun l hl => ?_⟩
      have hlb : l ≠ b := fun e => by subst e; rw [up_same] at hl; cases hl
      have hlp : l ≠ p := fun e => by subst e; rw [up_ne hlb, up_same] at hl; cases hl
      exact h _ _ ⟨l, rfl, by rw [up_ne hlb, up_ne hlp] at hl; exact hl, hlb, hlp, up_comm (Ne.symm hlb)⟩
    rintro _ _ ⟨l, rfl, hlS, hlb, hlp, rfl⟩
    (((try unfold ζq); dsimp only; refine seq_go ?_))
    have nm : ∀ j : Int, 0 ≤ j → j < (m : Int) → ∃ x, ns[j.toNat]? = some x ∧ L2.atI (ns.map W.str) j = some (.str x) := fun j j0 j1 => by
      have hj : j.toNat < ns.length := by omega
      refine ⟨ns[j.toNat], List.getElem?_eq_getElem hj, ?_⟩
      rw [atI_toNat j0 (by rw [List.length_map]; exact hj), List.getElem?_map, List.getElem?_eq_getElem hj]
      rfl
    refine forS (w := .ref p) (xs := xs.map pairW) (fun Q' h => var_go rfl h) (seqW_ref (by rw [up_ne hpb, up_ne (Ne.symm hlp), up_same])) (fun i ω2 S2 => ∃ (y6 y7 y9 : Option W) (rs : List Rd4) (g s : Int), ω2 = ⟨[some (.ref b), some (.int (m : Nat)), some (.lst (ns.map W.str)), some (.int lg), some (placesW ps), some (.ref p), y6, y7, some (.ref l), y9, none, none, none, y13], XF⟩ ∧ rs.length = i ∧ i ≤ xs.length ∧ (∀ (j : Nat) r, rs[j]? = some r → ∃ z : Int × Int, xs[j]? = some z ∧ ((ns[z.1.toNat]? = some r.a ∧ ns[z.2.toNat]? = some r.b) ∨ (ns[z.2.toNat]? = some r.a ∧ ns[z.1.toNat]? = some r.b)) ∧ (1 ≤ r.m ∧ r.m ≤ 60) ∧ (0 ≤ r.s ∧ r.s ≤ 60)) ∧ BagOk g s ∧ S2 = up (up (up S p (.lst (xs.map pairW))) l (.lst (rs.map Rd4.w))) b (bagO g s)) ⟨_, _, _, [], g, s, rfl, rfl, Nat.zero_le _, fun j r h => (by simp at h), ok, rfl⟩ (fun i ω2 S2 ⟨_, _, _, rs, g, s, _, _, _, _, _, e⟩ => by rw [e]; exact seqW_ref (by rw [up_ne hpb, up_ne (Ne.symm hlp), up_same])) ?_ ?_
    · rintro i w ω2 S2 hw ⟨y6, y7, y9, rs, g, s, rfl, hrl, hil, hrs, ok, rfl⟩
      rw [List.getElem?_map] at hw
      cases hz : xs[i]? with
      | none => rw [hz] at hw; cases hw
      | some z =>
        rw [hz] at hw
        cases hw
        have hzok := hX.ok z (List.mem_of_getElem? hz)
        have hilt : i < xs.length := (List.getElem?_eq_some_iff.mp hz).1
        obtain ⟨x1, hx1, ha1⟩ := nm z.1 hzok.1 (by omega)
        obtain ⟨x2, hx2, ha2⟩ := nm z.2 (by omega) hzok.2.2
        refine ⟨_, rfl, ?_⟩
        refine seq_go (setN_go (fun w S3 => ∃ (u v : Str) (g s : Int), w = .tup [.str u, .str v] ∧ ((u = x1 ∧ v = x2) ∨ (u = x2 ∧ v = x1)) ∧ BagOk g s ∧ S3 = up (up (up S p (.lst (xs.map pairW))) l (.lst (rs.map Rd4.w))) b (bagO g s)) (fun Q h => ?_) ?_)
        · simp only [dSlT]
          (array_get_dec)
          simp only [ha1, ha2]
          refine ⟨by show 2 ≤ 1000000; decide, b, 2, rfl, Bg.up ok, by decide, by decide, fun r r0 r1 g s ok => ⟨.inl ⟨by omega, by omega⟩, ?_⟩⟩
          rw [up_up]
          refine ⟨_, _, rfl, ?_⟩
          rcases (by omega : r = 0 ∨ r = 1) with rfl | rfl
          · exact .inl ⟨rfl, h _ _ ⟨x1, x2, g, s, rfl, .inl ⟨rfl, rfl⟩, ok, rfl⟩⟩
          · exact .inr ⟨rfl, h _ _ ⟨x2, x1, g, s, rfl, .inr ⟨rfl, rfl⟩, ok, rfl⟩⟩
        rintro _ _ ⟨u, v, g, s, rfl, huv, ok, rfl⟩
        (((try unfold ζq); dsimp only))
        have hSl : ∀ g s : Int, up (up (up S p (.lst (xs.map pairW))) l (.lst (rs.map Rd4.w))) b (bagO g s) l = some (.lst (rs.map Rd4.w)) := fun g s => by rw [up_ne hlb, up_same]
        refine drop_go (bm_go (var_go rfl ⟨isL_ref (hSl g s), ?_⟩))
        (array_get_dec)
        refine ⟨b, lg, rfl, Bg.up ok, by omega, by omega, fun r r0 r1 g s ok => ?_⟩
        rw [up_up]
        refine ⟨b, 2, rfl, Bg.up ok, by decide, by decide, fun t t0 t1 g s ok => ?_⟩
        rw [up_up]
        refine ⟨b, 61, rfl, Bg.up ok, by decide, by decide, fun w w0 w1 g s ok => ?_⟩
        rw [up_up]
        refine ⟨.inl ⟨by omega, by omega⟩, by show 2 ≤ 1000000; decide, ?_⟩
        refine ⟨by show 2 + 2 ≤ 1000000; decide, ?_⟩
        simp only [hSl]
        have tw : 0 ≤ t * w ∧ t * w ≤ 60 := by
          rcases (by omega : t = 0 ∨ t = 1) with rfl | rfl
          · omega
          · omega
        refine ⟨by rw [List.length_map]; omega, _, _, _, rs ++ [⟨u, v, 1 + r, t * w⟩], g, s, rfl, by rw [List.length_append, hrl]; rfl, hilt, fun j r' hj => ?_, ok, ?_⟩
        · by_cases cj : j < rs.length
          · rw [List.getElem?_append_left cj] at hj; exact hrs j r' hj
          · rw [List.getElem?_append_right (by omega)] at hj
            have hj0 : j - rs.length = 0 := by
              have := (List.getElem?_eq_some_iff.mp hj).1
              simp at this
              omega
            rw [hj0] at hj
            simp at hj
            subst hj
            have : j = i := by omega
            subst this
            refine ⟨z, hz, ?_, ⟨by show 1 ≤ 1 + r; omega, by show 1 + r ≤ 60; omega⟩, tw⟩
            rcases huv with ⟨rfl, rfl⟩ | ⟨rfl, rfl⟩
            · exact .inl ⟨hx1, hx2⟩
            · exact .inr ⟨hx2, hx1⟩
        · rw [List.map_append, ← up_comm hlb, up_up]
          rfl
    · rintro ω2 S2 ⟨y6, y7, y9, rs, g, s, rfl, hrl, hil, hrs, ok, rfl⟩
      rw [List.length_map] at hrl
      (((try unfold ζq); dsimp only; refine seq_go ?_))
      refine setN_go (fun w S1 => ∃ d, w = .ref d ∧ S d = none ∧ d ≠ b ∧ d ≠ p ∧ d ≠ l ∧ S1 = up (up (up (up S p (.lst (xs.map pairW))) l (.lst (rs.map Rd4.w))) d (.lst (ns.map W.str))) b (bagO g s)) (fun Q h => ?_) ?_
      · (array_get_dec)
        intro d hd
        have hdb : d ≠ b := fun e => by subst e; rw [up_same] at hd; cases hd
        have hdl : d ≠ l := fun e => by subst e; rw [up_ne hdb, up_same] at hd; cases hd
        have hdp : d ≠ p := fun e => by subst e; rw [up_ne hdb, up_ne hdl, up_same] at hd; cases hd
        exact h _ _ ⟨d, rfl, by rw [up_ne hdb, up_ne hdl, up_ne hdp] at hd; exact hd, hdb, hdp, hdl, up_comm (Ne.symm hdb)⟩
      rintro _ _ ⟨d, rfl, hdS, hdb, hdp, hdl, rfl⟩
      (((try unfold ζq); dsimp only; refine seq_go ?_))
      obtain ⟨B, hB⟩ : ∃ B : List Str → Int → Int → Sto, B = fun left g s => up (up (up (up S p (.lst (xs.map pairW))) l (.lst (rs.map Rd4.w))) d (.lst (left.map W.str))) b (bagO g s) := ⟨_, rfl⟩
      have Bb : ∀ left g s, B left g s b = some (bagO g s) := fun left g s => by rw [hB]; exact up_same
      have Bd : ∀ left g s, B left g s d = some (.lst (left.map W.str)) := fun left g s => by rw [hB]; show up (up _ d _) b _ d = _; rw [up_ne hdb, up_same]
      have Bub : ∀ left g s g' s', up (B left g s) b (bagO g' s') = B left g' s' := fun left g s g' s' => by rw [hB]; exact up_up
      have Bud : ∀ left left' g s, up (B left g s) d (.lst (left'.map W.str)) = B left' g s := fun left left' g s => by rw [hB]; show up (up (up _ d _) b _) d _ = up (up _ d _) b _; rw [← up_comm hdb, up_up]
      have B0 : up (up (up (up S p (.lst (xs.map pairW))) l (.lst (rs.map Rd4.w))) d (.lst (ns.map W.str))) b (bagO g s) = B ns g s := by rw [hB]
      rw [B0]
      refine setN_go (fun w S1 => ∃ (ss left : List Str) (g s : Int), w = .lst (ss.map W.str) ∧ (ss ++ left).Perm ns ∧ ss.length ≤ 12 ∧ BagOk g s ∧ S1 = B left g s) (fun Q h => ?_) ?_
      · refine lcBrN (fun n S1 => (0 ≤ n ∧ n ≤ 12 ∧ n ≤ (m : Int)) ∧ ∃ g s, BagOk g s ∧ S1 = B ns g s) (fun Q' h => ?_) ?_
        · (array_get_dec)
          refine ⟨b, _, rfl, ⟨g, s, Bb _ _ _, ok⟩, by split <;> omega, by split <;> omega, fun r r0 r1 g s ok => ?_⟩
          rw [Bub]
          refine h _ _ ⟨⟨r0, ?_, ?_⟩, g, s, ok, rfl⟩
          · split at r1 <;> omega
          · split at r1 <;> omega
        · rintro n S1 ⟨⟨n0, n12, nm'⟩, g, s, ok, rfl⟩
          refine lcRI (n := n) (fun _ h => h) ⟨n0, by omega⟩ (fun i acc S0 => ∃ (ss left : List Str) (g s : Int), acc = ss.map W.str ∧ (ss ++ left).Perm ns ∧ BagOk g s ∧ S0 = B left g s) ⟨[], ns, g, s, rfl, .refl _, ok, rfl⟩ (fun i acc S0 hi hal hI => ⟨_, rfl, fun q' hq' Qe hv => ?_⟩) (fun acc S0 hal hI => ?_)
          · obtain ⟨ss, left, g, s, rfl, hperm, ok, rfl⟩ := hI
            have hqb : q' ≠ b := fun e => by subst e; rw [Bb] at hq'; cases hq'
            have hqd : q' ≠ d := fun e => by subst e; rw [Bd] at hq'; cases hq'
            have hll : (left.length : Int) = (m : Int) - (i : Int) := by
              have := hperm.length_eq
              rw [List.length_append] at this
              rw [List.length_map] at hal
              omega
            have hd1 : up (B left g s) q' (.lst (ss.map W.str)) d = some (.lst (left.map W.str)) := by rw [up_ne (Ne.symm hqd), Bd]
            refine bm_go (var_go rfl ⟨isL_ref hd1, ?_⟩)
            (array_get_dec)
            simp only [view_ref hd1]
            refine ⟨b, _, rfl, ⟨g, s, by rw [up_ne (Ne.symm hqb), Bb], ok⟩, by rw [List.length_map]; omega, by rw [List.length_map]; omega, fun r r0 r1 g' s' ok' => ?_⟩
            rw [List.length_map] at r1
            have hrl : r.toNat < left.length := by omega
            refine ⟨d, left.map W.str, r, r.toNat, .str left[r.toNat], rfl, rfl, ?_, by omega, by omega, by rw [List.length_map]; exact seqIx r0 r1, by rw [List.getElem?_map, List.getElem?_eq_getElem hrl]; rfl, ?_⟩
            · rw [up_ne hdb, hd1]
            · have es : up (up (up (B left g s) q' (.lst (ss.map W.str))) b (bagO g' s')) d (.lst ((left.map W.str).eraseIdx r.toNat)) = up (B (left.eraseIdx r.toNat) g' s') q' (.lst (ss.map W.str)) := by
                rw [up_comm hqb, Bub, up_comm hqd]
                have : (left.map W.str).eraseIdx r.toNat = (left.eraseIdx r.toNat).map W.str := (er_map left r.toNat).symm
                rw [this, Bud]
              rw [es]
              refine hv _ _ ⟨ss ++ [left[r.toNat]], left.eraseIdx r.toNat, g', s', by rw [List.map_append]; rfl, ?_, ok', rfl⟩ ?_
              · rw [List.append_assoc]
                exact (List.Perm.append_left ss (perm_erase (List.getElem?_eq_getElem hrl))).trans hperm
              · have h1 := hq'
                rw [hB] at h1 ⊢
                show up (up _ d _) b _ q' = none
                rw [up_ne hqb, up_ne hqd]
                have h2 : up (up (up (up S p (.lst (xs.map pairW))) l (.lst (rs.map Rd4.w))) d (.lst (left.map W.str))) b (bagO g s) q' = none := h1
                rw [up_ne hqb, up_ne hqd] at h2
                exact h2
          · obtain ⟨ss, left, g, s, rfl, hperm, ok, rfl⟩ := hI
            rw [List.length_map] at hal
            exact h _ _ ⟨ss, left, g, s, rfl, hperm, by omega, ok, rfl⟩
      rintro _ _ ⟨ss, left, g, s, rfl, hperm, hss, ok, rfl⟩
      (((try unfold ζq); dsimp only))
      have hBl : B left g s l = some (.lst (rs.map Rd4.w)) := by rw [hB]; show up (up (up _ l _) d _) b _ l = _; rw [up_ne hlb, up_ne (Ne.symm hdl), up_same]
      have hBp : B left g s p = some (.lst (xs.map pairW)) := by rw [hB]; show up (up (up (up _ p _) l _) d _) b _ p = _; rw [up_ne hpb, up_ne (Ne.symm hdp), up_ne (Ne.symm hlp), up_same]
      refine ret_go ?_
      (array_get_dec)
      simp only [view_ref hBl]
      refine ⟨by show 3 ≤ 1000000; decide, ?_⟩
      have R : RsOk ps rs := by
        refine RsOk.of2 hps N.nd (by rw [nl]; exact hX.pr) (by decide) hrl ?_
        intro j r hj
        obtain ⟨z, hz, h1, h2, h3⟩ := hrs j r hj
        exact ⟨z, hz, h1, h2, h3⟩
      have SS : SsOk ps ss := by
        have hnd : (ss ++ left).Nodup := hperm.nodup_iff.mpr N.nd
        refine ⟨hss, fun x hx => ?_, (List.nodup_append.mp hnd).1⟩
        rw [hps]
        exact hperm.mem_iff.mp (List.mem_append_left _ hx)
      refine ⟨_, _, ((Frz.drop (p := p) hBp (fun _ e => nomatch e)).trans (Frz.drop (p := l) (o := .lst (rs.map Rd4.w)) (by rw [del_ne (Ne.symm (Ne.symm hlp))]; exact hBl) (fun _ e => nomatch e))).trans (Frz.drop (p := d) (o := .lst (left.map W.str)) (by rw [del_ne hdl, del_ne hdp]; exact Bd _ _ _) (fun _ e => nomatch e)), ?_⟩
      have es : del (del (del (B left g s) p) l) d = up S b (bagO g s) := by
        rw [hB]
        funext a
        by_cases e1 : a = d
        · subst e1; rw [del_same, up_ne hdb, hdS]
        · rw [del_ne e1]
          by_cases e2 : a = l
          · subst e2; rw [del_same, up_ne hlb, hlS]
          · rw [del_ne e2]
            by_cases e3 : a = p
            · subst e3; rw [del_same, up_ne hpb, hpS]
            · rw [del_ne e3]
              by_cases e4 : a = b
              · subst e4; rw [up_same]; exact up_same
              · show up (up (up (up S p _) l _) d _) b _ a = _
                rw [up_ne e4, up_ne e1, up_ne e2, up_ne e3, up_ne e4]
      rw [es]
      exact q ps rs ss P R SS g s ok
section
variable {P : Program} {w : World} {K : PySem.W.Frag} {mg : Str → Option Value} {base : Heap} {c_Ground c_BadTime c_NoGround c_NoPlace c_NoProof c_NoKind c_BadText c_NoDeed c_NoRow c_TooMany c_NotDone c_NoBook c_NoCall c_NoEngine c_NoEngines c_NoText c_Nothing c_NoSaying : Addr}
theorem ok_law_ground {f : Addr} {fd : FuncData} (F : Fun K "_law_ground" "_law_ground" s_law_ground f fd) (T : Txt K w mg c_Ground c_BadTime c_NoGround c_NoPlace c_NoProof c_NoKind c_BadText c_NoDeed c_NoRow c_TooMany c_NotDone c_NoBook c_NoCall c_NoEngine c_NoEngines c_NoText c_Nothing c_NoSaying) (C_law_take : CalD P w K mg base 1 "_law_take" sp_law_take) (C_law_names : CalD P w K mg base 2 "_law_names" sp_law_names) : FnOk P w K mg base CX0 3 f fd ["_law_bag_here"] (uSp K (sp_law_ground)) :=
  Fun.okF F sc_law_ground (td_law_ground) (fun cdv A outer s H E hr =>
    (dss_cons (ds_set (i := 1) sc_law_ground.nd (de_ix (de_tup (da_cons de_int (da_cons de_int (da_cons de_int (da_cons de_int (da_cons de_int (da_cons de_int da_nil))))))) (de_call C_law_take hr (da_cons (dv 0) (da_cons de_int da_nil)))))
    (dss_cons (ds_set (i := 2) sc_law_ground.nd (de_call C_law_names hr (da_cons (dv 0) (da_cons (dv 1) da_nil))))
    (dss_cons (ds_set (i := 3) sc_law_ground.nd (de_ix (de_tup (da_cons de_int (da_cons de_int (da_cons de_int da_nil)))) (de_call C_law_take hr (da_cons (dv 0) (da_cons de_int da_nil)))))
    (dss_cons (ds_set (i := 4) sc_law_ground.nd (de_callTy cd_tuple T.z_tuple (da_cons (de_lc (own := [("_law_name", 12)]) sc_law_ground.nd (di_seq (dv 2)) (blkOk_by (own := [("_law_name", 12)]) (N := N_law_ground) (sc := defScope s_law_ground) (by decide +kernel)) (fun _ _ _ _ _ => (dg_nm (i := 12) sc_law_ground.nd)) (fun _ _ _ _ _ => dts_nil) (fun _ _ _ _ _ => (de_tup (da_cons (dv 12) (da_cons (de_op oa_add de_int (de_call C_law_take hr (da_cons (dv 0) (da_cons de_int da_nil)))) da_nil))))) da_nil)))
    (dss_cons (ds_setLcM (i := 5) (own := [("_law_k", 13)]) sc_law_ground.nd (di_range2 T.z_range (da_cons de_int (da_cons (dv 1) da_nil))) (blkOk_by (own := [("_law_k", 13)]) (N := N_law_ground) (sc := defScope s_law_ground) (by decide +kernel)) (fun _ _ _ _ _ => (dg_nm (i := 13) sc_law_ground.nd)) (fun _ _ _ _ _ => (dts_one (dt_cmp oc_gt (de_call C_law_take hr (da_cons (dv 0) (da_cons de_int da_nil))) de_int))) (fun _ _ _ _ _ => (de_tup (da_cons (de_call C_law_take hr (da_cons (dv 0) (da_cons (dv 13) da_nil))) (da_cons (dv 13) da_nil)))) (sw_true rfl rfl rfl (by decide +kernel)))
    (dss_cons (ds_for PassesOwn.never (di_range1 T.z_range (da_cons (de_op oa_mul (de_call C_law_take hr (da_cons (dv 0) (da_cons (dv 1) da_nil))) (de_callTy cd_int T.z_int (da_cons (de_cmp oc_gt (dv 1) de_int) da_nil))) da_nil)) (dg_nm (i := 13) sc_law_ground.nd)
      (dss_cons (ds_asgL (is := [6, 7]) (de_callB (cd_sorted hr) T.z_sorted (da_cons (de_lst (da_cons (de_call C_law_take hr (da_cons (dv 0) (da_cons (dv 1) da_nil))) (da_cons (de_call C_law_take hr (da_cons (dv 0) (da_cons (dv 1) da_nil))) da_nil))) da_nil)) (dgs_cons (dg_nm (i := 6) sc_law_ground.nd) (dgs_cons (dg_nm (i := 7) sc_law_ground.nd) dgs_nil)))
      (dss_one (ds_if (PW.pt (dw_and (dt_cmp (oc_ne hr) (dv 6) (dv 7)) (dw_and1 (dt_cmp (oc_notin hr) (de_tup (da_cons (dv 6) (da_cons (dv 7) da_nil))) (dv 5))))) (dss_one (ds_expr (de_append (dv 5) (da_cons (de_tup (da_cons (dv 6) (da_cons (dv 7) da_nil))) da_nil)))) dss_nil))))
    (dss_cons (ds_set (i := 8) sc_law_ground.nd (de_lstM da_nil))
    (dss_cons (ds_for PassesOwn.never (di_seq (dv 5)) (dg_tp (dgs_cons (dg_nm (i := 6) sc_law_ground.nd) (dgs_cons (dg_nm (i := 7) sc_law_ground.nd) dgs_nil)))
      (dss_cons (ds_set (i := 9) sc_law_ground.nd (de_slT (de_tup (da_cons (de_ix (dv 2) (dv 6)) (da_cons (de_ix (dv 2) (dv 7)) da_nil))) (de_op oa_sub de_int (de_op oa_mul de_int (de_call C_law_take hr (da_cons (dv 0) (da_cons de_int da_nil)))))))
      (dss_one (ds_expr (de_append (dv 8) (da_cons (de_op oa_add (dv 9) (de_tup (da_cons (de_op oa_add de_int (de_call C_law_take hr (da_cons (dv 0) (da_cons (dv 3) da_nil)))) (da_cons (de_op oa_mul (de_call C_law_take hr (da_cons (dv 0) (da_cons de_int da_nil))) (de_call C_law_take hr (da_cons (dv 0) (da_cons de_int da_nil)))) da_nil)))) da_nil))))))
    (dss_cons (ds_set (i := 10) sc_law_ground.nd (de_callTy cd_listM T.z_list (da_cons (dv 2) da_nil)))
    (dss_cons (ds_setLc (i := 11) (own := [("_law_k", 13)]) sc_law_ground.nd (di_range1 T.z_range (da_cons (de_call C_law_take hr (da_cons (dv 0) (da_cons (de_callB cd_min2 T.z_min (da_cons de_int (da_cons (de_op oa_add (dv 1) de_int) da_nil))) da_nil))) da_nil)) (blkOk_by (own := [("_law_k", 13)]) (N := N_law_ground) (sc := defScope s_law_ground) (by decide +kernel)) (fun _ _ _ _ _ => (dg_nm (i := 13) sc_law_ground.nd)) (fun _ _ _ _ _ => dts_nil) (fun _ _ _ _ _ => (de_popAt (dv 10) (da_cons (de_call C_law_take hr (da_cons (dv 0) (da_cons (de_callB cd_len T.z_len (da_cons (dv 10) da_nil)) da_nil))) da_nil))) (sw_true rfl rfl rfl (by decide +kernel)))
    (dss_one (ds_ret (de_tup (da_cons (dv 4) (da_cons (de_callTy cd_tuple T.z_tuple (da_cons (dv 8) da_nil)) (da_cons (de_callTy cd_tuple T.z_tuple (da_cons (dv 11) da_nil)) da_nil))))))))))))))))) (fun ws S Q E h => len_law_ground h) (hd_law_ground)
end
end DL
namespace L2
open PySem PySem.Spec PyProof.Rows
abbrev Tst := Value → Option Bool
structure Caught (X : Cx) (pins : List (Addr × Obj)) (σ : L2.St) (H : Hp) (B : Heap) (sI s : Shared) (a : Addr) (cls : Value) (d : Option Addr) (h : Heap) : Prop where
  inv : Inv X pins σ H sI
  old : ∀ (b : Addr) (o : Obj), sI.heap.get? b = some o → b ∉ frs X.stack → B.get? b = some o
  upI : sI.heap.UpToSlots s.heap
  fly : HandSPX.FlyingZ B (X.env :: X.outer) a (Zc cls d) h
  up : s.heap.UpToSlots h
  free : H a = none
  os : s.os = sI.os
  bare : AllBare s.gens
namespace Caught
variable {X : Cx} {pins : List (Addr × Obj)} {σ : L2.St} {H : Hp} {B h h' : Heap} {sI s : Shared} {a : Addr} {cls : Value} {d : Option Addr} (c : Caught X pins σ H B sI s a cls d h)
include c
theorem now : Inv X pins σ H { s with heap := h } := Inv.landed (s' := { s with heap := h }) c.inv c.old c.fly.1 (Heap.UpToSlots.trans c.upI c.up) c.os c.bare
theorem next (fl : HandSPX.FlyingZ B (X.env :: X.outer) a (Zc cls d) h') (u : h.UpToSlots h') : Caught X pins σ H B sI s a cls d h' := ⟨c.inv, c.old, c.upI, fl, c.up.trans u, c.free, c.os, c.bare⟩
theorem more (k : ∀ b o, h.get? b = some o → h'.get? b = some o) : Caught X pins σ H B sI s a cls d h' := by
  have u := Heap.UpToSlots.of_keeps k
  refine c.next ?_ u
  rcases c.fly with ⟨f1, f2, f3, o1, v1, A, o2, v2, q⟩
  rcases q with ⟨q1, q2, q3, q4, q5, q6, q7, q8, q9⟩
  have fr := f3.of_keeps fun b o e _ => ⟨o, k b o e, rfl⟩
  exact ⟨fun b o e => k b o (f1 b o e), f2, fr, o1, v1, A, o2, v2, k _ _ q1, q2, q3, q4, q5, q6, k _ _ q7, q8, q9⟩
theorem apart (hf : X.env.frame = some X.env.locals) : a ≠ X.env.locals ∧ a ∉ X.fs := by
  obtain ⟨o, vs, e, _, fd⟩ := HandSPX.FlyingZ.there c.fly
  have no : a ∉ frs (X.env :: X.outer) := fun m => by
    obtain ⟨_, o', e', q⟩ := Heap.FunFrames.mem c.fly.2.2.1 m
    cases e.symm.trans e'
    exact q _ fd
  constructor
  · intro z
    exact no (List.mem_filterMap.mpr ⟨_, .head _, by rw [z]; exact hf⟩)
  · intro m
    obtain ⟨e1, m1, q1⟩ := List.mem_filterMap.mp m
    exact no (List.mem_filterMap.mpr ⟨e1, .tail _ m1, q1⟩)
theorem seen (hf : X.env.frame = some X.env.locals) : ∃ o, Zc cls d o ∧ (∃ vs, o.data = .fields vs) ∧ h.get? a = some o ∧ Inv (X.suite a ((a, o) :: (X.pn ++ pins))) [] σ H { s with heap := h } := by
  obtain ⟨o, vs, e, z, fd⟩ := HandSPX.FlyingZ.there c.fly
  have ap := c.apart hf
  exact ⟨o, z, ⟨vs, fd⟩, e, Inv.suite (s := { s with heap := h }) c.now e fd c.free ap.1 ap.2⟩
theorem kind : PySem.W.Looks (model X.prog X.w) h (typeOf (.ref a)) cls := by
  obtain ⟨o, _, e, z, _⟩ := HandSPX.FlyingZ.there c.fly
  intro A Q E t k q
  refine wpAny_typeOf_ref (k a o e) ?_
  rw [z.1]
  exact q
end Caught
section
variable {X : Cx} {pins : List (Addr × Obj)} {σ : L2.St} {H : Hp} {B h : Heap} {sI s : Shared} {a : Addr} {cls : Value} {d : Option Addr} {D : Ends} {Wout : WX}
end
end L2
namespace DL
open PySem PySem.Spec PyProof.Rows L2
abbrev HdL := List (Tst × Nat × (Addr → Value → Option Addr → DS'))
section
variable {X : Cx} {Z : WX} {body : List Stmt} {h₀ : ExceptHandler} {hds : List ExceptHandler} {l : HdL} {pos : Pos} {tb : DS'}
end
abbrev s_law_kind : Stmt := topS 50
abbrev N_law_kind : List Str := ["_law_e", "_law_told_here", "_law_names_here"]
theorem sc_law_kind : FnScope N_law_kind ["_law_e"] (defScope s_law_kind) := ⟨rfl, rfl, rfl, by decide +kernel, rfl, by decide +kernel, by decide +kernel⟩
theorem st_law_kind {x0 : W} : ζh N_law_kind [x0] = [some x0, none, none] := rfl
def td_law_kind (K : PySem.W.Frag) (c_BadTime c_NoGround c_NoPlace c_NoProof c_NoKind c_BadText c_NoDeed c_NoRow c_TooMany c_NotDone c_NoBook c_NoCall c_NoEngine c_NoEngines c_NoText c_Nothing c_NoSaying : Addr) (a : Addr) (cls : Value) (d : Option Addr) : DS' :=
    (ζX (ξa 1 (ζT (ζm (dCB (dIsE K [c_NoPlace] a cls d) (ζm (ζF 0) (ζm (dC (.ref c_BadTime)) ζR))) (ζm (dCB (dIsE K [c_NoPlace] a cls d) (ζm (ζF 0) (ζm (dC (.ref c_NoGround)) ζR))) (ζm (dCB (dIsE K [c_NoPlace] a cls d) (ζm (ζF 0) (ζm (dC (.ref c_NoPlace)) ζR))) (ζm (dCB (dIsE K [c_NoPlace] a cls d) (ζm (ζF 0) (ζm (dC (.ref c_NoProof)) ζR))) ζR))))))
    (ζX (ξa 1 (dOp ζL (ζF 1) (ζT (ζm (dCB (dIsE K [c_NoPlace] a cls d) (ζm (ζF 0) (ζm (dC (.ref c_NoKind)) ζR))) (ζm (dCB (dIsE K [c_NoPlace] a cls d) (ζm (ζF 0) (ζm (dC (.ref c_BadText)) ζR))) (ζm (dCB (dIsE K [c_NoPlace] a cls d) (ζm (ζF 0) (ζm (dC (.ref c_NoDeed)) ζR))) (ζm (dCB (dIsE K [c_NoPlace] a cls d) (ζm (ζF 0) (ζm (dC (.ref c_NoRow)) ζR))) ζR)))))))
    (ζX (ξa 1 (dOp ζL (ζF 1) (ζT (ζm (dCB (dIsE K [c_NoPlace] a cls d) (ζm (ζF 0) (ζm (dC (.ref c_TooMany)) ζR))) (ζm (dCB (dIsE K [c_NoPlace] a cls d) (ζm (ζF 0) (ζm (dC (.ref c_NotDone)) ζR))) (ζm (dCB (dIsE K [c_NoPlace] a cls d) (ζm (ζF 0) (ζm (dC (.ref c_NoBook)) ζR))) (ζm (dCB (dIsE K [c_NoPlace] a cls d) (ζm (ζF 0) (ζm (dC (.ref c_NoCall)) ζR))) ζR)))))))
    (ζX (ξa 1 (dOp ζL (ζF 1) (ζT (ζm (dCB (dIsE K [c_NoPlace] a cls d) (ζm (ζF 0) (ζm (dC (.ref c_NoEngine)) ζR))) (ζm (dCB (dIsE K [c_NoPlace] a cls d) (ζm (ζF 0) (ζm (dC (.ref c_NoEngines)) ζR))) (ζm (dCB (dIsE K [c_NoPlace] a cls d) (ζm (ζF 0) (ζm (dC (.ref c_NoText)) ζR))) (ζm (dCB (dIsE K [c_NoPlace] a cls d) (ζm (ζF 0) (ζm (dC (.ref c_Nothing)) ζR))) ζR)))))))
    (ζX (ξa 1 (dOp ζL (ζF 1) (ζT (ζm (dCB (dIsE K [c_NoPlace] a cls d) (ζm (ζF 0) (ζm (dC (.ref c_NoSaying)) ζR))) ζR))))
    (ζX (ξa 2 (dC (.str "BadTime NoGround NoPlace NoProof NoKind BadText NoDeed NoRow TooMany NotDone NoBook NoCall")))
    (ζX (ξa 2 (dOp ζL (ζF 2) (dC (.str " NoEngine NoEngines NoText Nothing NoSaying"))))
    (ζY (dIf (ζj (dOp dEq (dBM dCount (ζF 1) (ζm (dC (.bl true)) ζR)) (dC (.int 1)))) (dOp dIx (dSplit (ζF 2) (dC (.str " "))) (dBM dIdx (ζF 1) (ζm (dC (.bl true)) ζR))) (dC (.str "other")))))))))))
theorem first_bl {xs : List W} {n m : Nat} {z : W} (h : (xs.take n).all (fun w => match w with | .bl false => true | _ => false) = true) (hm : m < n) (hz : xs[m]? = some z) : weq z (.bl true) = false := by
  have := List.all_eq_true.mp h z (List.mem_of_getElem? (i := m) (by rw [List.getElem?_take_of_lt hm]; exact hz))
  cases z <;> first | cases this | skip
  rename_i b
  cases b
  · rfl
  · cases this
def sp_law_kind (c_NoPlace : Addr) (a : Addr) (cls : Value) (d : Option Addr) : DSp := fun ws S Q _ => ∃ ns xs, ws = [.exc a d ns xs] ∧ (cls = .ref c_NoPlace ∧ Q (.str "NoPlace") S)
theorem len_law_kind {c_NoPlace a cls d ws S Q E} (h : sp_law_kind c_NoPlace a cls d ws S Q E) : ws.length = 1 := by obtain ⟨_, _, rfl, _⟩ := h; rfl
theorem isE_go {K : PySem.W.Frag} {Ds : List Addr} {a D C : Addr} {d : Option Addr} {ns : List Str} {xs : List W} {b : Bool} {S : Sto} {Q : WQ} (hD : D ∈ Ds) (hk : PySem.W.kitOne K (.ref D) (.ref C) = some b) (q : Q (.bl b) S) : dIsE K Ds a (.ref D) d [.exc a d ns xs, .ref C] S Q := ⟨D, hD, rfl, ns, xs, .ref C, .ref C, b, rfl, rfl, hk, q⟩
theorem isE_goT {K : PySem.W.Frag} {Ds : List Addr} {a D : Addr} {n : String} {d : Option Addr} {ns : List Str} {xs : List W} {b : Bool} {S : Sto} {Q : WQ} (hD : D ∈ Ds) (hk : PySem.W.kitOne K (.ref D) (.type n) = some b) (q : Q (.bl b) S) : dIsE K Ds a (.ref D) d [.exc a d ns xs, .ty n] S Q := ⟨D, hD, rfl, ns, xs, .ty n, .type n, b, rfl, rfl, hk, q⟩
local macro_rules | `(tactic| array_get_dec) => `(tactic| simp only [↓ζE,↓ζF,↓dC,↓dOp,↓dUn,↓dI,↓dI0,↓ζG,↓ζH,↓ζI,↓ζJ,↓ζK,↓ζL,↓ζM,↓dEq,↓dNe,↓dLt,↓dLe,↓dGt,↓dGe,↓ζN,↓ζO,↓ζj,↓ζc,↓ζP,↓dOr,↓ζQ,↓ζk,↓ζl,↓dIf,↓ζR,↓ζm,↓ζS,↓ζT,↓ζn,↓dCB,↓ζU,↓ζV,↓ζo,↓ζp,↓ζW,↓ζb,↓ζa,↓ζd,↓ζq,↓ζX,↓ζr,↓ζY,↓ζZ,↓ξa,↓ζs,↓ζt,↓ζe,↓Om.set,↓ζu,↓dIx,↓dNo,↓ζv,↓dSl,↓ξb,↓dBM,↓ξc,↓ζg,↓dIs,↓ζw,↓ζx,↓ζy,↓ξd,↓ξe,↓ξf,↓ζz,↓ξg,↓ζA,↓ζB,↓ζC,↓ζD,κa,κb,κc,κd,κe,κf,κg,κh,κi,↓ζh,↓wp,↓wps,↓dIn,↓ζi,↓dDg,κj,κk,κl,κm,κn,κo,κp,κq,κr,κs,κt,κu,κv,κw,κx,κy,κz,κA,κB,κC,κD,κE,κF,κG,κH,κI,κJ,κK,κL,κM,κN,κO,κP,κQ,κR,κS,κT,κU,κV,κW,κX,κY,κZ,ιa,ιb,ιc,ιd,ιe,ιf,ιg,ιh,ιi,ιj,ιk,ιl,ιm,ιn,ιo,ιp,ιq,ιr,ιs,ιt,ιu,ιv,ιw,ιx,ιy,ιz])
theorem hd_law_kind {K : PySem.W.Frag} {w : World} {mg : Str → Option Value} {c_Ground c_BadTime c_NoGround c_NoPlace c_NoProof c_NoKind c_BadText c_NoDeed c_NoRow c_TooMany c_NotDone c_NoBook c_NoCall c_NoEngine c_NoEngines c_NoText c_Nothing c_NoSaying : Addr} (T : Txt K w mg c_Ground c_BadTime c_NoGround c_NoPlace c_NoProof c_NoKind c_BadText c_NoDeed c_NoRow c_TooMany c_NotDone c_NoBook c_NoCall c_NoEngine c_NoEngines c_NoText c_Nothing c_NoSaying) (a : Addr) (cls : Value) (d : Option Addr) (ws S Q E) (h : sp_law_kind c_NoPlace a cls d ws S Q E) : td_law_kind K c_BadTime c_NoGround c_NoPlace c_NoProof c_NoKind c_BadText c_NoDeed c_NoRow c_TooMany c_NotDone c_NoBook c_NoCall c_NoEngine c_NoEngines c_NoText c_Nothing c_NoSaying a cls d { nx := fun _ S' => frzQ Q .non S', rt := frzQ Q } ⟨ζh N_law_kind ws, XF⟩ S := by
  obtain ⟨ns, xs, rfl, h⟩ := h
  obtain ⟨rfl, q⟩ := h
  simp only [st_law_kind, td_law_kind]
  refine seq_go (set_go (.lst [.bl false, .bl false, .bl true, .bl false]) S (fun Q h => ?_) ?_)
  · (array_get_dec)
    refine isE_go List.mem_cons_self T.kk_NoPlace_BadTime ?_
    refine isE_go List.mem_cons_self T.kk_NoPlace_NoGround ?_
    refine isE_go List.mem_cons_self T.kk_NoPlace_NoPlace ?_
    refine isE_go List.mem_cons_self T.kk_NoPlace_NoProof ?_
    exact ⟨by decide, h⟩
  (try unfold ζq); dsimp only
  refine seq_go (set_go (.lst [.bl false, .bl false, .bl true, .bl false, .bl false, .bl false, .bl false, .bl false]) S (fun Q h => ?_) ?_)
  · (array_get_dec)
    refine isE_go List.mem_cons_self T.kk_NoPlace_NoKind ?_
    refine isE_go List.mem_cons_self T.kk_NoPlace_BadText ?_
    refine isE_go List.mem_cons_self T.kk_NoPlace_NoDeed ?_
    refine isE_go List.mem_cons_self T.kk_NoPlace_NoRow ?_
    exact ⟨by decide, by decide, h⟩
  (try unfold ζq); dsimp only
  refine seq_go (set_go (.lst [.bl false, .bl false, .bl true, .bl false, .bl false, .bl false, .bl false, .bl false, .bl false, .bl false, .bl false, .bl false]) S (fun Q h => ?_) ?_)
  · (array_get_dec)
    refine isE_go List.mem_cons_self T.kk_NoPlace_TooMany ?_
    refine isE_go List.mem_cons_self T.kk_NoPlace_NotDone ?_
    refine isE_go List.mem_cons_self T.kk_NoPlace_NoBook ?_
    refine isE_go List.mem_cons_self T.kk_NoPlace_NoCall ?_
    exact ⟨by decide, by decide, h⟩
  (try unfold ζq); dsimp only
  refine seq_go (set_go (.lst [.bl false, .bl false, .bl true, .bl false, .bl false, .bl false, .bl false, .bl false, .bl false, .bl false, .bl false, .bl false, .bl false, .bl false, .bl false, .bl false]) S (fun Q h => ?_) ?_)
  · (array_get_dec)
    refine isE_go List.mem_cons_self T.kk_NoPlace_NoEngine ?_
    refine isE_go List.mem_cons_self T.kk_NoPlace_NoEngines ?_
    refine isE_go List.mem_cons_self T.kk_NoPlace_NoText ?_
    refine isE_go List.mem_cons_self T.kk_NoPlace_Nothing ?_
    exact ⟨by decide, by decide, h⟩
  (try unfold ζq); dsimp only
  refine seq_go (set_go (.lst [.bl false, .bl false, .bl true, .bl false, .bl false, .bl false, .bl false, .bl false, .bl false, .bl false, .bl false, .bl false, .bl false, .bl false, .bl false, .bl false, .bl false]) S (fun Q h => ?_) ?_)
  · (array_get_dec)
    refine isE_go List.mem_cons_self T.kk_NoPlace_NoSaying ?_
    exact ⟨by decide, by decide, h⟩
  (try unfold ζq); dsimp only
  refine seq_go (set_go (.str ("BadTime NoGround NoPlace NoProof NoKind BadText NoDeed NoRow TooMany NotDone NoBook NoCall" : Str)) S (fun Q h => ?_) ?_)
  · (array_get_dec)
    exact h
  (try unfold ζq); dsimp only
  refine seq_go (set_go (.str (("BadTime NoGround NoPlace NoProof NoKind BadText NoDeed NoRow TooMany NotDone NoBook NoCall" : Str) ++ (" NoEngine NoEngines NoText Nothing NoSaying" : Str))) S (fun Q h => ?_) ?_)
  · (array_get_dec)
    exact ⟨by decide +kernel, h⟩
  (try unfold ζq); dsimp only
  have ec : (List.countP (fun z => weq z (.bl true)) [W.bl false, W.bl false, W.bl true, W.bl false, W.bl false, W.bl false, W.bl false, W.bl false, W.bl false, W.bl false, W.bl false, W.bl false, W.bl false, W.bl false, W.bl false, W.bl false, W.bl false]) = 1 := by decide +kernel
  have nd : okD (.lst [W.bl false, W.bl false, W.bl true, W.bl false, W.bl false, W.bl false, W.bl false, W.bl false, W.bl false, W.bl false, W.bl false, W.bl false, W.bl false, W.bl false, W.bl false, W.bl false, W.bl false]) = true := by decide +kernel
  have sp : Txt.split (("BadTime NoGround NoPlace NoProof NoKind BadText NoDeed NoRow TooMany NotDone NoBook NoCall" : Str) ++ (" NoEngine NoEngines NoText Nothing NoSaying" : Str)) (" " : Str) = (["BadTime", "NoGround", "NoPlace", "NoProof", "NoKind", "BadText", "NoDeed", "NoRow", "TooMany", "NotDone", "NoBook", "NoCall", "NoEngine", "NoEngines", "NoText", "Nothing", "NoSaying"] : List Str) := by decide +kernel
  refine ret_go ?_
  refine ifE_b true (fun Q h => ?_) (fun _ => ?_) (fun e => nomatch e)
  · (array_get_dec)
    refine ⟨by decide, nd, rfl, rfl, rfl, ?_⟩
    rw [ec]
    exact h
  (array_get_dec)
  refine ⟨_, rfl, _, rfl, by decide +kernel, by decide +kernel, ?_, ?_⟩
  · rw [sp]; decide +kernel
  rw [sp]
  refine ⟨by decide, nd, rfl, 2, .bl true, rfl, by decide +kernel, fun m z hm hz => ?_, ?_⟩
  · exact first_bl (by decide +kernel) hm hz
  exact frzQ.mk q
section
variable {P : Program} {w : World} {K : PySem.W.Frag} {mg : Str → Option Value} {base : Heap} {c_Ground c_BadTime c_NoGround c_NoPlace c_NoProof c_NoKind c_BadText c_NoDeed c_NoRow c_TooMany c_NotDone c_NoBook c_NoCall c_NoEngine c_NoEngines c_NoText c_Nothing c_NoSaying : Addr}
theorem okP_law_kind {f : Addr} {fd : FuncData} (F : Fun K "_law_kind" "_law_kind" s_law_kind f fd) (T : Txt K w mg c_Ground c_BadTime c_NoGround c_NoPlace c_NoProof c_NoKind c_BadText c_NoDeed c_NoRow c_TooMany c_NotDone c_NoBook c_NoCall c_NoEngine c_NoEngines c_NoText c_Nothing c_NoSaying) : ∀ (p : Addr × Obj) (cls : Value) (d : Option Addr), Zc cls d p.2 → (∃ vs, p.2.data = .fields vs) → FnP P w K mg base 1 f fd ["_law_e"] (uSp K (sp_law_kind c_NoPlace p.1 cls d)) p :=
  fun p cls d hz hf => Fun.okP F sc_law_kind (td_law_kind K c_BadTime c_NoGround c_NoPlace c_NoProof c_NoKind c_BadText c_NoDeed c_NoRow c_TooMany c_NotDone c_NoBook c_NoCall c_NoEngine c_NoEngines c_NoText c_Nothing c_NoSaying p.1 cls d) (fun cdv A outer s H E hr =>
    (dss_cons (ds_set (i := 1) sc_law_kind.nd (de_lst (da_cons (de_callB (cd_isE T.xall_NoPlace (List.mem_singleton.mpr (show (p.1, p.2) = p from rfl)) hz hf) T.z_isinstance (da_cons (dv 0) (da_cons (de_glob T.gk_BadTime) da_nil))) (da_cons (de_callB (cd_isE T.xall_NoPlace (List.mem_singleton.mpr (show (p.1, p.2) = p from rfl)) hz hf) T.z_isinstance (da_cons (dv 0) (da_cons (de_glob T.gk_NoGround) da_nil))) (da_cons (de_callB (cd_isE T.xall_NoPlace (List.mem_singleton.mpr (show (p.1, p.2) = p from rfl)) hz hf) T.z_isinstance (da_cons (dv 0) (da_cons (de_glob T.gk_NoPlace) da_nil))) (da_cons (de_callB (cd_isE T.xall_NoPlace (List.mem_singleton.mpr (show (p.1, p.2) = p from rfl)) hz hf) T.z_isinstance (da_cons (dv 0) (da_cons (de_glob T.gk_NoProof) da_nil))) da_nil))))))
    (dss_cons (ds_set (i := 1) sc_law_kind.nd (de_op oa_add (dv 1) (de_lst (da_cons (de_callB (cd_isE T.xall_NoPlace (List.mem_singleton.mpr (show (p.1, p.2) = p from rfl)) hz hf) T.z_isinstance (da_cons (dv 0) (da_cons (de_glob T.gk_NoKind) da_nil))) (da_cons (de_callB (cd_isE T.xall_NoPlace (List.mem_singleton.mpr (show (p.1, p.2) = p from rfl)) hz hf) T.z_isinstance (da_cons (dv 0) (da_cons (de_glob T.gk_BadText) da_nil))) (da_cons (de_callB (cd_isE T.xall_NoPlace (List.mem_singleton.mpr (show (p.1, p.2) = p from rfl)) hz hf) T.z_isinstance (da_cons (dv 0) (da_cons (de_glob T.gk_NoDeed) da_nil))) (da_cons (de_callB (cd_isE T.xall_NoPlace (List.mem_singleton.mpr (show (p.1, p.2) = p from rfl)) hz hf) T.z_isinstance (da_cons (dv 0) (da_cons (de_glob T.gk_NoRow) da_nil))) da_nil)))))))
    (dss_cons (ds_set (i := 1) sc_law_kind.nd (de_op oa_add (dv 1) (de_lst (da_cons (de_callB (cd_isE T.xall_NoPlace (List.mem_singleton.mpr (show (p.1, p.2) = p from rfl)) hz hf) T.z_isinstance (da_cons (dv 0) (da_cons (de_glob T.gk_TooMany) da_nil))) (da_cons (de_callB (cd_isE T.xall_NoPlace (List.mem_singleton.mpr (show (p.1, p.2) = p from rfl)) hz hf) T.z_isinstance (da_cons (dv 0) (da_cons (de_glob T.gk_NotDone) da_nil))) (da_cons (de_callB (cd_isE T.xall_NoPlace (List.mem_singleton.mpr (show (p.1, p.2) = p from rfl)) hz hf) T.z_isinstance (da_cons (dv 0) (da_cons (de_glob T.gk_NoBook) da_nil))) (da_cons (de_callB (cd_isE T.xall_NoPlace (List.mem_singleton.mpr (show (p.1, p.2) = p from rfl)) hz hf) T.z_isinstance (da_cons (dv 0) (da_cons (de_glob T.gk_NoCall) da_nil))) da_nil)))))))
    (dss_cons (ds_set (i := 1) sc_law_kind.nd (de_op oa_add (dv 1) (de_lst (da_cons (de_callB (cd_isE T.xall_NoPlace (List.mem_singleton.mpr (show (p.1, p.2) = p from rfl)) hz hf) T.z_isinstance (da_cons (dv 0) (da_cons (de_glob T.gk_NoEngine) da_nil))) (da_cons (de_callB (cd_isE T.xall_NoPlace (List.mem_singleton.mpr (show (p.1, p.2) = p from rfl)) hz hf) T.z_isinstance (da_cons (dv 0) (da_cons (de_glob T.gk_NoEngines) da_nil))) (da_cons (de_callB (cd_isE T.xall_NoPlace (List.mem_singleton.mpr (show (p.1, p.2) = p from rfl)) hz hf) T.z_isinstance (da_cons (dv 0) (da_cons (de_glob T.gk_NoText) da_nil))) (da_cons (de_callB (cd_isE T.xall_NoPlace (List.mem_singleton.mpr (show (p.1, p.2) = p from rfl)) hz hf) T.z_isinstance (da_cons (dv 0) (da_cons (de_glob T.gk_Nothing) da_nil))) da_nil)))))))
    (dss_cons (ds_set (i := 1) sc_law_kind.nd (de_op oa_add (dv 1) (de_lst (da_cons (de_callB (cd_isE T.xall_NoPlace (List.mem_singleton.mpr (show (p.1, p.2) = p from rfl)) hz hf) T.z_isinstance (da_cons (dv 0) (da_cons (de_glob T.gk_NoSaying) da_nil))) da_nil))))
    (dss_cons (ds_set (i := 2) sc_law_kind.nd de_str)
    (dss_cons (ds_set (i := 2) sc_law_kind.nd (de_op oa_add (dv 2) de_str))
    (dss_one (ds_ret (de_if (dt_cmp (oc_eqU (unH hr)) (de_count (unH5 hr) (dv 1) (da_cons de_bl da_nil)) de_int) (de_ix (de_split (dv 2) de_str) (de_indexU (unH5 hr) (dv 1) (da_cons de_bl da_nil))) de_str))))))))))) (fun ws S Q E h => len_law_kind h) (hd_law_kind T p.1 cls d)
end
theorem tryAs_go {K : PySem.W.Frag} {C : Value} {i : Nat} {tb : DS'} {ts : Addr → Value → Option Addr → DS'} {D : Out} {ω : Om} {S : Sto} (h : tb { nx := fun ω' S' => D.nx ⟨ω'.s, ω.ex⟩ S', rt := D.rt, bk := fun ω' S' => D.bk ⟨ω'.s, ω.ex⟩ S', ct := fun ω' S' => D.ct ⟨ω'.s, ω.ex⟩ S' }
  ⟨ω.s, fun c fs l S' => ∃ b, PySem.W.exmOne K c C = some b ∧ (b = true → ∀ a d, fs.isSome = d.isSome → ts a c d { nx := fun _ _ => False, rt := D.rt } ⟨l.set i (some (exW a d fs)), XF⟩ S') ∧ (b = false → ω.ex c fs l S')⟩ S) : dTryAs K C i tb ts D ω S := h
abbrev s_law_told : Stmt := topS 52
abbrev N_law_told : List Str := ["_law_deed", "_law_e"]
theorem sc_law_told : FnScope N_law_told ["_law_deed"] (defScope s_law_told) := ⟨rfl, rfl, rfl, by decide +kernel, rfl, by decide +kernel, by decide +kernel⟩
theorem st_law_told {x0 : W} : ζh N_law_told [x0] = [some x0, none] := rfl
def td_law_told (K : PySem.W.Frag) (c_NoPlace : Addr) (f c : Addr) (q : Str) (vs : List V) (xs : List W) (tl : XW → Sto → WQ → Prop) : DS' :=
    (dTryAs K (.ref c_NoPlace) 1 (ζY (dAct f c q vs xs tl)) (fun a cls d => (ζY (dIf (ζP (ζj (dOp dEq (ζu ((sp_law_kind c_NoPlace) a cls d) (ζm (ζF 1) ζR)) (dC (.str "NoPlace")))) (ζO (dCB (dIsE K [c_NoPlace] a cls d) (ζm (ζF 1) (ζm (dC (.ty "KeyError")) ζR))))) (ζT (ζm (dXf [c_NoPlace] a cls d "place" (ζF 1)) ζR)) (dC (.str "other"))))))
def sp_law_told (C : Addr) : LT := fun tl S Q => ∀ (E' : XW) (Q' : WQ), (∀ w S', Q w S' → Q' w S') → (∀ x S', Q (.lst [x]) S' → E' (.ref C) (some [("place", x)]) S') → tl E' S Q'
theorem hd_law_told {K : PySem.W.Frag} {w : World} {mg : Str → Option Value} {c_Ground c_BadTime c_NoGround c_NoPlace c_NoProof c_NoKind c_BadText c_NoDeed c_NoRow c_TooMany c_NotDone c_NoBook c_NoCall c_NoEngine c_NoEngines c_NoText c_Nothing c_NoSaying : Addr} (T : Txt K w mg c_Ground c_BadTime c_NoGround c_NoPlace c_NoProof c_NoKind c_BadText c_NoDeed c_NoRow c_TooMany c_NotDone c_NoBook c_NoCall c_NoEngine c_NoEngines c_NoText c_Nothing c_NoSaying) (ex : PySem.W.exmOne K (.ref c_NoPlace) (.ref c_NoPlace) = some true) (f c : Addr) (q : Str) (vs : List V) (xs : List W) (tl : XW → Sto → WQ → Prop) (S Q) (h : sp_law_told c_NoPlace tl S Q) : td_law_told K c_NoPlace f c q vs xs tl { nx := fun _ S' => frzQ Q .non S', rt := frzQ Q } ⟨ζh N_law_told [.lam f c q vs xs], XF⟩ S := by
  simp only [st_law_told, td_law_told]
  refine tryAs_go ?_
  refine ret_go ⟨rfl, h _ _ (fun w S' hq => frzQ.mk hq) fun x S' hq => ?_⟩
  refine ⟨true, ex, fun _ a d hd => ?_, fun e => (nomatch e)⟩
  refine ret_go ?_
  refine ifE_b (true && true) (fun Q h => and_b (a := true) (b := true) (fun Q h => ?_) (fun _ Q h => ?_) h) (fun _ => ?_) (fun e => (nomatch e))
  · (array_get_dec)
    refine ⟨_, _, rfl, rfl, ?_⟩
    refine ⟨rfl, rfl, ?_⟩
    simp only [view_c_str, weq_str, decide_true]
    exact h
  · (array_get_dec)
    refine isE_goT List.mem_cons_self T.kb_NoPlace_KeyError ?_
    exact h
  · (array_get_dec)
    simp only [dXf]
    (array_get_dec)
    have hd' : d.isSome = true := by rw [← hd]; rfl
    exact ⟨c_NoPlace, List.mem_cons_self, rfl, ["place"], [x], x, rfl, hd', rfl, by decide, frzQ.mk hq⟩
section
variable {P : Program} {w : World} {K : PySem.W.Frag} {mg : Str → Option Value} {base : Heap} {c_Ground c_BadTime c_NoGround c_NoPlace c_NoProof c_NoKind c_BadText c_NoDeed c_NoRow c_TooMany c_NotDone c_NoBook c_NoCall c_NoEngine c_NoEngines c_NoText c_Nothing c_NoSaying : Addr}
theorem okL_law_told {g : Addr} {fd : FuncData} (F : Fun K "_law_told" "_law_told" s_law_told g fd) (T : Txt K w mg c_Ground c_BadTime c_NoGround c_NoPlace c_NoProof c_NoKind c_BadText c_NoDeed c_NoRow c_TooMany c_NotDone c_NoBook c_NoCall c_NoEngine c_NoEngines c_NoText c_Nothing c_NoSaying) (P_law_kind : HotD P w K mg base 1 "_law_kind" (sp_law_kind c_NoPlace)) (gx_NoPlace : mg "NoPlace" = some (.ref c_NoPlace)) (ex_NoPlace : PySem.W.exmOne K (.ref c_NoPlace) (.ref c_NoPlace) = some true) (hm : mg "_law_told" = some (.ref g)) (hk : PySem.W.keepIn K (.ref g) = true) (hb : Binds K fd ["_law_deed"] []) : CalL P w K mg base 2 "_law_told" "_law_deed" (sp_law_told c_NoPlace) :=
  Fun.okL F sc_law_told (fun f c q vs xs tl => td_law_told K c_NoPlace f c q vs xs tl) (fun cdv A outer s H f c q vs xs tl hr act =>
    (dss_one (ds_tryAs (i := 1) sc_law_told.nd ⟨rfl, by decide, .inl gx_NoPlace⟩ takes0 (fun W pn xe tk po => (dss_one (ds_ret (act _ _ _ _ _ tk)))) (fun a oe cls d pn hz hf => (dss_one (ds_ret (de_if (PW.pt (dw_and (dt_cmp (oc_eqU (unH (rmH hr _))) (de_callP P_law_kind List.mem_cons_self hz hf (rmH hr _) (da_cons (dv 1) da_nil)) de_str) (dw_and1 (dt_tru (de_callB (cd_isE T.xall_NoPlace List.mem_cons_self hz hf) T.z_isinstance (da_cons (dv 1) (da_cons (de_ty T.z_KeyError) da_nil))))))) (de_lst (da_cons (de_xf T.xfld_NoPlace_place List.mem_cons_self hz hf (dv 1)) da_nil)) de_str))))))) (fun f c q vs xs tl S Q h => hd_law_told T ex_NoPlace f c q vs xs tl S Q h) hm hk hb
end
section
variable {X : Cx} {Z : WX}
def dUpper (to : DE') : DE' := fun ω S Q => to ω S fun a S1 => ∃ x, a = .str x ∧ x.length ≤ 1000000 ∧ sv (Txt.upper x) ∧ Q (.str (Txt.upper x)) S1
theorem de_upper {o : Expr} {to : DE'} {apos pos : Pos} (ho : DE X Z o to) (hbase : attributeBase o "upper" X.env (eval o X.env) = eval o X.env := by rfl) (hline : (apos.endLine == pos.line) = true := by rfl) :
    DE X Z (.Call (.Attribute o "upper" apos) [] [] pos) (dUpper to) := PE.im (pe_upper ho hbase hline) fun σ H Q ⟨ω, S, Qd, a, h, f⟩ => by
  refine ⟨ω, S, _, a, h, fun w S1 v H1 x1 r1 q1 h1 => ?_⟩
  obtain ⟨x, rfl, hl, hs, hq⟩ := h1
  cases q1 with | str _ okx =>
    exact ⟨⟨x, rfl⟩, x, rfl, rfl, Nat.le_trans hl (by decide), f _ _ _ _ x1 r1 (.str _ hs) hq⟩
end
theorem upper_no {x : Str} (h : isName (.str x) = true) : isName (.str (Txt.upper x)) = false ∧ sv (Txt.upper x) := by
  have h0 : (decide (1 ≤ x.length) && decide (x.length ≤ 8) && x.cps.toList.all az) = true := h
  rw [Bool.and_eq_true, Bool.and_eq_true] at h0
  have az_le : ∀ c ∈ x.cps.toList, 97 ≤ c ∧ c ≤ 122 := fun c hc => by
    have hz := List.all_eq_true.mp h0.2 c hc
    unfold az at hz
    simp only [Bool.and_eq_true, decide_eq_true_eq] at hz
    exact hz
  rw [upper_ascii fun c hc => by have := az_le c hc; omega]
  have el : (x.cps.map up1).toList = x.cps.toList.map up1 := by simp
  refine ⟨?_, sv_iff.mpr ⟨fun c hc => ?_, ?_⟩⟩
  · cases e : x.cps.toList with
    | nil =>
      have : x.length = 0 := by
        show x.cps.size = 0
        rw [← Array.length_toList, e]; rfl
      have := of_decide_eq_true h0.1.1
      omega
    | cons c l =>
      show (decide _ && decide _ && (x.cps.map up1).toList.all az) = false
      rw [el, e]
      have := az_le c (by rw [e]; exact List.mem_cons_self)
      have hz : az (up1 c) = false := by unfold up1; rw [if_pos this]; unfold az; rw [Bool.and_eq_false_iff]; left; exact decide_eq_false (by omega)
      rw [List.map_cons, List.all_cons, hz, Bool.false_and, Bool.and_false]
  · rw [el] at hc
    obtain ⟨d, hd, rfl⟩ := List.mem_map.mp hc
    have := az_le d hd
    unfold up1
    rw [if_pos this]
    omega
  · have := of_decide_eq_true h0.1.2
    show (x.cps.map up1).size ≤ sizeLine
    rw [Array.size_map]
    exact Nat.le_trans this (by decide)
theorem consC_go {w : W} {t : DA'} {ω : Om} {S : Sto} {Q : List W → Sto → Prop} (h : t ω S fun ws S2 => Q (w :: ws) S2) : ζm (dC w) t ω S Q := h
theorem consV_go {i : Nat} {w : W} {t : DA'} {ω : Om} {S : Sto} {Q : List W → Sto → Prop} (hi : ω.s[i]? = some (some w)) (h : t ω S fun ws S2 => Q (w :: ws) S2) : ζm (ζF i) t ω S Q := var_go (Q := fun w S1 => t ω S1 fun ws S2 => Q (w :: ws) S2) hi h
theorem consE_go {te : DE'} {t : DA'} {ω : Om} {S : Sto} {Q : List W → Sto → Prop} (h : te ω S fun w S1 => t ω S1 fun ws S2 => Q (w :: ws) S2) : ζm te t ω S Q := h
theorem nil_go {ω : Om} {S : Sto} {Q : List W → Sto → Prop} (h : Q [] S) : ζR ω S Q := h
theorem tup_go {t : DA'} {ω : Om} {S : Sto} {Q : WQ} (h : t ω S fun ws S1 => ws.length ≤ 1000000 ∧ Q (.tup ws) S1) : ζS t ω S Q := h
theorem opV_go {rd : D2} {i : Nat} {x : W} {tb : DE'} {ω : Om} {S : Sto} {Q : WQ} (hi : ω.s[i]? = some (some x)) (h : tb ω S fun y S2 => rd x y S2 Q) : dOp rd (ζF i) tb ω S Q := var_go (Q := fun x S1 => tb ω S1 fun y S2 => rd x y S2 Q) hi h
theorem cb_go {rd : DC'} {t : DA'} {ω : Om} {S : Sto} {Q : WQ} (h : t ω S fun ws S1 => rd ws S1 Q) : dCB rd t ω S Q := h
theorem call_go {dsp : DSp} {t : DA'} {ω : Om} {S : Sto} {Q : WQ} (h : t ω S fun ws S1 => dsp ws S1 Q X0) : ζu dsp t ω S Q := h
theorem opE_go {rd : D2} {ta tb : DE'} {ω : Om} {S : Sto} {Q : WQ} (h : ta ω S fun x S1 => tb ω S1 fun y S2 => rd x y S2 Q) : dOp rd ta tb ω S Q := h
def oddL (x : Str) : List W := [.non, .bl true, .int 0, .int 1, .int (-1), .str "", .str "A", .str (x ++ "A"), .str (cutS x (some 1) none ++ "9"), .lst [.str x], .tup [.str x], .tup [.lst []], .int (10 ^ (40 : Int).toNat), .str (Txt.upper x)]
theorem name_len {x : Str} (h : isName (.str x) = true) : x.length ≤ 8 := by
  have h : (decide (1 ≤ x.length) && decide (x.length ≤ 8) && x.cps.toList.all az) = true := h
  rw [Bool.and_eq_true, Bool.and_eq_true] at h
  exact of_decide_eq_true h.1.2
structure Odd (w : W) : Prop where
  pl : Pl w = true
  no : isName w = false
  ok : okD w = true
  d : isD w = true
theorem Odd.no_p {w : W} (h : Odd w) (ps : List (Str × Int)) : isP ps w = false := by unfold isP; rw [h.no]; rfl
theorem no_end {x : Str} {c : Nat} (h : az c = false) (z : Str) (hz : z.cps.toList = [c]) : isName (.str (x ++ z)) = false := by
  show (decide _ && decide _ && (x ++ z).cps.toList.all az) = false
  rw [app_l, hz, List.all_append, List.all_cons, h, Bool.false_and, Bool.and_false, Bool.and_false]
theorem strOdd {x : Str} (h : isName (.str x) = false) : Odd (.str x) := ⟨rfl, h, rfl, rfl⟩
theorem odd_of {x : Str} (h : isName (.str x) = true) : ∀ w ∈ oddL x, Odd w := by
  intro w hw
  unfold oddL at hw
  simp only [List.mem_cons, List.not_mem_nil, or_false] at hw
  rcases hw with rfl | rfl | rfl | rfl | rfl | rfl | rfl | rfl | rfl | rfl | rfl | rfl | rfl | rfl
  · exact ⟨rfl, rfl, rfl, rfl⟩
  · exact ⟨rfl, rfl, rfl, rfl⟩
  · exact ⟨rfl, rfl, rfl, rfl⟩
  · exact ⟨rfl, rfl, rfl, rfl⟩
  · exact ⟨rfl, rfl, rfl, rfl⟩
  · exact strOdd (by decide +kernel)
  · exact strOdd (by decide +kernel)
  · exact strOdd (no_end (c := 65) (by decide) "A" (by decide +kernel))
  · exact strOdd (no_end (c := 57) (by decide) "9" (by decide +kernel))
  · exact ⟨rfl, rfl, rfl, rfl⟩
  · exact ⟨rfl, rfl, rfl, rfl⟩
  · exact ⟨rfl, rfl, rfl, rfl⟩
  · exact ⟨rfl, rfl, rfl, rfl⟩
  · exact strOdd (upper_no h).1
abbrev s_law_odd : Stmt := topS 51
abbrev N_law_odd : List Str := ["_law_bag_here", "_law_names_here", "_law_good", "_law_some"]
theorem sc_law_odd : FnScope N_law_odd ["_law_bag_here", "_law_names_here"] (defScope s_law_odd) := ⟨rfl, rfl, rfl, by decide +kernel, rfl, by decide +kernel, by decide +kernel⟩
theorem st_law_odd {x0 x1 : W} : ζh N_law_odd [x0, x1] = [some x0, some x1, none, none] := rfl
def td_law_odd : DS' :=
    (ζX (ξa 2 (dOp dIx (ζF 1) (ζu sp_law_take (ζm (ζF 0) (ζm (dCB ζU (ζm (ζF 1) ζR)) ζR)))))
    (ζX (ξa 3 (ζT (ζm (dC .non) (ζm (dC (.bl true)) (ζm (dC (.int 0)) (ζm (dC (.int 1)) (ζm (dUn ζM (dC (.int 1))) (ζm (dC (.str "")) (ζm (dC (.str "A")) (ζm (dOp ζL (ζF 2) (dC (.str "A"))) (ζm (dOp ζL (dSl (ζF 2) (ζv (dC (.int 1))) dNo) (dC (.str "9"))) (ζm (ζT (ζm (ζF 2) ζR)) (ζm (ζS (ζm (ζF 2) ζR)) (ζm (ζS (ζm (ζT ζR) ζR)) (ζm (dOp ζK (dC (.int 10)) (dC (.int 40))) (ζm (dUpper (ζF 2)) ζR))))))))))))))))
    (ζY (dOp dIx (ζF 3) (ζu sp_law_take (ζm (ζF 0) (ζm (dC (.int 14)) ζR)))))))
def sp_law_odd : DSp := fun ws S Q _ => ∃ (b : Addr) (ns : List Str), ws = [.ref b, .lst (ns.map W.str)] ∧ Bg S b ∧ (∀ x ∈ ns, isName (.str x) = true) ∧ 0 < ns.length ∧ ns.length ≤ 100 ∧ ∀ w, Odd w → aft S b fun S' => Q w S'
theorem len_law_odd {ws S Q E} (h : sp_law_odd ws S Q E) : ws.length = 2 := by obtain ⟨_, _, rfl, _⟩ := h; rfl
theorem hd_law_odd (ws S Q E) (h : sp_law_odd ws S Q E) : td_law_odd { nx := fun _ S' => frzQ Q .non S', rt := frzQ Q } ⟨ζh N_law_odd ws, XF⟩ S := by
  obtain ⟨b, ns, rfl, hB, hns, n0, n1, q⟩ := h
  simp only [st_law_odd, td_law_odd]
  refine seq_go (setN_go (fun w S1 => ∃ x g s, w = .str x ∧ isName (.str x) = true ∧ BagOk g s ∧ S1 = up S b (bagO g s)) (fun Q' h => ?_) ?_)
  · refine opV_go rfl (call_go (consV_go rfl (consE_go ?_)))
    (array_get_dec)
    refine ⟨b, _, rfl, hB, by rw [List.length_map]; omega, by rw [List.length_map]; omega, fun r r0 r1 g s ok => ?_⟩
    rw [List.length_map] at r1
    obtain ⟨k, rfl⟩ : ∃ k : Nat, r = (k : Int) := ⟨r.toNat, by omega⟩
    obtain ⟨x, hm, e⟩ := atI_nat (xs := ns.map W.str) (a := k) (by rw [List.length_map]; omega)
    obtain ⟨y, hy, rfl⟩ := List.mem_map.mp hm
    (array_get_dec)
    rw [e]
    exact h _ _ ⟨y, g, s, rfl, hns y hy, ok, rfl⟩
  rintro _ _ ⟨x, g, s, rfl, hx, ok, rfl⟩
  (((try unfold ζq); dsimp only; refine seq_go ?_))
  refine set_go (.lst (oddL x)) (up S b (bagO g s)) (fun Q' h => ?_) ?_
  · have l8 : x.length ≤ 8 := name_len hx
    have c8 := cutS_length x (some 1) none
    have e1 : (Str.ofString "A").length = 1 := by decide +kernel
    have e2 : (Str.ofString "9").length = 1 := by decide +kernel
    (array_get_dec)
    simp only [dUpper]
    (array_get_dec)
    refine ⟨by omega, by omega, by decide, by decide, by decide, by decide, ?_, x, rfl, by omega, (upper_no hx).2, Nat.le_of_ble_eq_true rfl, h⟩
    unfold CPow
    decide
  (((try unfold ζq); dsimp only))
  refine ret_go (opV_go rfl (call_go (consV_go rfl (consC_go (nil_go ⟨b, 14, rfl, Bg.up ok, by decide, by decide, fun r r0 r1 g2 s2 ok2 => ?_⟩)))))
  obtain ⟨k, rfl⟩ : ∃ k : Nat, r = (k : Int) := ⟨r.toNat, by omega⟩
  obtain ⟨w, hm, e⟩ := atI_nat (xs := oddL x) (a := k) (by show k < 14; omega)
  rw [up_up]
  show (match L2.atI (oddL x) (k : Int) with | some w => frzQ Q w _ | none => False)
  rw [e]
  exact frzQ.mk (q w (odd_of hx w hm) g2 s2 ok2)
section
variable {P : Program} {w : World} {K : PySem.W.Frag} {mg : Str → Option Value} {base : Heap} {c_Ground c_BadTime c_NoGround c_NoPlace c_NoProof c_NoKind c_BadText c_NoDeed c_NoRow c_TooMany c_NotDone c_NoBook c_NoCall c_NoEngine c_NoEngines c_NoText c_Nothing c_NoSaying : Addr}
theorem ok_law_odd {f : Addr} {fd : FuncData} (F : Fun K "_law_odd" "_law_odd" s_law_odd f fd) (T : Txt K w mg c_Ground c_BadTime c_NoGround c_NoPlace c_NoProof c_NoKind c_BadText c_NoDeed c_NoRow c_TooMany c_NotDone c_NoBook c_NoCall c_NoEngine c_NoEngines c_NoText c_Nothing c_NoSaying) (C_law_take : CalD P w K mg base 1 "_law_take" sp_law_take) : FnOk P w K mg base CX0 2 f fd ["_law_bag_here", "_law_names_here"] (uSp K (sp_law_odd)) :=
  Fun.okF F sc_law_odd (td_law_odd) (fun cdv A outer s H E hr =>
    (dss_cons (ds_set (i := 2) sc_law_odd.nd (de_ix (dv 1) (de_call C_law_take hr (da_cons (dv 0) (da_cons (de_callB cd_len T.z_len (da_cons (dv 1) da_nil)) da_nil)))))
    (dss_cons (ds_set (i := 3) sc_law_odd.nd (de_lst (da_cons de_non (da_cons de_bl (da_cons de_int (da_cons de_int (da_cons (de_neg de_int) (da_cons de_str (da_cons de_str (da_cons (de_op oa_add (dv 2) de_str) (da_cons (de_op oa_add (de_sl (dv 2) (do_some de_int) do_none) de_str) (da_cons (de_lst (da_cons (dv 2) da_nil)) (da_cons (de_tup (da_cons (dv 2) da_nil)) (da_cons (de_tup (da_cons (de_lst da_nil) da_nil)) (da_cons (de_op oa_pow de_int de_int) (da_cons (de_upper (dv 2)) da_nil))))))))))))))))
    (dss_one (ds_ret (de_ix (dv 3) (de_call C_law_take hr (da_cons (dv 0) (da_cons de_int da_nil))))))))) (fun ws S Q E h => len_law_odd h) (hd_law_odd)
end
abbrev s_law_is : Stmt := topS 53
abbrev N_law_is : List Str := ["_law_told_here", "_law_odd_here"]
theorem sc_law_is : FnScope N_law_is ["_law_told_here", "_law_odd_here"] (defScope s_law_is) := ⟨rfl, rfl, rfl, by decide +kernel, rfl, by decide +kernel, by decide +kernel⟩
theorem st_law_is {x0 x1 : W} : ζh N_law_is [x0, x1] = [some x0, some x1] := rfl
def td_law_is : DS' :=
    (ζX (ζZ (dOr (ζQ (ζO (dUn (dIs .lst) (ζF 0)))) (dOr (ζj (dOp dNe (dCB ζU (ζm (ζF 0) ζR)) (dC (.int 1)))) (ζj (dOp dNe (dUn (dIs .bool) (dOp dIx (ζF 0) (dC (.int 0)))) (dUn (dIs .bool) (ζF 1)))))) (ζY (dC (.bl false))) ζq)
    (ζY (dOp dEq (dOp dIx (ζF 0) (dC (.int 0))) (ζF 1))))
def sp_law_is : DSp := fun ws S Q _ => ∃ x : W, ws = [.lst [x], x] ∧ Odd x ∧ Q (.bl true) S
theorem len_law_is {ws S Q E} (h : sp_law_is ws S Q E) : ws.length = 2 := by obtain ⟨_, rfl, _⟩ := h; rfl
theorem hd_law_is (ws S Q E) (h : sp_law_is ws S Q E) : td_law_is { nx := fun _ S' => frzQ Q .non S', rt := frzQ Q } ⟨ζh N_law_is ws, XF⟩ S := by
  obtain ⟨x, rfl, hx, q⟩ := h
  simp only [st_law_is, td_law_is]
  obtain ⟨b, hb⟩ : ∃ b, isi S .bool x = some b := by
    have := hx.pl
    cases x <;> first | exact ⟨_, rfl⟩ | cases this
  have vx : view S x = x := view_D hx.d
  (array_get_dec)
  refine ⟨rfl, rfl, ?_⟩
  rw [if_neg (by decide), hb]
  refine ⟨rfl, rfl, ?_⟩
  have wb : weq (.bl b) (.bl b) = true := weq_refl rfl
  rw [wb, if_neg (by decide), vx]
  refine ⟨hx.ok, hx.ok, ?_⟩
  rw [weq_refl hx.d]
  exact frzQ.mk q
section
variable {P : Program} {w : World} {K : PySem.W.Frag} {mg : Str → Option Value} {base : Heap} {c_Ground c_BadTime c_NoGround c_NoPlace c_NoProof c_NoKind c_BadText c_NoDeed c_NoRow c_TooMany c_NotDone c_NoBook c_NoCall c_NoEngine c_NoEngines c_NoText c_Nothing c_NoSaying : Addr}
theorem ok_law_is {f : Addr} {fd : FuncData} (F : Fun K "_law_is" "_law_is" s_law_is f fd) (T : Txt K w mg c_Ground c_BadTime c_NoGround c_NoPlace c_NoProof c_NoKind c_BadText c_NoDeed c_NoRow c_TooMany c_NotDone c_NoBook c_NoCall c_NoEngine c_NoEngines c_NoText c_Nothing c_NoSaying) : FnOk P w K mg base CX0 1 f fd ["_law_told_here", "_law_odd_here"] (uSp K (sp_law_is)) :=
  Fun.okF F sc_law_is (td_law_is) (fun cdv A outer s H E hr =>
    (dss_cons (ds_if (PW.pt (dw_or (dt_not (dt_tru (de_isi .lst (dv 0) T.z_isinstance T.z_list))) (dw_or (dt_cmp (oc_ne hr) (de_callB cd_len T.z_len (da_cons (dv 0) da_nil)) de_int) (dw_or1 (dt_cmp (oc_ne hr) (de_isi .bool (de_ix (dv 0) de_int) T.z_isinstance T.z_bool) (de_isi .bool (dv 1) T.z_isinstance T.z_bool)))))) (dss_one (ds_ret de_bl)) dss_nil)
    (dss_one (ds_ret (de_cmp (oc_eq hr) (de_ix (dv 0) de_int) (dv 1)))))) (fun ws S Q E h => len_law_is h) (hd_law_is)
end
open LamX (CodeO TabB lamEnv lamCx)
structure LamD (N : List Str) (sc scope : Scope) (p : Str) : Prop where
  kind : scope.kind = .function
  co : scope.isCoroutine = false
  gen : scope.isGenerator = false
  own : ∀ y ∈ scope.names, y.2 ≠ .cell ∧ (y.2 = .local → y.1 = p)
  par : scope.names.lookup p = some .local
  free : ∀ y ∈ scope.names, y.2 = .free → sc.names.lookup y.1 = some .cell ∨ sc.names.lookup y.1 = some .free
  new : p ∉ N
def lamDB (N : List Str) (sc scope : Scope) (p : Str) : Bool :=
  (decide (scope.kind = .function) && (!scope.isCoroutine && !scope.isGenerator)) && ((decide (scope.names.lookup p = some .local) && !N.contains p) &&
    scope.names.all fun y => (!decide (y.2 = .cell) && (!decide (y.2 = .local) || decide (y.1 = p))) && (!decide (y.2 = .free) || (decide (sc.names.lookup y.1 = some .cell) || decide (sc.names.lookup y.1 = some .free))))
theorem lamD_by {N : List Str} {sc scope : Scope} {p : Str} (h : lamDB N sc scope p = true) : LamD N sc scope p := by
  unfold lamDB at h
  rw [Bool.and_eq_true, Bool.and_eq_true, Bool.and_eq_true, Bool.and_eq_true, Bool.and_eq_true] at h
  obtain ⟨⟨k, c, g⟩, ⟨r, n⟩, al⟩ := h
  have al := List.all_eq_true.mp al
  refine ⟨of_decide_eq_true k, by simpa using c, by simpa using g, fun y hy => ?_, of_decide_eq_true r, fun y hy e => ?_, fun m => ?_⟩
  · have q := al y hy
    simp only [Bool.and_eq_true, Bool.or_eq_true, Bool.not_eq_true', decide_eq_true_eq, decide_eq_false_iff_not] at q
    exact ⟨q.1.1, fun e => q.1.2.resolve_left fun z => z e⟩
  · have q := al y hy
    simp only [Bool.and_eq_true, Bool.or_eq_true, Bool.not_eq_true', decide_eq_true_eq, decide_eq_false_iff_not] at q
    exact q.2.resolve_left fun z => z e
  · rw [List.contains_iff_mem.mpr m] at n
    cases n
theorem LamD.has {X : Cx} {N : List Str} {scope : Scope} {p : Str} (L : LamD N X.env.scope scope p) (ok : X.Ok) : ∀ y ∈ scope.names, y.2 = .free → ∃ c, X.env.cells.lookup y.1 = some c := fun y hy e =>
  (L.free y hy e).elim (fun k => ok.has _ (.inl k)) fun k => ok.has _ (.inr k)
section
variable {X : Cx} {pins : List (Addr × Obj)} {σ : L2.St} {H HZ : Hp} {s s1 : Shared}
theorem lam_startD {A : Around} {outer : List Env} {E : XK} {scope : Scope} {p : Str} {m : Str → Option Value} {f c' : Addr} {h₁ : Heap} {tk : Nat} (I : Inv X pins σ H s) (L : LamD X.N X.env.scope scope p) (e0 : Env0 X.prog X.w X.K X.mg X.base A outer s1 HZ) (hd : A.handled = none)
    (un : Un (frs X.stack) [] H HZ s.heap s1.heap) (ns : h₁.Ns s1.heap.objs.size m) (kp : ∀ b o, s1.heap.get? b = some o → h₁.get? b = some o) :
    Inv (lamCx X A outer s1 HZ E scope f c') [] σ HZ { s1 with heap := h₁, toks := tk } := by
  have free := L.has I.ok
  have back : ∀ {y c}, (cloFrom X.env.cells scope.names []).lookup y = some c → X.env.cells.lookup y = some c := by
    intro y c e
    rcases cloFrom_mem (PySem.mem_of_lookup e) with hm | ⟨h1, h2⟩
    · cases hm
    · obtain ⟨c1, hc⟩ := free _ h1 rfl
      have e2 : c = c1 := by rw [h2, show X.env.cells.lookup y = some c1 from hc] <;> rfl
      rw [e2]; exact hc
  have there : ∀ {y}, scope.names.lookup y = some .free → ∃ c, (cloFrom X.env.cells scope.names []).lookup y = some c := fun {y} hl =>
    mem_lookup (cloFrom_has (cells := X.env.cells) (acc := []) (show (y, NameKind.free) ∈ scope.names from PySem.mem_of_lookup hl))
  have cells : ∀ {c : Addr} {v : Option Value}, H c = none → s.heap.IsCell c v → h₁.IsCell c v := by
    rintro c v n ⟨o, ho, hc⟩
    obtain ⟨sl, q⟩ := un.any ho n (by simp)
    exact ⟨_, kp _ _ q, hc⟩
  have none_ : ∀ b : Addr, b ∉ (lamCx X A outer s1 HZ E scope f c').ex := fun b z => (List.not_mem_nil (show b ∈ ([] : List Addr) from z)).elim
  have hasC : ∀ y, (lamEnv X scope s1.heap.objs.size f c').kindOf y = some .cell ∨ (lamEnv X scope s1.heap.objs.size f c').kindOf y = some .free → ∃ c, (cloFrom X.env.cells scope.names []).lookup y = some c := by
    rintro y (hy | hy)
    · exact absurd rfl (L.own _ (PySem.mem_of_lookup (show scope.names.lookup y = some .cell from hy))).1
    · exact there hy
  have ok : (lamCx X A outer s1 HZ E scope f c').Ok := { mod := e0.mod, kind := L.kind, glob := rfl, blt := rfl, above := Nat.le_refl _, inj := fun y z c e1 e2 => I.ok.inj y z c (back e1) (back e2), has := hasC, cab := fun y c z _ => (nomatch (show false = true from z)), hd := fun _ => hd, frames := Around.frames_deeper e0.frames, stk := .inr ⟨rfl, rfl⟩, exf := fun b z => absurd z (none_ b), bs := e0.bs, bsz := e0.bsz, noex := fun b _ _ => none_ b, exfs := fun b z => absurd z (none_ b), funs := e0.funs, frf := e0.frf }
  have loc : ∀ (i : Nat) (y : Str) (v : V), X.N[i]? = some y → σ[i]? = some (some v) → Vis scope y → ∃ u, RelV v u ∧ Look (lamEnv X scope s1.heap.objs.size f c') h₁ m y u := by
    rintro i y v e1 e2 (k | k | k)
    · have ey : y = p := (L.own _ (PySem.mem_of_lookup k)).2 rfl
      exact absurd (List.mem_of_getElem? e1) (by rw [ey]; exact L.new)
    · exact absurd rfl (L.own _ (PySem.mem_of_lookup k)).1
    · obtain ⟨m0, _, hl⟩ := I.loc
      have vis : Vis X.env.scope y := (L.free _ (PySem.mem_of_lookup k) rfl).elim (fun k => .inr (.inl k)) (fun k => .inr (.inr k))
      obtain ⟨w', r, q⟩ := hl i y v e1 e2 vis
      obtain ⟨c2, h2⟩ := there k
      refine ⟨w', r, .inr ⟨.inr k, c2, h2, ?_⟩⟩
      have c1 := back h2
      rcases q with ⟨k', _⟩ | ⟨_, c3, e', z⟩
      · have k' : X.env.scope.names.lookup y = some .local := k'
        rcases L.free _ (PySem.mem_of_lookup k) rfl with k2 | k2 <;> (rw [show X.env.scope.names.lookup y = _ from k2] at k'; cases k')
      · rw [c1] at e'; cases e'
        exact cells (I.freeC y _ c1) z
  have cel : ∀ y c, (cloFrom X.env.cells scope.names []).lookup y = some c → ∃ v, h₁.IsCell c v := fun y c e => by
    obtain ⟨w', z⟩ := I.cell y c (back e)
    exact ⟨w', cells (I.freeC y c (back e)) z⟩
  have freeC : ∀ y c, (cloFrom X.env.cells scope.names []).lookup y = some c → HZ c = none := fun y c e => by
    obtain ⟨v, o, ho, hc⟩ := I.cell y c (back e)
    exact un.free c o ho (I.freeC y c (back e)) (by simp)
  exact { ok := ok, os := rfl, bare := e0.bare, base := Un.kept kp, loc := ⟨_, ns, loc⟩, cell := cel, free := e0.hok.fresh (Nat.le_refl _), freeC := freeC, pin := fun q hq => (List.not_mem_nil (show q ∈ ([] : List (Addr × Obj)) from hq)).elim, hok := e0.hok.kept kp, len := I.len }
theorem cst_int {i0 : Int} {jj : Nat} {cpos : Pos} {E Q : Value → Shared → Prop} (I : Inv X pins σ H s) (h : ∀ u s0, Inv X pins σ H s0 → Q u s0) : wpAny (model X.prog X.w) X.A (eval (.Constant (.int i0) jj cpos) X.env) Q E s := wpAny_Constant_int (h _ _ (I.tok _))
theorem lam_newD {c P : Addr} {args : Arguments} {i0 : Int} {jj : Nat} {cpos : Pos} {body : Expr} {scope : Scope} {pos : Pos} {E Q : Value → Shared → Prop} {ps : Array Value} (I : Inv X pins σ H s) (B : TabB X.base X.mg c P) (own : X.env.code = .ref c)
    (t : Tab0 H P (X.env.qual ++ "<lambda>") ps) (dfl : args.defaults = [.Constant (.int i0) jj cpos]) (kw : args.kw_defaults = []) (cells : ∀ y ∈ scope.names, y.2 = .free → ∃ c, X.env.cells.lookup y.1 = some c)
    (go : ∀ (f c' td : Addr) (u pm ctv doc : Value) (H1 : Hp) (s' : Shared), Inv X pins σ H1 s' → Grown H P (X.env.qual ++ "<lambda>") H1 →
      s'.heap.get? f = some (PySem.W.kdv_obj "<lambda>" (X.env.qual ++ "<lambda>") args (.expr body) scope (cloFrom X.env.cells scope.names []) (.ref td) doc pm c' ctv) → s'.heap.get? td = some (PySem.W.kdv_tup [u]) → H1 f = none → H1 td = none → f ∉ frs X.stack → td ∉ frs X.stack → H1 c' = some (CodeO c' (X.env.qual ++ "<lambda>")) → Q (.ref f) s') :
    wpAny (model X.prog X.w) X.A (eval (.Lambda args body scope pos) X.env) Q E s := by
  refine PySem.W.kdv_lam (by rw [dfl]; rfl) kw ?_
  rw [dfl]
  refine PySem.W.kdv_all1 (cst_int I fun u s0 I0 => PySem.W.kdv_all0 ?_)
  rw [makeFunction_eq]
  simp only [List.zip_nil_right, List.filterMap_nil, List.isEmpty_nil, List.isEmpty_cons, if_true, pure_bind, Bool.false_eq_true, if_false]
  refine wpAny_bind (wpAny_newTextTuple ?_)
  have push0 : ∀ b o, s0.heap.get? b = some o → (s0.heap.push (PySem.W.kdv_tup [u])).get? b = some o := fun b o e => Heap.get?_push_of_some _ e
  have I1 : Inv X pins σ H { s0 with heap := s0.heap.push (PySem.W.kdv_tup [u]) } := I0.kept (t' := s0.toks) push0
  have tup1 : (s0.heap.push (PySem.W.kdv_tup [u])).get? s0.heap.objs.size = some (PySem.W.kdv_tup [u]) := Heap.get?_push_size _ rfl
  have tupN : H s0.heap.objs.size = none := I0.hok.fresh (Nat.le_refl _)
  have sz1 : (s0.heap.push (PySem.W.kdv_tup [u])).objs.size = s0.heap.objs.size + 1 := Heap.size_push ..
  have away : ∀ f, s0.heap.objs.size ≤ f → f ∉ frs X.stack := fun f big hm => by
    rcases List.mem_cons.mp (I0.stkSub _ hm) with e | e
    · have small := I0.lt
      rw [← e] at small
      exact absurd big (Nat.not_le_of_lt small)
    · exact I0.nofs big e
  obtain ⟨stands, threes, tells⟩ := t
  have known : (s0.heap.push (PySem.W.kdv_tup [u])).BuiltinsAt X.mg P := B.bm.keeps I1.bk
  have stood : (s0.heap.push (PySem.W.kdv_tup [u])).get? P = some { cls := .none, data := .fields ps } := I1.hok P _ stands
  cases found : codeAmong pos ps.toList with
  | some cv =>
    obtain ⟨c', rfl, isCode⟩ := tells pos cv found
    refine PySem.W.kdv_makeTailHit (mg := X.mg) (c := c) (P := P) (ps := ps) (closure_ok cells) I1.ok.glob (I1.mod.glob.keeps I1.bk) own (B.code.keeps I1.bk) stood threes found known fun ctv doc h' tk ext big => ?_
    have J : Inv X pins σ H { s0 with heap := h'.push (PySem.W.kdv_obj "<lambda>" (X.env.qual ++ "<lambda>") args (.expr body) scope (cloFrom X.env.cells scope.names []) (.ref s0.heap.objs.size) doc ((X.mg "__name__").getD .none) c' ctv), toks := tk } := I1.kept fun b o e => Heap.get?_push_of_some _ (ext b o e)
    have big : s0.heap.objs.size ≤ h'.objs.size := Nat.le_trans (by show _ ≤ (s0.heap.push (PySem.W.kdv_tup [u])).objs.size; rw [sz1]; omega) big
    exact go _ c' _ u _ ctv doc H _ J (.inl rfl) (Heap.get?_push_size _ rfl) (Heap.get?_push_of_some _ (ext _ _ tup1)) (I0.hok.fresh big) tupN (away _ big) (away _ (Nat.le_refl _)) isCode
  | none =>
    refine PySem.W.kdv_makeTail (mg := X.mg) (c := c) (P := P) (ps := ps) (closure_ok cells) I1.ok.glob (I1.mod.glob.keeps I1.bk) own (B.code.keeps I1.bk) stood threes found B.gP known fun c' ctv doc h' tk ext big less code tab => ?_
    obtain ⟨c2, oc, vs, w, e2, hoc, hd, hv⟩ := code
    cases e2
    have new : H c' = none := I1.hok.fresh big
    have big0 : s0.heap.objs.size ≤ c' := Nat.le_trans (by show _ ≤ (s0.heap.push (PySem.W.kdv_tup [u])).objs.size; rw [sz1]; omega) big
    have big' : s0.heap.objs.size ≤ h'.objs.size := Nat.le_trans big0 (Nat.le_of_lt less)
    have neP : c' ≠ P := fun e => by rw [e, stands] at new; cases new
    have tdP : s0.heap.objs.size ≠ P := fun e => by rw [e, stands] at tupN; cases tupN
    have J := LamX.inv_table (t' := tk) (more := #[rawInt pos.line, rawInt pos.col, .ref c']) (q := X.env.qual ++ "<lambda>") (h' := h'.push (PySem.W.kdv_obj "<lambda>" (X.env.qual ++ "<lambda>") args (.expr body) scope (cloFrom X.env.cells scope.names []) (.ref s0.heap.objs.size) doc ((X.mg "__name__").getD .none) c' ctv))
      I1 stands (fun b o ne e => Heap.get?_push_of_some _ (ext b o ne e)) (Heap.get?_push_of_some _ tab) big ⟨oc, vs, w, Heap.get?_push_of_some _ hoc, hd, hv⟩
    have at1 : ∀ b, b ≠ P → b ≠ c' → upd (upd H P (.tbl (ps ++ #[rawInt pos.line, rawInt pos.col, .ref c']))) c' (CodeO c' (X.env.qual ++ "<lambda>")) b = H b := fun b h1 h2 => by rw [upd_ne h2, upd_ne h1]
    refine go _ c' _ u _ ctv doc _ _ J (.inr ⟨_, c', new, neP, rfl, ⟨by rw [upd_ne (Ne.symm neP), upd_same], ?_, fun p' cv hcv => ?_⟩⟩) (Heap.get?_push_size _ rfl) (Heap.get?_push_of_some _ (ext _ _ tdP tup1)) ?_ ?_ (away _ big') (away _ (Nat.le_refl _)) upd_same
    · rw [Array.toList_append]
      exact PySem.TriplesOk_snoc _ _ _ _ threes
    · rw [Array.toList_append] at hcv
      rcases LamX.among_app _ threes hcv with z | z
      · obtain ⟨c0, e1, e2⟩ := tells p' cv z
        refine ⟨c0, e1, ?_⟩
        rw [at1 c0 (fun e => by rw [e, stands] at e2; exact LamX.codeO_ne ps (Option.some.inj e2).symm) (fun e => by rw [e, new] at e2; cases e2)]
        exact e2
      · exact ⟨c', z, upd_same⟩
    · rw [at1 _ (fun e => absurd (Heap.lt_size stood) (Nat.not_lt_of_le (by rw [← e]; show (s0.heap.push (PySem.W.kdv_tup [u])).objs.size ≤ _; rw [sz1]; exact Nat.lt_of_le_of_lt big0 less))) (Nat.ne_of_gt less)]
      exact I0.hok.fresh big'
    · rw [at1 _ tdP (Nat.ne_of_lt (Nat.lt_of_lt_of_le (by show _ < (s0.heap.push (PySem.W.kdv_tup [u])).objs.size; rw [sz1]; omega) big))]
      exact tupN
end
theorem code_not_sto {K : PySem.W.Frag} {S : Sto} {H : Hp} {c' : Addr} {q : Str} (r : Rel K S H) (hco : H c' = some (CodeO c' q)) : S c' = none := by
  cases hs : S c' with
  | none => rfl
  | some o1 =>
    exfalso
    have e2 := hco
    cases r _ _ hs with
    | lst q' _ => rw [q'] at e2; unfold CodeO at e2; cases e2
    | dK q' _ => rw [q'] at e2; unfold CodeO at e2; cases e2
    | dT q' _ => rw [q'] at e2; unfold CodeO at e2; cases e2
    | ins q' _ _ => rw [q'] at e2; unfold CodeO at e2; cases e2
    | own q' => rw [q'] at e2; unfold CodeO at e2; cases e2
    | tup q' _ => rw [q'] at e2; unfold CodeO at e2; cases e2
    | tab q' _ _ => rw [q'] at e2; unfold CodeO at e2; cases e2
    | tabF q' => rw [q'] at e2; unfold CodeO at e2; cases e2
section
variable {X : Cx} {Z : WX} {x a p : Str} {c0 P : Addr} {k m j : Nat} {i0 : Int} {jj : Nat} {cpos : Pos} {TT : LT} {args : Arguments} {body : Expr} {scope : Scope} {pp lpos pos : Pos} {tb : DE'}
theorem de_lamD {is : List Nat} (c : CalL X.prog X.w X.K X.mg X.base k x a TT) (B : TabB X.base X.mg c0 P) (own : X.env.code = .ref c0) (hr : Room j X.A) (L : LamD X.N X.env.scope scope p) (dfl : args.defaults = [.Constant (.int i0) jj cpos]) (kw : args.kw_defaults = [])
    (binds : ∀ (q : Str) (cl : List (Str × Addr)) (td : Addr) (u doc pm cv ctv : Value), ∃ kk : Option (Array Value) → Sem (List (Str × Value)), bindArgs (PySem.W.kdv_fn "<lambda>" q args (.expr body) scope cl (.ref td) doc pm cv ctv) ⟨[], []⟩ = seqItems? (.ref td) >>= kk ∧ kk (some [u].toArray) = pure [(p, u)])
    (hbody : ∀ (A : Around) (outer : List Env) (s : Shared) (H : Hp) (E : XK) (f c' : Addr), Room m (A.deeper (lamEnv X scope s.heap.objs.size f c')) → DE (lamCx X A outer s H E scope f c') (fun cls d _ H' => E cls d H') body tb)
    {q : Str} (hq : X.env.qual ++ "<lambda>" = q := by rfl) (hk : k + 1 ≤ j := by decide) (hm : m + 2 ≤ j := by decide) (hg : Gl X x := by rfl) (hdb : (x == ("__debug__" : Str)) = false := by decide) (hd : (a == ("__debug__" : Str)) = false := by decide) (hcd : (a == ("__classdict__" : Str)) = false := by decide) :
    DE X Z (.Call (.Name x pp) [.Lambda args body scope lpos] [] pos) (dLam P q is TT tb) := by
  subst hq
  obtain ⟨g, st, fd, N, F, sc, h0N, hva, hmg, hkp, hb, giv⟩ := c
  obtain ⟨oc, od, kV, doc0, pm, an, cdv, ct, osl, rfl, lk, hcg⟩ := F.ex
  refine ⟨fun pins s σ H Q I ⟨ω, S, Qd, at0, ⟨hS, hcap, ht⟩, fi⟩ => ?_⟩
  obtain ⟨ws, hws⟩ := Option.isSome_iff_exists.mp hcap
  obtain ⟨vs, hvs, rvs⟩ := cap_rel at0.rs hws
  obtain ⟨ps, t0⟩ : ∃ ps, Tab0 H P (X.env.qual ++ "<lambda>") ps := by
    cases at0.rel _ _ hS with
    | tab h1 h2 h3 => exact ⟨_, h1, h2, fun pos cv hcv => let ⟨c, e1, e2, _⟩ := h3 pos cv hcv; ⟨c, e1, e2⟩⟩
  refine wpAny_Call_Name_kw (ld_glob I hg hmg ?_ hdb)
  refine PySem.W.callWith_K (h₀ := X.base) I.ok.mod.kin hkp ?_ (by rfl) (by rfl)
  show wpAny _ _ (spliced ((false, eval (.Lambda args body scope lpos) X.env) :: backTo pos (starEach [] X.env))) _ _ s
  refine Calls.spliced_cons (lam_newD I B own t0 dfl kw (L.has I.ok) fun f c' td u pm' ctv doc H1 s' I1 gr hf htd hfn htn hfr htr hco => ?_)
  refine Calls.spliced_nil ⟨I1.kIn, ?_⟩
  obtain ⟨x1, r1⟩ := gr.nx at0.rel hS
  have rl : RW X.K S H1 (.lam f c' (X.env.qual ++ "<lambda>") vs ws) (.ref f) := .lam hco (code_not_sto r1 hco) (RWs.mono x1 rvs)
  have hr1 : Room (j - 1 + 1) X.A := hr.mono (by omega)
  have rc : codeAny (model X.prog X.w) X.A (.call (.ref g) ⟨[.ref f], []⟩) (CR C8.CX0 X.stack X.prog X.w H1 s' Q C8.E0) s' := by
    refine LamX.run_ofS (N := N) (ps := [a]) (us := [.ref f]) (vs := [.ref f]) lk hcg sc hr1 I1.env0 (hb s' [.ref f] I1.kIn rfl) (.cons rfl .nil) rfl fun hr' => ?_
    have act : ActOk (cxOf CX0 X.prog X.w X.K X.mg X.base N x (defScope st) g cdv X.A X.stack s' H1 C8.E0) a f c' (X.env.qual ++ "<lambda>") vs ws (fun Ed S' Q' => tb ⟨capt 0 is ω.s, fun c fs _ S'' => Ed c fs S''⟩ S' Q') := by
      intro W pn xe p1 p2 tk
      refine ⟨fun pinsZ sZ σZ HZ QZ IZ h => ?_⟩
      obtain ⟨ωZ, SZ, QdZ, aZ, ⟨h0, ht2⟩, fiZ⟩ := h
      obtain ⟨v0, hs0, rl2⟩ := aZ.rs.at' 0 _ h0
      cases rl2 with
      | lam hcZ hnZ rwsZ =>
      refine wpAny_Call_Name_kw (thn ((pe_var (pos := p1) (i := 0) h0N hva hd hcd).run pinsZ sZ σZ HZ (fun v H' => v = .ref f ∧ H' = HZ) IZ ⟨.ref f, hs0, rfl, rfl⟩) fun u1 s1 ⟨v, H2, I2, r2, q2⟩ => ?_)
      obtain ⟨ev, eH⟩ := q2
      subst ev eH
      obtain rfl : u1 = Value.ref f := r2
      have isF := I2.base.keep f _ hf hfn hfr (fun z => nomatch (show f ∈ ([] : List Addr) from z))
      have isT := I2.base.keep td _ htd htn htr (fun z => nomatch (show td ∈ ([] : List Addr) from z))
      refine PySem.W.callWith_F0 ⟨_, _, _, _, isF⟩ ?_
      have un : Un (frs X.stack) [] H1 H2 s'.heap s1.heap := I2.base
      obtain ⟨⟨oc2, vs2, t2, hoc, hdc, hvc⟩, _, _⟩ := I2.hok c' _ hcZ
      obtain ⟨kk, bd1, bd2⟩ := binds (X.env.qual ++ "<lambda>") (cloFrom X.env.cells scope.names []) td u doc pm' (.ref c') ctv
      have bt : BindsTo s1 (PySem.W.kdv_fn "<lambda>" (X.env.qual ++ "<lambda>") args (.expr body) scope (cloFrom X.env.cells scope.names []) (.ref td) doc pm' (.ref c') ctv) ⟨[], []⟩ [(p, u)] := BindsTo.of_defaults rfl isT rfl bd1 bd2
      have callee : codeAny (model X.prog X.w) (X.A.deeper (envOfC x (defScope st) s'.heap.objs.size g cdv)) (.call (.ref f) ⟨[], []⟩)
          (CR (L2.CX X.prog X.w) (envOfC x (defScope st) s'.heap.objs.size g cdv :: X.stack) X.prog X.w H2 s1 QZ (fun cls d H' => W cls d σZ H')) s1 := by
        refine PySem.W.kla_callFunE hr'.depth isF rfl L.co L.gen rfl ⟨c', oc2, vs2, t2, rfl, hoc, hdc, hvc⟩ (bt _ _ _ _ ?_)
        refine wpAny_newFunctionEnv (fun y hy => (L.own y hy).1) (fun y hy => by rw [List.mem_singleton.mp hy]; exact L.par) (fun h₁ hns hsb => ⟨I2.nolimit.fresh _ hsb, ?_⟩) L.kind
        show codeAny _ _ (.expr body (lamEnv X scope s1.heap.objs.size f c')) _ _
        have stays : ∀ b o, s1.heap.get? b = some o → h₁.get? b = some o := fun b o e =>
          hsb.extBut b o (Nat.ne_of_lt (Heap.lt_size e)) (Heap.get?_push_of_some _ e)
        have J := lam_startD (A := X.A.deeper (envOfC x (defScope st) s'.heap.objs.size g cdv)) (outer := envOfC x (defScope st) s'.heap.objs.size g cdv :: X.stack) (E := fun cls d H' => W cls d σZ H') (f := f) (c' := c') (tk := s1.toks + [(p, u)].length) I1 L I2.env0 hr'.hd un hns stays
        have within := (hbody (X.A.deeper (envOfC x (defScope st) s'.heap.objs.size g cdv)) (envOfC x (defScope st) s'.heap.objs.size g cdv :: X.stack) s1 H2 (fun cls d H' => W cls d σZ H') f c' (Room.deeper (hr'.mono (show m + 1 ≤ j - 1 by omega)) _)).run [] _ σ H2 QZ J
          ⟨⟨capt 0 is ω.s, fun c fs _ S'' => ωZ.ex c fs ωZ.s S''⟩, SZ, QdZ, ⟨aZ.rel, RS.cap at0.rs.len hws hvs rwsZ, fun c fs l S' σ' H' d x' r' _ xr e => aZ.fx c fs ωZ.s S' σZ H' d x' r' (aZ.rs.mono x') xr e⟩, ht2, fiZ⟩
        refine PySem.W.kla_codeExpr (wpAny_mono within (fun v s3 got => ?_) fun e s3 got => got)
        obtain ⟨w', H', J', rv, q'⟩ := got
        exact ⟨w', H', J'.os, J'.bare, J'.base, J'.hok, rv, q'⟩
      refine wpAny_call (codeAny_mono callee fun res s2 got => ?_)
      cases res with
      | error e => exact tk e s2 (XE.of_call I2 (fun _ _ _ z => z) got)
      | ok fl =>
        cases fl with
        | ret u => exact I2.after got
        | next => exact False.elim got
        | brk => exact False.elim got
        | cont => exact False.elim got
    obtain ⟨t', ht', hq'⟩ := giv cdv X.A X.stack s' H1 f c' (X.env.qual ++ "<lambda>") vs ws _ S Qd Q (hr'.mono (by omega)) act r1 rl ht (fun w S' v H' x' r' q' h' => fi w S' v H' (x1.trans x') r' q' h')
    exact ⟨t', ht'.nox, hq'⟩
  refine wpAny_call (codeAny_mono rc fun res s2 got => ?_)
  cases res with
  | error e => exact (show False from got).elim
  | ok fl =>
    cases fl with
    | ret u => exact I1.after got
    | next => exact False.elim got
    | brk => exact False.elim got
    | cont => exact False.elim got
end
end DL
namespace DL
open PySem PySem.Spec PyProof.Rows L2
def dMthXP (C : Addr) (m : Str) (n nk : Nat) (ix : List Nat) (dsp : DSp) (us : List W) (to : DE') (t tk : DA') : DE' := fun ω S Q => to ω S fun w S1 => insOk S1 C m w ∧ t ω S1 fun ws S2 => tk ω S2 fun zs S3 => ws.length = n ∧ zs.length = nk ∧ dsp (pm ix (w :: ws ++ zs ++ us)) S3 Q fun c fs S' => ω.ex c fs ω.s S'
section
variable {X : Cx} {Z : WX} {e o : Expr} {es : List Expr} {t tk : DA'} {to : DE'} {C : Addr} {m : Str} {pos apos p : Pos} {k j n nk : Nat} {dsp : DSp} {us : List W} {ks : List Str} {ix : List Nat} {kws : List Keyword}
theorem de_mthXP {pl : Sem Bool} (c : Cls X.K C) (d : MthXK X.prog X.w X.K X.mg X.base k C m n ks ix dsp us) (ht0 : Takes X Z) (hr : Room j X.A) (ho : DE X Z o to) (ha : DA X Z (e :: es) t) (hkw : DKw X Z kws tk) (hnk : ks.length = nk := by rfl) (hk : k ≤ j := by decide)
    (hall : (backToKw pos (keywordEach kws X.env)).all (·.1.isSome) = true := by rfl) (hks : (backToKw pos (keywordEach kws X.env)).filterMap (·.1) = ks := by rfl) (hst : starEach (e :: es) X.env = (false, eval e X.env) :: starEach es X.env := by rfl)
    (hpl : ((backTo pos (starEach (e :: es) X.env)).any (·.1) || (backToKw pos (keywordEach kws X.env)).any (·.1.isNone)) = false := by rfl)
    (ht : eval (.Call (.Attribute o m apos) (e :: es) kws pos) X.env = (do
      let ov ← eval o X.env
      standAt apos.atName
      let (f, first) ← holding [ov] (getMethod ov m pl)
      callWith pos f first (backTo pos (starEach (e :: es) X.env)) (backToKw pos (keywordEach kws X.env))) := by rfl) :
    DE X Z (.Call (.Attribute o m apos) (e :: es) kws pos) (dMthXP C m n nk ix dsp us to t tk) := by
  obtain ⟨f, fd, ps, dvs, ds, F, hm, hb, hu⟩ := d
  subst hnk
  refine ⟨fun pins s σ H Q I ⟨ω, S, Qd, a, h, fi⟩ => ?_⟩
  refine PySem.W.methodCall_KW (pl := pl) (thn (ho.run pins s σ H (fun v H1 => ∃ b dx gs w S1, v = .ref b ∧ H1 b = some (.ins C dx gs) ∧ gs.lookup m = none ∧ Nx S H S1 H1 ∧ Rel X.K S1 H1 ∧ RW X.K S1 H1 w v ∧ t ω S1 fun ws S2 => tk ω S2 fun zs S3 => ws.length = n ∧ zs.length = ks.length ∧ dsp (pm ix (w :: ws ++ zs ++ us)) S3 Qd fun c fs S' => ω.ex c fs ω.s S') I ?_) fun u s1 ⟨x, H1, I1, rx, b, dx, gs, w, S1, ex, eb, l, x1, r1, q1, q⟩ => ?_) ht
  · refine ⟨ω, S, _, a, h, fun w S1 v H1 x1 r1 q1 ⟨hi, h1⟩ => ?_⟩
    obtain ⟨b, dx, gs, rfl, hb, hl⟩ := insOk_rel r1 q1 hi
    exact ⟨b, dx, gs, w, S1, rfl, hb, hl, x1, r1, q1, h1⟩
  · subst ex
    obtain rfl : u = Value.ref b := rx
    refine getmeth_ok I1 eb c hm l ?_
    refine PySem.W.callWith_KW (first := [.ref b]) (h₀ := X.base) I.ok.mod.kin hm.kp hall (thn (ha.run pos pins s1 σ H1 (fun vs H2 => ∃ ws S2, Nx S1 H1 S2 H2 ∧ Rel X.K S2 H2 ∧ RWs X.K S2 H2 ws vs ∧ tk ω S2 fun zs S3 => ws.length = n ∧ zs.length = ks.length ∧ dsp (pm ix (w :: ws ++ zs ++ us)) S3 Qd fun c fs S' => ω.ex c fs ω.s S') I1 ⟨ω, S1, _, a.to x1 r1, q, fun ws S2 vs H2 x2 r2 q2 h2 => ⟨ws, S2, x2, r2, q2, h2⟩⟩) fun uv s2 ⟨vs, H2, I2, r, ws, S2, x2, r2, q2, h2⟩ => ?_) hpl hst
    refine thn (hkw.run pos pins s2 σ H2 (fun vz H3 => ∃ zs S3, Nx S2 H2 S3 H3 ∧ Rel X.K S3 H3 ∧ RWs X.K S3 H3 zs vz ∧ ws.length = n ∧ zs.length = ks.length ∧ dsp (pm ix (w :: ws ++ zs ++ us)) S3 Qd fun c fs S' => ω.ex c fs ω.s S') I2 ⟨ω, S2, _, a.to (x1.trans x2) r2, h2, fun zs S3 vz H3 x3 r3 q3 ⟨l1, l2, h3⟩ => ⟨zs, S3, x3, r3, q3, l1, l2, h3⟩⟩) fun us' s3 ⟨vz, H3, I3, rz, zs, S3, x3, r3, q3, l1, l2, h3⟩ => ⟨I3.kIn, ?_⟩
    rw [hks]
    exact run_fnNX (us := .ref b :: uv) (vs := .ref b :: vs) F (hr.mono hk) hb ht0 I3 (.cons rfl r) rz (by rw [List.length_cons, ← q2.len, l1]) (by rw [← q3.len]; exact l2) (a.to (x1.trans (x2.trans x3)) r3) (RWs.pm (((RWs.cons (q1.mono (x2.trans x3)) (q2.mono x3)).app q3).app (hu _ _))) h3 fun w' S' v' H' x' r' q' h' => fi _ _ _ _ (x1.trans (x2.trans (x3.trans x'))) r' q' h'
end
theorem make_ground {c : Addr} {ω : Om} {S : Sto} {Q : WQ} {t : DA'} {ps rs} (N : List W → Sto → Prop) (ht : ∀ Q' : List W → Sto → Prop, (∀ ws S1, N ws S1 → Q' ws S1) → t ω S Q') (h : ∀ ws S1, N ws S1 → ∃ ss, ws = [placesW ps, roadsW rs, stationsW ss] ∧ SsOk ps ss ∧ Q (gW c ps rs ss) S1) (hp : PsOk ps) (hr : RsOk ps rs) : ξd (dMake c (sp_Ground__init_ c) t) ω S Q := by
  refine ht _ fun ws S1 hn => ?_
  obtain ⟨ss, rfl, hs, q⟩ := h ws S1 hn
  intro x dx hx hd hne
  refine ⟨x, dx, ps, rs, ss, rfl, up_same, hp, hr, hs, rfl, ?_⟩
  exact frzI hx hd hne q
theorem stoT_nt {ps : List (Addr × Str)} : NoTup (stoT ps) := fun a qs h => by
  obtain ⟨p, _, _, e⟩ := stoT_at h
  cases e
theorem asgTB_go {T : Tg} {te : DE'} {D : Out} {ω : Om} {S : Sto} (N : W → Sto → Prop) (h : ∀ Q : WQ, (∀ w S1, N w S1 → Q w S1) → te ω S Q) (k : ∀ w S1, N w S1 → ∃ ω', ζt T w ω = some ω' ∧ D.nx ω' S1) : ζs T te D ω S := by
  refine h _ fun w S1 n => ?_
  obtain ⟨ω', e, k⟩ := k w S1 n
  rw [e]
  exact k
theorem lstM_go {t : DA'} {ω : Om} {S : Sto} {Q : WQ} (h : t ω S fun ws S1 => ws.length ≤ 1000000 ∧ ∀ p, S1 p = none → Q (.ref p) (up S1 p (.lst ws))) : ζn t ω S Q := h
theorem orT_go {t1 t2 : DT'} {ω : Om} {S : Sto} {Q : Bool → Sto → Prop} (N M : Sto → Prop) (h1 : ∀ Q : Bool → Sto → Prop, (∀ S1, N S1 → Q false S1) → t1 ω S Q) (h2 : ∀ S1, N S1 → ∀ Q : Bool → Sto → Prop, (∀ S2, M S2 → Q false S2) → t2 ω S1 Q) (q : ∀ S2, M S2 → Q false S2) : dOr t1 t2 ω S Q := by
  refine h1 _ fun S1 n => ?_
  show (if false = true then Q true S1 else t2 ω S1 Q)
  rw [if_neg Bool.false_ne_true]
  exact h2 S1 n _ q
theorem ifF_go {c : DT'} {t u : DS'} {D : Out} {ω : Om} {S : Sto} (M : Sto → Prop) (h : ∀ Q : Bool → Sto → Prop, (∀ S2, M S2 → Q false S2) → c ω S Q) (k : ∀ S2, M S2 → u D ω S2) : ζZ c t u D ω S := by
  refine h _ fun S2 m => ?_
  show (if false = true then t D ω S2 else u D ω S2)
  rw [if_neg Bool.false_ne_true]
  exact k S2 m
theorem notTru_go {te : DE'} {ω : Om} {S : Sto} {Q : Bool → Sto → Prop} (h : ∀ Q' : WQ, (∀ S1, Q false S1 → Q' (.bl true) S1) → te ω S Q') : ζQ (ζO te) ω S Q := h _ fun _ x => x
theorem all_bl (n : Nat) : bls (List.replicate n (W.bl true)) = some (List.replicate n true) := by
  induction n with
  | zero => rfl
  | succ n ih => rw [List.replicate_succ, bls, ih]; rfl
theorem ne_of {S : Sto} {a b : Addr} {o : WO} (h : S a = none) (k : S b = some o) : a ≠ b := fun e => by rw [e, k] at h; cases h
def plN : W → W
  | .tup (n :: _) => n
  | _ => .non
theorem testE_go {te : DE'} {ω : Om} {S : Sto} {Q : Bool → Sto → Prop} (h : te ω S fun w S1 => match w with
  | .bl b => Q b S1
  | _ => False) : ζj te ω S Q := h
section
variable {C NP : Addr} {ps : List (Str × Int)} {rs : List Rd4} {ss : List Str} {u v : W} {x : Str} {S : Sto} {E' : XW} {Q : WQ}
theorem tm1 (P : PsOk ps) (R : RsOk ps rs) (hu : Odd u) (hv : Pl v = true) (he : E' (.ref NP) (some [("place", u)]) S) : sp_Ground_minutes C NP [gW C ps rs ss, u, v, .int 0, .non] S Q E' :=
  ⟨ps, rs, ss, u, v, 0, none, rfl, hu.pl, hv, P, R, fun _ => he, fun e => (by rw [hu.no_p] at e; cases e), fun e => (by rw [hu.no_p] at e; cases e)⟩
theorem tm2 (P : PsOk ps) (R : RsOk ps rs) (hx : isP ps (.str x) = true) (hu : Odd u) (he : E' (.ref NP) (some [("place", u)]) S) : sp_Ground_minutes C NP [gW C ps rs ss, .str x, u, .int 0, .non] S Q E' :=
  ⟨ps, rs, ss, .str x, u, 0, none, rfl, rfl, hu.pl, P, R, fun e => (by rw [hx] at e; cases e), fun _ _ => he, fun _ e => (by rw [hu.no_p] at e; cases e)⟩
theorem tm0 (P : PsOk ps) (R : RsOk ps rs) (hx : isP ps (.str x) = true) (h1 : x ∈ ps.map (·.1)) (hq : Q (.int 0) S) : sp_Ground_minutes C NP [gW C ps rs ss, .str x, .str x, .int 0, .non] S Q E' :=
  ⟨ps, rs, ss, .str x, .str x, 0, none, rfl, rfl, rfl, P, R, fun e => (by rw [hx] at e; cases e), fun _ e => (by rw [hx] at e; cases e), fun _ _ => ⟨x, x, rfl, rfl, h1, h1, fun f D => by rw [D.at0]; exact hq⟩⟩
theorem tr1 {k : Int} (hu : Odd u) (hv : Pl v = true) (he : E' (.ref NP) (some [("place", u)]) S) : sp_Ground_road C NP [gW C ps rs ss, u, v, .int k, .non] S Q E' :=
  ⟨ps, rs, ss, u, v, k, none, rfl, hu.pl, hv, fun _ => he, fun e => (by rw [hu.no_p] at e; cases e)⟩
theorem tr2 {k : Int} (hx : isP ps (.str x) = true) (hu : Odd u) (he : E' (.ref NP) (some [("place", u)]) S) : sp_Ground_road C NP [gW C ps rs ss, .str x, u, .int k, .non] S Q E' :=
  ⟨ps, rs, ss, .str x, u, k, none, rfl, rfl, hu.pl, fun e => (by rw [hx] at e; cases e), fun _ => ⟨hu.no_p ps, he⟩⟩
theorem tk1 (hu : Odd u) (he : E' (.ref NP) (some [("place", u)]) S) : sp_Ground_risk C NP [gW C ps rs ss, u] S Q E' := ⟨ps, rs, ss, u, rfl, hu.pl, hu.no_p ps, he⟩
theorem ts1 (hu : Odd u) (he : E' (.ref NP) (some [("place", u)]) S) : sp_Ground_station_of C NP [gW C ps rs ss, u, .int 0, .non] S Q E' := ⟨ps, rs, ss, u, 0, none, rfl, hu.pl, hu.no_p ps, he⟩
end
def sk_Ground_minutes (C : Addr) : DSp := fun ws S Q _ => ∃ ps rs ss x, ws = [gW C ps rs ss, .str x, .str x, .int 0, .non] ∧ PsOk ps ∧ RsOk ps rs ∧ isP ps (.str x) = true ∧ x ∈ ps.map (·.1) ∧ Q (.int 0) S
theorem calm_Ground_minutes {C NP : Addr} : ∀ ws S Q E, sk_Ground_minutes C ws S Q E → sp_Ground_minutes C NP ws S Q fun _ _ _ => False := by
  rintro ws S Q E ⟨ps, rs, ss, x, rfl, P, R, h1, h2, q⟩
  exact tm0 P R h1 h2 q
local macro_rules | `(tactic| array_get_dec) => `(tactic| simp only [↓ζE,↓ζF,↓dC,↓dOp,↓dUn,↓dI,↓dI0,↓ζG,↓ζH,↓ζI,↓ζJ,↓ζK,↓ζL,↓ζM,↓dEq,↓dNe,↓dLt,↓dLe,↓dGt,↓dGe,↓ζN,↓ζO,↓ζj,↓ζc,↓ζP,↓dOr,↓ζQ,↓ζk,↓ζl,↓dIf,↓ζR,↓ζm,↓ζS,↓ζT,↓ζn,↓dCB,↓ζU,↓ζV,↓ζo,↓ζp,↓ζW,↓ζb,↓ζa,↓ζd,↓ζq,↓ζX,↓ζr,↓ζY,↓ζZ,↓ξa,↓ζs,↓ζt,↓ζe,↓Om.set,↓ζu,↓dIx,↓dNo,↓ζv,↓dSl,↓ξb,↓dBM,↓ξc,↓ζg,↓dIs,↓ζw,↓ζx,↓ζy,↓ξd,↓ξe,↓ξf,↓ζz,↓ξg,↓ζA,↓ζB,↓ζC,↓ζD,κa,κb,κc,κd,κe,κf,κg,κh,κi,↓ζh,↓wp,↓wps,↓dIn,↓ζi,↓dDg,κj,κk,κl,κm,κn,κo,κp,κq,κr,κs,κt,κu,κv,κw,κx,κy,κz,κA,κB,κC,κD,κE,κF,κG,κH,κI,κJ,κK,κL,κM,κN,κO,κP,κQ,κR,κS,κT,κU,κV,κW,κX,κY,κZ,ιa,ιb,ιc,ιd,ιe,ιf,ιg,ιh,ιi,ιj,ιk,ιl,ιm,ιn,ιo,ιp,ιq,ιr,ιs,ιt,ιu,ιv,ιw,ιx,ιy,ιz])
theorem allIs_go {i j k : Nat} {u : W} {p : Addr} {m : Nat} {ω : Om} {S : Sto} {Q : WQ} (hi : ω.s[i]? = some (some (.ref p))) (hT : ∃ ω2, ζt (.nm k) (.lst [u]) (wp ω [k]) = some ω2 ∧ ω2.s[k]? = some (some (.lst [u])) ∧ ω2.s[j]? = some (some u)) (hS : S p = some (.lst (List.replicate m (.lst [u])))) (hm : m ≤ 100) (hu : Odd u) (q : Q (.bl true) S) : dCB ζW (ζm (dLc (ζD (ζF i)) (.nm k) dYes (ζu sp_law_is (ζm (ζF k) (ζm (ζF j) ζR))) [k]) ζR) ω S Q := by
  refine cb_go (consE_go ?_)
  refine lcMs (w := .ref p) (xs := List.replicate m (.lst [u])) (fun Q' h => var_go hi h) (seqW_ref hS) (fun _ => .bl true) (by rw [List.length_replicate]; omega) (fun p0 acc h0 => seqW_ref (by rw [up_ne (ne_of h0 hS).symm]; exact hS)) (fun w hw => ?_) (nil_go ?_)
  · obtain rfl := List.eq_of_mem_replicate hw
    obtain ⟨ω2, e1, e2, e3⟩ := hT
    exact ⟨ω2, e1, fun p0 acc h0 Qe h => call_go (consV_go e2 (consV_go e3 (nil_go ⟨u, rfl, hu, h⟩)))⟩
  · simp only [ζW]
    (array_get_dec)
    rw [List.map_const', all_bl]
    (array_get_dec)
    rw [show (List.replicate (List.replicate m (W.lst [u])).length true).all id = true from List.all_eq_true.mpr fun x hx => (List.eq_of_mem_replicate hx)]
    exact q
abbrev s_law : Stmt := topS 54
abbrev N_law : List Str := ["_law_script", "_law_k", "_law_bag_here", "_law_parts", "_law_ground_here", "_law_names_here", "_law_turn", "_law_one", "_law_other", "_law_good", "_law_told_here", "_law_name", "_law_risk", "_law_row"]
theorem sc_law : FnScope N_law ["_law_script"] (defScope s_law) := ⟨rfl, rfl, rfl, by decide +kernel, rfl, by decide +kernel, by decide +kernel⟩
theorem st_law {x0 : W} : ζh N_law [x0] = [some x0, none, none, none, none, none, none, none, none, none, none, none, none, none] := rfl
def td_law (c_Ground c_NoPlace tt_law : Addr) : DS' :=
    (ζX (dFor (ζA (ζm (dCB ζo (ζm (dC (.int 2)) (ζm (dCB ζp (ζm (dC (.int 5)) (ζm (dCB ζU (ζm (ζF 0) ζR)) ζR))) ζR))) ζR)) (.nm 1)
      (ζX (ξa 2 (ζu sp_law_bag (ζm (ζF 0) (ζm (ζF 1) ζR))))
      (ζX (ξa 3 (ζu sp_law_ground (ζm (ζF 2) ζR)))
      (ζX (ξa 4 (ξd (dMake c_Ground (sp_Ground__init_ c_Ground) (ζm (dOp dIx (ζF 3) (dC (.int 0))) (ζm (dOp dIx (ζF 3) (dC (.int 1))) (ζm (dOp dIx (ζF 3) (dC (.int 2))) ζR))))))
      (ζX (ξa 5 (dLc (ζD (dOp dIx (ζF 3) (dC (.int 0)))) (.tp ((.nm 11) :: ((.nm 12) :: []))) dYes (ζF 11) [11, 12]))
      (dFor (ζA (ζm (dC (.int 6)) ζR)) (.nm 6)
        (ζX (ζs (.tp ((.nm 7) :: ((.nm 8) :: []))) (ζS (ζm (ζu sp_law_odd (ζm (ζF 2) (ζm (ζF 5) ζR))) (ζm (ζu sp_law_odd (ζm (ζF 2) (ζm (ζF 5) ζR))) ζR))))
        (ζX (ξa 9 (dOp dIx (ζF 5) (ζu sp_law_take (ζm (ζF 2) (ζm (dCB ζU (ζm (ζF 5) ζR)) ζR)))))
        (ζX (ξa 10 (ζn (ζm (dLam tt_law "law.<locals>.<lambda>" [4, 7, 9] (sp_law_told c_NoPlace) (dMthX c_Ground "minutes" (sp_Ground_minutes c_Ground c_NoPlace) [.int 0, .non] (ζF 4) (ζm (ζF 7) (ζm (ζF 9) ζR)))) (ζm (dLam tt_law "law.<locals>.<lambda>" [4, 7, 8] (sp_law_told c_NoPlace) (dMthX c_Ground "minutes" (sp_Ground_minutes c_Ground c_NoPlace) [.int 0, .non] (ζF 4) (ζm (ζF 7) (ζm (ζF 8) ζR)))) ζR))))
        (ζX (ζr (dBM ξc (ζF 10) (ζm (dLam tt_law "law.<locals>.<lambda>" [4, 7, 8] (sp_law_told c_NoPlace) (dMthXP c_Ground "road" 2 1 [0, 1, 2, 3, 5] (sp_Ground_road c_Ground c_NoPlace) [.int 0, .non] (ζF 4) (ζm (ζF 7) (ζm (ζF 8) ζR)) (ζm (dC (.int 8)) ζR))) ζR)))
        (ζX (ζr (dBM ξc (ζF 10) (ζm (dLam tt_law "law.<locals>.<lambda>" [4, 7] (sp_law_told c_NoPlace) (dMthX c_Ground "risk" (sp_Ground_risk c_Ground c_NoPlace) [] (ζF 4) (ζm (ζF 7) ζR))) ζR)))
        (ζX (ζr (dBM ξc (ζF 10) (ζm (dLam tt_law "law.<locals>.<lambda>" [4, 7] (sp_law_told c_NoPlace) (dMthX c_Ground "station_of" (sp_Ground_station_of c_Ground c_NoPlace) [.int 0, .non] (ζF 4) (ζm (ζF 7) ζR))) ζR)))
        (ζX (ζZ (ζQ (ζO (dCB ζW (ζm (dLc (ζD (ζF 10)) (.nm 13) dYes (ζu sp_law_is (ζm (ζF 13) (ζm (ζF 7) ζR))) [13]) ζR)))) (ζY (dC (.bl false))) ζq)
        (ζX (ξa 10 (ζn (ζm (dLam tt_law "law.<locals>.<lambda>" [4, 8, 9] (sp_law_told c_NoPlace) (dMthX c_Ground "minutes" (sp_Ground_minutes c_Ground c_NoPlace) [.int 0, .non] (ζF 4) (ζm (ζF 9) (ζm (ζF 8) ζR)))) (ζm (dLam tt_law "law.<locals>.<lambda>" [4, 8, 9] (sp_law_told c_NoPlace) (dMthX c_Ground "road" (sp_Ground_road c_Ground c_NoPlace) [.int 0, .non] (ζF 4) (ζm (ζF 9) (ζm (ζF 8) ζR)))) ζR))))
        (ζZ (dOr (ζQ (ζO (dCB ζW (ζm (dLc (ζD (ζF 10)) (.nm 13) dYes (ζu sp_law_is (ζm (ζF 13) (ζm (ζF 8) ζR))) [13]) ζR)))) (ζj (dOp dNe (dMth c_Ground "minutes" (sk_Ground_minutes c_Ground) [.int 0, .non] (ζF 4) (ζm (ζF 9) (ζm (ζF 9) ζR))) (dC (.int 0))))) (ζY (dC (.bl false))) ζq)))))))))))))))
    (ζY (dC (.bl true))))
def sp_law (C NP tt : Addr) : DSp := fun ws S Q _ => ∃ ns : List Int, ws = [.scr ns] ∧ ns.length ≤ 63 ∧ S tt = some (.tab "law.<locals>.<lambda>") ∧ NoTup S ∧ ∀ S', Q (.bl true) S'
theorem len_law {C NP tt ws S Q E} (h : sp_law C NP tt ws S Q E) : ws.length = 1 := by obtain ⟨_, rfl, _⟩ := h; rfl
theorem hd_law (c_Ground c_NoPlace tt_law : Addr) (ws S Q E) (h : sp_law c_Ground c_NoPlace tt_law ws S Q E) : td_law c_Ground c_NoPlace tt_law { nx := fun _ S' => frzQ Q .non S', rt := frzQ Q } ⟨ζh N_law ws, XF⟩ S := by
  obtain ⟨ns, rfl, hl, htt, nt, q⟩ := h
  simp only [st_law, td_law]
  refine seq_go ?_
  refine forRN (fun n S1 => S1 = S ∧ 2 ≤ n ∧ n ≤ 5) (fun Q' h => ?_) ?_
  · (array_get_dec)
    refine h _ _ ⟨rfl, ?_, ?_⟩ <;> (repeat' split) <;> omega
  rintro n S1 ⟨rfl, n1, n2⟩
  refine ⟨⟨by omega, by omega⟩, fun i ω' S' => ∃ (y1 y2 y3 y4 y5 y6 y7 y8 y9 y10 y11 y12 y13 : Option W), ω' = ⟨[some (.scr ns), y1, y2, y3, y4, y5, y6, y7, y8, y9, y10, y11, y12, y13], XF⟩ ∧ S' tt_law = some (.tab "law.<locals>.<lambda>"), ⟨_, _, _, _, _, _, _, _, _, _, _, _, _, rfl, htt⟩, ?_, ?_⟩
  · rintro i ω' S' hi ⟨y1, y2, y3, y4, y5, y6, y7, y8, y9, y10, y11, y12, y13, rfl, ht⟩
    refine ⟨_, rfl, ?_⟩
    refine seq_go (setN_go (fun w S1 => ∃ b, w = .ref b ∧ b ≠ tt_law ∧ Bg S1 b ∧ S1 tt_law = some (.tab "law.<locals>.<lambda>")) (fun Q h => ?_) ?_)
    · (array_get_dec)
      refine ⟨ns, _, rfl, by omega, by omega, fun p hp g s ok => ?_⟩
      have pn : p ≠ tt_law := ne_of hp ht
      exact h _ _ ⟨p, rfl, pn, Bg.up ok, by rw [up_ne pn.symm]; exact ht⟩
    rintro _ S1 ⟨b, rfl, bne, B1, t1⟩
    (((try unfold ζq); dsimp only; refine seq_go ?_))
    refine setN_go (fun w S2 => ∃ ps rs ss, w = .tup [placesW ps, roadsW rs, stationsW ss] ∧ PsOk ps ∧ RsOk ps rs ∧ SsOk ps ss ∧ Bg S2 b ∧ S2 tt_law = some (.tab "law.<locals>.<lambda>")) (fun Q h => ?_) ?_
    · (array_get_dec)
      exact ⟨b, rfl, B1, fun ps rs ss P R SS g s ok => h _ _ ⟨ps, rs, ss, rfl, P, R, SS, Bg.up ok, by rw [up_ne bne.symm]; exact t1⟩⟩
    rintro _ S2 ⟨ps, rs, ss, rfl, P, R, SS, B2, t2⟩
    (((try unfold ζq); dsimp only; refine seq_go ?_))
    refine set_go (gW c_Ground ps rs ss) S2 (fun Q h => ?_) ?_
    · refine make_ground (ps := ps) (rs := rs) (fun ws S1 => ws = [placesW ps, roadsW rs, stationsW ss] ∧ S1 = S2) (fun Q' h' => by (array_get_dec); exact h' _ _ ⟨rfl, rfl⟩) (fun ws S1 ⟨e, e2⟩ => ⟨ss, e, SS, by rw [e2]; exact h⟩) P R
    obtain ⟨nm, hnm⟩ : ∃ nm, nm = ps.map (·.1) := ⟨_, rfl⟩
    have nl : nm.length = ps.length := by rw [hnm, List.length_map]
    have P0 := P.lo
    have P40 := P.hi
    have nok : ∀ x ∈ nm, isName (.str x) = true := fun x hx => by
      rw [hnm] at hx
      obtain ⟨y, hy, rfl⟩ := List.mem_map.mp hx
      exact (P.ok y hy).1
    (((try unfold ζq); dsimp only; refine seq_go ?_))
    refine set_go (.lst (nm.map W.str)) S2 (fun Q h => ?_) ?_
    · refine lcMs (w := placesW ps) (xs := ps.map fun p => placeW p.1 p.2) (fun Q' h => by (array_get_dec); exact h) rfl plN (by rw [List.length_map]; omega) (fun _ _ _ => rfl) (fun w hw => ?_) ?_
      · obtain ⟨y, hy, rfl⟩ := List.mem_map.mp hw
        refine ⟨_, rfl, fun p acc hp Qe h => ?_⟩
        (array_get_dec)
        exact h
      · rw [hnm, List.map_map] at h
        rw [List.map_map]
        exact h
    (((try unfold ζq); dsimp only))
    refine forR (n := 6) (fun Q' h => by (array_get_dec); exact h) ⟨by decide, by decide⟩ (fun j ω' S' => ∃ (z6 z7 z8 z9 z10 z11 z12 z13 : Option W), ω' = ⟨[some (.scr ns), some (.int (i : Nat)), some (.ref b), some (.tup [placesW ps, roadsW rs, stationsW ss]), some (gW c_Ground ps rs ss), some (.lst (nm.map W.str)), z6, z7, z8, z9, z10, z11, z12, z13], XF⟩ ∧ Bg S' b ∧ S' tt_law = some (.tab "law.<locals>.<lambda>")) ⟨_, _, _, _, _, _, _, _, rfl, B2, t2⟩ ?_ ?_
    · rintro j ω' S3 hj ⟨z6, z7, z8, z9, z10, z11, z12, z13, rfl, B3, t3⟩
      refine ⟨_, rfl, ?_⟩
      refine seq_go (asgTB_go (fun w S4 => ∃ u v, w = .tup [u, v] ∧ Odd u ∧ Odd v ∧ Bg S4 b ∧ S4 tt_law = some (.tab "law.<locals>.<lambda>")) (fun Q' h => tup_go (consE_go (call_go (consV_go rfl (consV_go rfl (nil_go ⟨b, nm, rfl, B3, nok, by omega, by omega, fun u hu g s ok => consE_go (call_go (consV_go rfl (consV_go rfl (nil_go ⟨b, nm, rfl, Bg.up ok, nok, by omega, by omega, fun v hv g2 s2 ok2 => nil_go ⟨Nat.le_of_ble_eq_true rfl, h _ _ ⟨u, v, rfl, hu, hv, Bg.up ok2, by rw [up_ne bne.symm, up_ne bne.symm]; exact t3⟩⟩⟩))))⟩)))))) ?_)
      rintro _ S4 ⟨u, v, rfl, hu, hv, B4, t4⟩
      refine ⟨_, rfl, ?_⟩
      (((try unfold ζq); dsimp only; refine seq_go ?_))
      refine setN_go (fun w S5 => ∃ x, w = .str x ∧ x ∈ nm ∧ Bg S5 b ∧ S5 tt_law = some (.tab "law.<locals>.<lambda>")) (fun Q' h => ?_) ?_
      · refine opV_go rfl (call_go (consV_go rfl (consE_go ?_)))
        (array_get_dec)
        refine ⟨b, _, rfl, B4, by rw [List.length_map]; omega, by rw [List.length_map]; omega, fun r r0 r1 g s ok => ?_⟩
        rw [List.length_map] at r1
        obtain ⟨k, rfl⟩ : ∃ k : Nat, r = (k : Int) := ⟨r.toNat, by omega⟩
        obtain ⟨x, hm, e⟩ := atI_nat (xs := nm.map W.str) (a := k) (by rw [List.length_map]; omega)
        obtain ⟨y, hy, rfl⟩ := List.mem_map.mp hm
        (array_get_dec)
        rw [e]
        exact h _ _ ⟨y, rfl, hy, Bg.up ok, by rw [up_ne bne.symm]; exact t4⟩
      rintro _ S5 ⟨x, rfl, hx, B5, t5⟩
      have hxp : x ∈ ps.map (·.1) := by rw [← hnm]; exact hx
      have hxP : isP ps (.str x) = true := isP_of (nok x hx) hxp
      (((try unfold ζq); dsimp only; refine seq_go ?_))
      refine setN_go (fun w S6 => ∃ p, w = .ref p ∧ S5 p = none ∧ S6 = up S5 p (.lst (List.replicate 2 (.lst [u])))) (fun Q' h => ?_) ?_
      · refine lstM_go (consE_go ⟨t5, rfl, fun E1 Q1 hn1 he1 => ?_⟩)
        (array_get_dec)
        refine ⟨g_ins (by decide +kernel), tm1 P R hu rfl (he1 u _ ?_)⟩
        refine consE_go ⟨t5, rfl, fun E2 Q2 hn2 he2 => ?_⟩
        (array_get_dec)
        refine ⟨g_ins (by decide +kernel), ?_⟩
        refine tm1 P R hu hv.pl (he2 u _ ?_)
        exact nil_go ⟨Nat.le_of_ble_eq_true rfl, fun p hp => h _ _ ⟨p, rfl, hp, rfl⟩⟩
      rintro _ S6 ⟨p, rfl, hp, e6⟩
      have pb : p ≠ b := by
        obtain ⟨g0, s0, eb, _⟩ := B5
        exact ne_of hp eb
      have pt : p ≠ tt_law := ne_of hp t5
      have l6 : S6 p = some (.lst (List.replicate 2 (.lst [u]))) := by rw [e6, up_same]
      have t6 : S6 tt_law = some (.tab "law.<locals>.<lambda>") := by rw [e6, up_ne pt.symm]; exact t5
      (((try unfold ζq); dsimp only; refine seq_go ?_))
      refine app_go (.lst [u]) rfl l6 (fun Q h => ⟨t6, rfl, fun E1 Q1 hn1 he1 => ?_⟩) (by simp) ?_
      · have ec : capt 0 [4, 7, 8] [some (.scr ns), some (.int (i : Nat)), some (.ref b), some (.tup [placesW ps, roadsW rs, stationsW ss]), some (gW c_Ground ps rs ss), some (.lst (nm.map W.str)), some (.int (j : Nat)), some u, some v, some (.str x), some (.ref p), z11, z12, z13] = [none, none, none, none, some (gW c_Ground ps rs ss), none, none, some u, some v, none, none, none, none, none] := rfl
        dsimp only
        simp only [dMthXP]
        (array_get_dec)
        refine ⟨g_ins (by decide +kernel), ?_⟩
        rw [ec]
        (array_get_dec)
        exact ⟨trivial, trivial, tr1 (Q := Q1) hu hv.pl (he1 u _ h)⟩
      have t7 : ∀ zs, up S6 p (.lst zs) tt_law = some (.tab "law.<locals>.<lambda>") := fun zs => by rw [up_ne pt.symm]; exact t6
      (((try unfold ζq); dsimp only; refine seq_go ?_))
      refine app_go (.lst [u]) rfl up_same (fun Q h => ⟨t7 _, rfl, fun E1 Q1 hn1 he1 => ?_⟩) (by simp) ?_
      · (array_get_dec)
        exact ⟨g_ins (by decide +kernel), tk1 (Q := Q1) hu (he1 u _ h)⟩
      rw [up_up]
      (((try unfold ζq); dsimp only; refine seq_go ?_))
      refine app_go (.lst [u]) rfl up_same (fun Q h => ⟨t7 _, rfl, fun E1 Q1 hn1 he1 => ?_⟩) (by simp) ?_
      · (array_get_dec)
        exact ⟨g_ins (by decide +kernel), ts1 (Q := Q1) hu (he1 u _ h)⟩
      rw [up_up, e6, up_up]
      obtain ⟨S8, h8⟩ : ∃ S8, S8 = up S5 p (.lst (List.replicate 2 (.lst [u]) ++ [.lst [u]] ++ [.lst [u]] ++ [.lst [u]])) := ⟨_, rfl⟩
      rw [← h8]
      have l8 : S8 p = some (.lst (List.replicate 5 (.lst [u]))) := by rw [h8, up_same]; rfl
      have t8 : S8 tt_law = some (.tab "law.<locals>.<lambda>") := by rw [h8, up_ne pt.symm]; exact t5
      have B8 : Bg S8 b := by
        obtain ⟨g0, s0, eb, ok⟩ := B5
        exact ⟨g0, s0, by rw [h8, up_ne pb.symm]; exact eb, ok⟩
      (((try unfold ζq); dsimp only; refine seq_go ?_))
      refine ifF_go (fun S9 => S9 = S8) (fun Q' hq => notTru_go fun Q3 h3 => allIs_go (u := u) (m := 5) rfl ⟨_, rfl, rfl, rfl⟩ l8 (by decide) hu (h3 _ (hq _ rfl))) fun S9 e9 => ?_
      rw [e9]
      (((try unfold ζq); dsimp only; refine seq_go ?_))
      refine setN_go (fun w S10 => ∃ p, w = .ref p ∧ S8 p = none ∧ S10 = up S8 p (.lst (List.replicate 2 (.lst [v])))) (fun Q' h => ?_) ?_
      · refine lstM_go (consE_go ⟨t8, rfl, fun E1 Q1 hn1 he1 => ?_⟩)
        (array_get_dec)
        refine ⟨g_ins (by decide +kernel), tm2 P R hxP hv (he1 v _ ?_)⟩
        refine consE_go ⟨t8, rfl, fun E2 Q2 hn2 he2 => ?_⟩
        (array_get_dec)
        refine ⟨g_ins (by decide +kernel), ?_⟩
        refine tr2 (Q := Q2) hxP hv (he2 v _ ?_)
        exact nil_go ⟨Nat.le_of_ble_eq_true rfl, fun p hp => h _ _ ⟨p, rfl, hp, rfl⟩⟩
      rintro _ S10 ⟨p2, rfl, hp2, e10⟩
      have l10 : S10 p2 = some (.lst (List.replicate 2 (.lst [v]))) := by rw [e10, up_same]
      have t10 : S10 tt_law = some (.tab "law.<locals>.<lambda>") := by rw [e10, up_ne (ne_of hp2 t8).symm]; exact t8
      have B10 : Bg S10 b := by
        obtain ⟨g0, s0, eb, ok⟩ := B8
        exact ⟨g0, s0, by rw [e10, up_ne (ne_of hp2 eb).symm]; exact eb, ok⟩
      (((try unfold ζq); dsimp only))
      refine ifF_go (fun S9 => S9 = S10) (fun Q' hq => orT_go (fun S9 => S9 = S10) (fun S9 => S9 = S10) (fun Q2 h2 => notTru_go fun Q3 h3 => allIs_go (u := v) (m := 2) rfl ⟨_, rfl, rfl, rfl⟩ l10 (by decide) hv (h3 _ (h2 _ rfl))) (fun S9 e9 Q2 h2 => ?_) hq) fun S9 e9 => ⟨_, _, _, _, _, _, _, _, rfl, by rw [e9]; exact B10, by rw [e9]; exact t10⟩
      rw [e9]
      refine testE_go (opE_go ?_)
      simp only [dMth]
      (array_get_dec)
      refine ⟨g_ins (by decide +kernel), ps, rs, ss, x, rfl, P, R, hxP, hxp, ?_⟩
      (array_get_dec)
      refine ⟨rfl, rfl, ?_⟩
      exact h2 _ rfl
    · rintro ω' S3 ⟨z6, z7, z8, z9, z10, z11, z12, z13, rfl, B3, t3⟩
      exact ⟨_, _, _, _, _, _, _, _, _, _, _, _, _, rfl, t3⟩
  · rintro ω' S' ⟨y1, y2, y3, y4, y5, y6, y7, y8, y9, y10, y11, y12, y13, rfl, ht⟩
    (((try unfold ζq); dsimp only))
    refine ret_go ?_
    (array_get_dec)
    exact frzQ.mk (q _)
section
variable {P : Program} {w : World} {K : PySem.W.Frag} {mg : Str → Option Value} {base : Heap} {c_Ground c_BadTime c_NoGround c_NoPlace c_NoProof c_NoKind c_BadText c_NoDeed c_NoRow c_TooMany c_NotDone c_NoBook c_NoCall c_NoEngine c_NoEngines c_NoText c_Nothing c_NoSaying : Addr}
variable {cc_law tt_law : Addr}
theorem ok_law {f : Addr} {fd : FuncData} (F : Fun K "law" "law" s_law f fd) (T : Txt K w mg c_Ground c_BadTime c_NoGround c_NoPlace c_NoProof c_NoKind c_BadText c_NoDeed c_NoRow c_TooMany c_NotDone c_NoBook c_NoCall c_NoEngine c_NoEngines c_NoText c_Nothing c_NoSaying) (C_law_bag : CalD P w K mg base 1 "_law_bag" sp_law_bag) (C_law_ground : CalD P w K mg base 3 "_law_ground" sp_law_ground) (M_Ground : MakD P w K mg base 5 "Ground" c_Ground (sp_Ground__init_ c_Ground) []) (C_law_odd : CalD P w K mg base 2 "_law_odd" sp_law_odd) (C_law_take : CalD P w K mg base 1 "_law_take" sp_law_take) (L_law_told : CalL P w K mg base 2 "_law_told" "_law_deed" (sp_law_told c_NoPlace)) (DX2_Ground_minutes : MthX P w K mg base 4 c_Ground "minutes" (sp_Ground_minutes c_Ground c_NoPlace) [.int 0, .non]) (DXK2x0x1x2x3x5_Ground_road : MthXK P w K mg base 4 c_Ground "road" 2 ["hour"] [0, 1, 2, 3, 5] (sp_Ground_road c_Ground c_NoPlace) [.int 0, .non]) (DX_Ground_risk : MthX P w K mg base 4 c_Ground "risk" (sp_Ground_risk c_Ground c_NoPlace) []) (DX1_Ground_station_of : MthX P w K mg base 4 c_Ground "station_of" (sp_Ground_station_of c_Ground c_NoPlace) [.int 0, .non]) (C_law_is : CalD P w K mg base 1 "_law_is" sp_law_is) (DX2_Ground_road : MthX P w K mg base 4 c_Ground "road" (sp_Ground_road c_Ground c_NoPlace) [.int 0, .non]) (D2_Ground_minutes : MthD P w K mg base 4 c_Ground "minutes" (sk_Ground_minutes c_Ground) [.int 0, .non]) (hcode_law : fd.code = .ref cc_law) (tb_law : LamX.TabB base mg cc_law tt_law) : FnOk P w K mg base CX0 7 f fd ["_law_script"] (uSp K (sp_law c_Ground c_NoPlace tt_law)) :=
  Fun.okFc F hcode_law sc_law (td_law c_Ground c_NoPlace tt_law) (fun cdv own A outer s H E hr =>
    (dss_cons (ds_for PassesOwn.never (di_range1 T.z_range (da_cons (de_callB cd_max2 T.z_max (da_cons de_int (da_cons (de_callB cd_min2 T.z_min (da_cons de_int (da_cons (de_callB cd_len T.z_len (da_cons (dv 0) da_nil)) da_nil))) da_nil))) da_nil)) (dg_nm (i := 1) sc_law.nd)
      (dss_cons (ds_set (i := 2) sc_law.nd (de_call C_law_bag hr (da_cons (dv 0) (da_cons (dv 1) da_nil))))
      (dss_cons (ds_set (i := 3) sc_law.nd (de_call C_law_ground hr (da_cons (dv 2) da_nil)))
      (dss_cons (ds_set (i := 4) sc_law.nd (de_frz (de_mk M_Ground hr (da_cons (de_ix (dv 3) de_int) (da_cons (de_ix (dv 3) de_int) (da_cons (de_ix (dv 3) de_int) da_nil))))))
      (dss_cons (ds_setLc (i := 5) (own := [("_law_name", 11), ("_law_risk", 12)]) sc_law.nd (di_seq (de_ix (dv 3) de_int)) (blkOk_by (own := [("_law_name", 11), ("_law_risk", 12)]) (N := N_law) (sc := defScope s_law) (by decide +kernel)) (fun _ _ _ _ _ => (dg_tp (dgs_cons (dg_nm (i := 11) sc_law.nd) (dgs_cons (dg_nm (i := 12) sc_law.nd) dgs_nil)))) (fun _ _ _ _ _ => dts_nil) (fun _ _ _ _ _ => (dv 11)) (sw_true rfl rfl rfl (by decide +kernel)))
      (dss_one (ds_for PassesOwn.never (di_range1 T.z_range (da_cons de_int da_nil)) (dg_nm (i := 6) sc_law.nd)
        (dss_cons (ds_asgT (de_tup (da_cons (de_call C_law_odd hr (da_cons (dv 2) (da_cons (dv 5) da_nil))) (da_cons (de_call C_law_odd hr (da_cons (dv 2) (da_cons (dv 5) da_nil))) da_nil))) (dg_tp (dgs_cons (dg_nm (i := 7) sc_law.nd) (dgs_cons (dg_nm (i := 8) sc_law.nd) dgs_nil))))
        (dss_cons (ds_set (i := 9) sc_law.nd (de_ix (dv 5) (de_call C_law_take hr (da_cons (dv 2) (da_cons (de_callB cd_len T.z_len (da_cons (dv 5) da_nil)) da_nil)))))
        (dss_cons (ds_set (i := 10) sc_law.nd (de_lstM (da_cons (de_lam (P := tt_law) (m := 4) (q := "law.<locals>.<lambda>") (is := [4, 7, 9]) L_law_told tb_law own hr (LamX.lamS_by (sc := defScope s_law) (by decide +kernel)) rfl (fun _ _ _ _ _ => rfl) (fun A outer s H E f c' hr => by exact (de_mthX T.cl_Ground DX2_Ground_minutes (takes_of rfl rfl rfl rfl) hr (dv 4) (da_cons (dv 7) (da_cons (dv 9) da_nil))))) (da_cons (de_lamD (P := tt_law) (m := 4) (q := "law.<locals>.<lambda>") (is := [4, 7, 8]) L_law_told tb_law own hr (lamD_by (N := N_law) (sc := defScope s_law) (p := "_law_at") (by decide +kernel)) rfl rfl (fun _ _ _ _ _ _ _ _ => ⟨_, rfl, rfl⟩) (fun A outer s H E f c' hr => by exact (de_mthX T.cl_Ground DX2_Ground_minutes (takes_of rfl rfl rfl rfl) hr (dv 4) (da_cons (dv 7) (da_cons (dv 8) da_nil))))) da_nil))))
        (dss_cons (ds_expr (de_append (dv 10) (da_cons (de_lam (P := tt_law) (m := 4) (q := "law.<locals>.<lambda>") (is := [4, 7, 8]) L_law_told tb_law own hr (LamX.lamS_by (sc := defScope s_law) (by decide +kernel)) rfl (fun _ _ _ _ _ => rfl) (fun A outer s H E f c' hr => by exact (de_mthXP T.cl_Ground DXK2x0x1x2x3x5_Ground_road (takes_of rfl rfl rfl rfl) hr (dv 4) (da_cons (dv 7) (da_cons (dv 8) da_nil)) (dk_cons de_int dk_nil)))) da_nil)))
        (dss_cons (ds_expr (de_append (dv 10) (da_cons (de_lam (P := tt_law) (m := 4) (q := "law.<locals>.<lambda>") (is := [4, 7]) L_law_told tb_law own hr (LamX.lamS_by (sc := defScope s_law) (by decide +kernel)) rfl (fun _ _ _ _ _ => rfl) (fun A outer s H E f c' hr => by exact (de_mthX T.cl_Ground DX_Ground_risk (takes_of rfl rfl rfl rfl) hr (dv 4) (da_cons (dv 7) da_nil)))) da_nil)))
        (dss_cons (ds_expr (de_append (dv 10) (da_cons (de_lam (P := tt_law) (m := 4) (q := "law.<locals>.<lambda>") (is := [4, 7]) L_law_told tb_law own hr (LamX.lamS_by (sc := defScope s_law) (by decide +kernel)) rfl (fun _ _ _ _ _ => rfl) (fun A outer s H E f c' hr => by exact (de_mthX T.cl_Ground DX1_Ground_station_of (takes_of rfl rfl rfl rfl) hr (dv 4) (da_cons (dv 7) da_nil)))) da_nil)))
        (dss_cons (ds_if (dt_not (dt_tru (de_callB cd_all T.z_all (da_cons (de_lc (own := [("_law_row", 13)]) sc_law.nd (di_seq (dv 10)) (blkOk_by (own := [("_law_row", 13)]) (N := N_law) (sc := defScope s_law) (by decide +kernel)) (fun _ _ _ _ _ => (dg_nm (i := 13) sc_law.nd)) (fun _ _ _ _ _ => dts_nil) (fun _ _ _ _ _ => (de_call C_law_is hr (da_cons (dv 13) (da_cons (dv 7) da_nil))))) da_nil)))) (dss_one (ds_ret de_bl)) dss_nil)
        (dss_cons (ds_set (i := 10) sc_law.nd (de_lstM (da_cons (de_lam (P := tt_law) (m := 4) (q := "law.<locals>.<lambda>") (is := [4, 8, 9]) L_law_told tb_law own hr (LamX.lamS_by (sc := defScope s_law) (by decide +kernel)) rfl (fun _ _ _ _ _ => rfl) (fun A outer s H E f c' hr => by exact (de_mthX T.cl_Ground DX2_Ground_minutes (takes_of rfl rfl rfl rfl) hr (dv 4) (da_cons (dv 9) (da_cons (dv 8) da_nil))))) (da_cons (de_lamD (P := tt_law) (m := 4) (q := "law.<locals>.<lambda>") (is := [4, 8, 9]) L_law_told tb_law own hr (lamD_by (N := N_law) (sc := defScope s_law) (p := "_law_at") (by decide +kernel)) rfl rfl (fun _ _ _ _ _ _ _ _ => ⟨_, rfl, rfl⟩) (fun A outer s H E f c' hr => by exact (de_mthX T.cl_Ground DX2_Ground_road (takes_of rfl rfl rfl rfl) hr (dv 4) (da_cons (dv 9) (da_cons (dv 8) da_nil))))) da_nil))))
        (dss_one (ds_if (PW.pt (dw_or (dt_not (dt_tru (de_callB cd_all T.z_all (da_cons (de_lc (own := [("_law_row", 13)]) sc_law.nd (di_seq (dv 10)) (blkOk_by (own := [("_law_row", 13)]) (N := N_law) (sc := defScope s_law) (by decide +kernel)) (fun _ _ _ _ _ => (dg_nm (i := 13) sc_law.nd)) (fun _ _ _ _ _ => dts_nil) (fun _ _ _ _ _ => (de_call C_law_is hr (da_cons (dv 13) (da_cons (dv 8) da_nil))))) da_nil)))) (dw_or1 (dt_cmp (oc_ne hr) (de_mth T.cl_Ground D2_Ground_minutes hr (dv 4) (da_cons (dv 9) (da_cons (dv 9) da_nil))) de_int)))) (dss_one (ds_ret de_bl)) dss_nil)))))))))))))))))
    (dss_one (ds_ret de_bl)))) (fun ws S Q E h => len_law h) (hd_law c_Ground c_NoPlace tt_law)
end
abbrev s_NoPlace__init_ : Stmt := inClass (topS 4) 0
abbrev N_NoPlace__init_ : List Str := ["self", "place"]
theorem sc_NoPlace__init_ : FnScope N_NoPlace__init_ ["self", "place"] (defScope s_NoPlace__init_) := ⟨rfl, rfl, rfl, by decide +kernel, rfl, by decide +kernel, by decide +kernel⟩
section
variable {P : Program} {w : World} {K : PySem.W.Frag} {mg : Str → Option Value} {base : Heap}
theorem ok_NPi {f C : Addr} {fd : FuncData} (F : Fun K "__init__" "NoPlace.__init__" s_NoPlace__init_ f fd) (z : mg "KeyError" = none) (T : My.Gx_ke K C) (n1 : PySem.W.findIn K (.ref C) "place" = some none)
    (vV : PySem.W.findCls K (.type "KeyError") (.type "type") "__init__" = some (.val (.builtin "KeyError.__init__"))) : FnOk P w K mg base CX0 1 f fd ["self", "place"] (spExc C ["place"] okW1) := by
  refine F.ok sc_NoPlace__init_ (fun vs H Q E h => ?_) (fun cdv A outer s H vs Q E hr h => ?_)
  · obtain ⟨a, us, rfl, hl, _⟩ := h
    show us.length + 1 = 2
    rw [hl]
    rfl
  · obtain ⟨a, us, rfl, hl, ⟨v, rfl⟩, ha, q⟩ := h
    refine ⟨_, (pss_cons (ps_expr (My.pe_bi_ke (by rfl) z vV (pa_cons (pvN 0) (pa_cons pe_str pa_nil)))) (pss_one (My.ps_st_ke (pvN 0) (pvN 1)))), ?_⟩
    refine ⟨.ref a, rfl, ?_⟩
    refine ⟨a, C, _, rfl, by show 1 ≤ 1000; decide, T, ha, ?_⟩
    exact ⟨v, rfl, .ref a, rfl, a, C, rfl, T, n1, ha, fun dx nd ne => q dx nd ne⟩
end
mutual
def CvX.w : CvX → W
  | .non => .non
  | .bl b => .bl b
  | .int i => .int i
  | .str x => .str x
  | .tup xs => .tup (CvX.ws xs)
def CvX.ws : List CvX → List W
  | [] => []
  | c :: cs => c.w :: CvX.ws cs
end
mutual
theorem cvXB_ok {K : PySem.W.Frag} : ∀ {c : CvX} {u : Value}, cvXB K c u = true → ∃ v, RelV v u ∧ ∀ S H, RW K S H c.w v
  | .non, u, h => by
    cases u <;> first | exact ⟨.non, rfl, fun _ _ => .non⟩ | cases h
  | .bl b, u, h => by
    cases u <;> first | cases h | skip
    rename_i c
    have e : c = b := eq_of_beq h
    subst e
    exact ⟨.bl c, rfl, fun _ _ => .bl c⟩
  | .int i, u, h => by
    cases u <;> first | cases h | skip
    rename_i j t
    have e : j = i := of_decide_eq_true h
    subst e
    exact ⟨.int j, ⟨t, rfl⟩, fun _ _ => .int j⟩
  | .str x, u, h => by
    cases u <;> first | cases h | skip
    rename_i y t
    obtain ⟨h1, h2⟩ := Bool.and_eq_true_iff.mp (show (decide (y = x) && svb x) = true from h)
    have e : y = x := of_decide_eq_true h1
    subst e
    exact ⟨.str y, ⟨t, rfl⟩, fun _ _ => .str y h2⟩
  | .tup xs, u, h => by
    cases u <;> first | cases h | skip
    rename_i t
    have h : (match K.lookup t with
      | some ⟨.type c, _, .seq its _, _⟩ => decide (c = "tuple") && (decide (its.size ≤ sizeLine) && cvXBs K xs its.toList)
      | _ => false) = true := h
    split at h
    · rename_i c od its n sl e
      obtain ⟨h1, h2⟩ := Bool.and_eq_true_iff.mp h
      obtain ⟨h2, h3⟩ := Bool.and_eq_true_iff.mp h2
      obtain ⟨vs, r, q⟩ := cvXBs_ok h3
      have ec : c = "tuple" := of_decide_eq_true h1
      subst ec
      exact ⟨.ref t, rfl, fun S H => .tupK ⟨_, its, n, e, rfl, rfl, of_decide_eq_true h2, r⟩ (q S H)⟩
    · cases h
theorem cvXBs_ok {K : PySem.W.Frag} : ∀ {cs : List CvX} {us : List Value}, cvXBs K cs us = true → ∃ vs, Vals vs us ∧ ∀ S H, RWs K S H (CvX.ws cs) vs
  | [], us, h => by
    cases us with
    | nil => exact ⟨[], .nil, fun _ _ => .nil⟩
    | cons u us => cases h
  | c :: cs, us, h => by
    cases us with
    | nil => cases h
    | cons u us =>
      obtain ⟨h1, h2⟩ := Bool.and_eq_true_iff.mp (show (cvXB K c u && cvXBs K cs us) = true from h)
      obtain ⟨v, r, q⟩ := cvXB_ok h1
      obtain ⟨vs, rs, qs⟩ := cvXBs_ok h2
      exact ⟨v :: vs, .cons r rs, fun S H => .cons (q S H) (qs S H)⟩
end
theorem gwXB_ok {K : PySem.W.Frag} {h : Heap} {mg : Str → Option Value} (X : K.In h) (G : h.Ns mainGlobals mg) {x : Str} {c : CvX} (t : gwXB K x c = true) : GW K mg x c.w := by
  unfold gwXB at t
  split at t
  · rename_i u e
    obtain ⟨v, r, q⟩ := cvXB_ok t
    exact ⟨v, u, PySem.W.mg_of X G e, r, q⟩
  · cases t
theorem code_of {K : PySem.W.Frag} {h : Heap} {mg : Str → Option Value} {x qual : Str} {st : Stmt} {f c P : Addr} {fd : FuncData} (X : K.In h) (G : h.Ns mainGlobals mg) (tk : PySem.W.tabIn K x = some (c, P)) (g : mg x = some (.ref f)) (F : Fun K x qual st f fd) : fd.code = .ref c := by
  obtain ⟨⟨oc, od, kV, doc, pm, an, cdv, ct, osl, e, l, cd⟩, kp⟩ := F
  exact PySem.W.law_code X G tk g (X _ _ l) rfl
theorem walk_tabsE {l : PySem.W.OpenLaw} {n k : Nat} {q : Program} {loose : List Str} {XP : (Str → Option Value) → Heap → Prop} {YP : World → Heap → Prop} {d : DefRec} {CX : World → CXT} {x : Str}
    (hn : l.most = some n) (hn2 : n ≤ sizeLine) (hdf : d.params.defaults = []) (hr : Room k callerA)
    (F : ∀ (w : World) (mg : Str → Option Value) (fa : Addr) (h : Heap), YP w h → h.Ns mainGlobals mg → mg d.name = some (.ref fa) → ∃ K : PySem.W.Frag, K.In h ∧ (TabFacts q K h → LamX.LawAtS l w K (CX w) k n x mg fa h))
    (hCX : ∀ (w : World) (H : Hp) (s : Shared) (e : Value) (s' : Shared), CX w [] H s (fun _ _ _ => False) e s' → False) :
    PySem.W.WalkO q loose XP YP l.row.toRowW d [] (fun f vs => PySem.call f vs) := by
  refine Att.attach_callB hn hdf fun w s₀ s₁ mg mb fa o pm cd doc a vs ns G Y _ _ _ hmg hobj hints hlen hbits hg => ?_
  obtain ⟨K, inK, F⟩ := F w mg fa _ Y G.T.g hmg
  obtain ⟨fd, cs, sp, empty, notK, code, hb, hsp, hF⟩ := F fun x d c P h1 h2 => PySem.W.tab_of G.T inK h1 h2
  exact LamX.law_callTs inK G.T.g G.T.b G.T.builtins G.T.nolimit hg empty notK code G.T.bmain hobj hints (Nat.le_trans hlen hn2) hr hF hb (fun H hH hS => hsp H a ns hlen hbits hH hS) fun H e s' => hCX w H s₁ e s'
theorem all_mk {l : PySem.W.OpenLaw} {w : World} {K : PySem.W.Frag} {h : Heap} {mg : Str → Option Value} {fa : Addr} {prg : Program} (TF : TabFacts prg K h) (X : K.In h) (G : h.Ns mainGlobals mg) (hfa : mg "law" = some (.ref fa))
    {c_NoPlace f_NoPlace__init_ c_BadTime c_NoGround c_NoProof c_NoKind c_BadText c_NoDeed c_NoRow c_TooMany c_NotDone c_NoBook c_NoCall c_NoEngine c_NoEngines c_NoText c_Nothing c_NoSaying c_Ground f_law_bag f_law_take f_law_names f_law_ground f_is_tuple_within f_check_size f_is_name f_is_whole f_is_whole_within f_is_place_with_risk f_checked_risks f_is_place_among f_is_road_among f_ends_of f_check_roads f_check_stations f_Ground__init_ f_law_odd f_law_kind f_law_told f_Ground_check_place f_least_minutes f_Ground_links f_Ground_minutes f_Ground_road f_Ground_risk f_Ground_station_of f_law_is f_law cc_law tt_law : Addr} {fd_NoPlace__init_ fd_law_bag fd_law_take fd_law_names fd_law_ground fd_is_tuple_within fd_check_size fd_is_name fd_is_whole fd_is_whole_within fd_is_place_with_risk fd_checked_risks fd_is_place_among fd_is_road_among fd_ends_of fd_check_roads fd_check_stations fd_Ground__init_ fd_law_odd fd_law_kind fd_law_told fd_Ground_check_place fd_least_minutes fd_Ground_links fd_Ground_minutes fd_Ground_road fd_Ground_risk fd_Ground_station_of fd_law_is fd_law : FuncData} {dr_law : DefRec}
    (gC_NoPlace : PySem.W.nsIn K mainGlobals "NoPlace" = some (some (.ref c_NoPlace)))
    (cl_NoPlace : clsXB K c_NoPlace My.bt_ke My.nK = true)
    (ov_NoPlace : PySem.W.excOver K c_NoPlace My.bt_ke = true)
    (se_NoPlace : PySem.W.findIn K (.ref c_NoPlace) "__setattr__" = some (some (.builtin "object.__setattr__")))
    (ke_NoPlace : PySem.W.keepIn K (.ref c_NoPlace) = true)
    (be_NoPlace : PySem.W.subIn K (.ref c_NoPlace) (.type "BaseException") = some true)
    (te_NoPlace : PySem.W.typeIn K (.ref c_NoPlace) = some (.type "type"))
    (nx_NoPlace_place : PySem.W.findIn K (.ref c_NoPlace) "place" = some none)
    (hx_NoPlace : PySem.W.hasDictIn K c_NoPlace = true)
    (sx_NoPlace : PySem.W.subIn K (.ref c_NoPlace) (.ref c_NoPlace) = some true)
    (ix_NoPlace : PySem.W.findIn K (.ref c_NoPlace) "__init__" = some (some (.ref f_NoPlace__init_)))
    (ti_NoPlace : PySem.W.typeIn K (.ref f_NoPlace__init_) = some (.type "function"))
    (vV_NoPlace : PySem.W.findCls K (.type "KeyError") (.type "type") "__init__" = some (.val (.builtin "KeyError.__init__")))
    (D_NoPlace__init_ : FunD K "__init__" "NoPlace.__init__" (defArgs s_NoPlace__init_) (defBody s_NoPlace__init_) (defScope s_NoPlace__init_) [] [] f_NoPlace__init_ fd_NoPlace__init_)
    (gC_BadTime : PySem.W.nsIn K mainGlobals "BadTime" = some (some (.ref c_BadTime)))
    (gC_NoGround : PySem.W.nsIn K mainGlobals "NoGround" = some (some (.ref c_NoGround)))
    (gC_NoProof : PySem.W.nsIn K mainGlobals "NoProof" = some (some (.ref c_NoProof)))
    (gC_NoKind : PySem.W.nsIn K mainGlobals "NoKind" = some (some (.ref c_NoKind)))
    (gC_BadText : PySem.W.nsIn K mainGlobals "BadText" = some (some (.ref c_BadText)))
    (gC_NoDeed : PySem.W.nsIn K mainGlobals "NoDeed" = some (some (.ref c_NoDeed)))
    (gC_NoRow : PySem.W.nsIn K mainGlobals "NoRow" = some (some (.ref c_NoRow)))
    (gC_TooMany : PySem.W.nsIn K mainGlobals "TooMany" = some (some (.ref c_TooMany)))
    (gC_NotDone : PySem.W.nsIn K mainGlobals "NotDone" = some (some (.ref c_NotDone)))
    (gC_NoBook : PySem.W.nsIn K mainGlobals "NoBook" = some (some (.ref c_NoBook)))
    (gC_NoCall : PySem.W.nsIn K mainGlobals "NoCall" = some (some (.ref c_NoCall)))
    (gC_NoEngine : PySem.W.nsIn K mainGlobals "NoEngine" = some (some (.ref c_NoEngine)))
    (gC_NoEngines : PySem.W.nsIn K mainGlobals "NoEngines" = some (some (.ref c_NoEngines)))
    (gC_NoText : PySem.W.nsIn K mainGlobals "NoText" = some (some (.ref c_NoText)))
    (gC_Nothing : PySem.W.nsIn K mainGlobals "Nothing" = some (some (.ref c_Nothing)))
    (gC_NoSaying : PySem.W.nsIn K mainGlobals "NoSaying" = some (some (.ref c_NoSaying)))
    (kk_NoPlace_BadTime : PySem.W.kitOne K (.ref c_NoPlace) (.ref c_BadTime) = some false)
    (kk_NoPlace_NoGround : PySem.W.kitOne K (.ref c_NoPlace) (.ref c_NoGround) = some false)
    (kk_NoPlace_NoPlace : PySem.W.kitOne K (.ref c_NoPlace) (.ref c_NoPlace) = some true)
    (kk_NoPlace_NoProof : PySem.W.kitOne K (.ref c_NoPlace) (.ref c_NoProof) = some false)
    (kk_NoPlace_NoKind : PySem.W.kitOne K (.ref c_NoPlace) (.ref c_NoKind) = some false)
    (kk_NoPlace_BadText : PySem.W.kitOne K (.ref c_NoPlace) (.ref c_BadText) = some false)
    (kk_NoPlace_NoDeed : PySem.W.kitOne K (.ref c_NoPlace) (.ref c_NoDeed) = some false)
    (kk_NoPlace_NoRow : PySem.W.kitOne K (.ref c_NoPlace) (.ref c_NoRow) = some false)
    (kk_NoPlace_TooMany : PySem.W.kitOne K (.ref c_NoPlace) (.ref c_TooMany) = some false)
    (kk_NoPlace_NotDone : PySem.W.kitOne K (.ref c_NoPlace) (.ref c_NotDone) = some false)
    (kk_NoPlace_NoBook : PySem.W.kitOne K (.ref c_NoPlace) (.ref c_NoBook) = some false)
    (kk_NoPlace_NoCall : PySem.W.kitOne K (.ref c_NoPlace) (.ref c_NoCall) = some false)
    (kk_NoPlace_NoEngine : PySem.W.kitOne K (.ref c_NoPlace) (.ref c_NoEngine) = some false)
    (kk_NoPlace_NoEngines : PySem.W.kitOne K (.ref c_NoPlace) (.ref c_NoEngines) = some false)
    (kk_NoPlace_NoText : PySem.W.kitOne K (.ref c_NoPlace) (.ref c_NoText) = some false)
    (kk_NoPlace_Nothing : PySem.W.kitOne K (.ref c_NoPlace) (.ref c_Nothing) = some false)
    (kk_NoPlace_NoSaying : PySem.W.kitOne K (.ref c_NoPlace) (.ref c_NoSaying) = some false)
    (kb_NoPlace_KeyError : PySem.W.kitOne K (.ref c_NoPlace) (.type "KeyError") = some true)
    (x1_NoPlace : PySem.W.findIn K (.ref c_NoPlace) "__getattribute__" = some (some (.builtin "BaseException.__getattribute__")))
    (x2_NoPlace : PySem.W.findIn K (.ref c_NoPlace) "__getattr__" = some none)
    (x5_NoPlace : PySem.W.findIn K (.ref c_NoPlace) "__class__" = some (some (.builtin "object.__class__")))
    (x8_NoPlace : PySem.W.mroIn K c_NoPlace (.type "object") = some true)
    (gC_Ground : PySem.W.nsIn K mainGlobals "Ground" = some (some (.ref c_Ground)))
    (pg_Ground : PySem.W.plainGet K c_Ground Str.empty = true)
    (hdC_Ground : PySem.W.hasDictIn K c_Ground = true)
    (po_Ground : PySem.W.plainOver K c_Ground = true)
    (sa_Ground : PySem.W.findIn K (.ref c_Ground) "__setattr__" = some (some (.builtin "object.__setattr__")))
    (na_Ground_risks : PySem.W.findIn K (.ref c_Ground) "risks" = some none)
    (na_Ground_places : PySem.W.findIn K (.ref c_Ground) "places" = some none)
    (na_Ground_roads : PySem.W.findIn K (.ref c_Ground) "roads" = some none)
    (na_Ground_stations : PySem.W.findIn K (.ref c_Ground) "stations" = some none)
    (na_Ground_sorted_places : PySem.W.findIn K (.ref c_Ground) "sorted_places" = some none)
    (na_Ground_sorted_roads : PySem.W.findIn K (.ref c_Ground) "sorted_roads" = some none)
    (na_Ground_sorted_stations : PySem.W.findIn K (.ref c_Ground) "sorted_stations" = some none)
    (mk_Ground : PySem.W.makesIn K c_Ground = true)
    (in_Ground : PySem.W.findIn K (.ref c_Ground) "__init__" = some (some (.ref f_Ground__init_)))
    (if_Ground : PySem.W.isFn K (.ref f_Ground__init_) = true)
    (kp_Ground : PySem.W.keepIn K (.ref c_Ground) = true)
    (a_law_bag : PySem.W.nsIn K mainGlobals "_law_bag" = some (some (.ref f_law_bag)))
    (D_law_bag : FunD K "_law_bag" "_law_bag" (defArgs s_law_bag) (defBody s_law_bag) (defScope s_law_bag) [] [] f_law_bag fd_law_bag)
    (a_law_take : PySem.W.nsIn K mainGlobals "_law_take" = some (some (.ref f_law_take)))
    (D_law_take : FunD K "_law_take" "_law_take" (defArgs s_law_take) (defBody s_law_take) (defScope s_law_take) [] [] f_law_take fd_law_take)
    (a_law_names : PySem.W.nsIn K mainGlobals "_law_names" = some (some (.ref f_law_names)))
    (D_law_names : FunD K "_law_names" "_law_names" (defArgs s_law_names) (defBody s_law_names) (defScope s_law_names) [] [] f_law_names fd_law_names)
    (a_law_ground : PySem.W.nsIn K mainGlobals "_law_ground" = some (some (.ref f_law_ground)))
    (D_law_ground : FunD K "_law_ground" "_law_ground" (defArgs s_law_ground) (defBody s_law_ground) (defScope s_law_ground) [] [] f_law_ground fd_law_ground)
    (a_is_tuple_within : PySem.W.nsIn K mainGlobals "is_tuple_within" = some (some (.ref f_is_tuple_within)))
    (D_is_tuple_within : FunD K "is_tuple_within" "is_tuple_within" (defArgs s_is_tuple_within) (defBody s_is_tuple_within) (defScope s_is_tuple_within) [] [] f_is_tuple_within fd_is_tuple_within)
    (a_check_size : PySem.W.nsIn K mainGlobals "check_size" = some (some (.ref f_check_size)))
    (D_check_size : FunD K "check_size" "check_size" (defArgs s_check_size) (defBody s_check_size) (defScope s_check_size) [] [] f_check_size fd_check_size)
    (a_is_name : PySem.W.nsIn K mainGlobals "is_name" = some (some (.ref f_is_name)))
    (D_is_name : FunD K "is_name" "is_name" (defArgs s_is_name) (defBody s_is_name) (defScope s_is_name) [] [] f_is_name fd_is_name)
    (a_is_whole : PySem.W.nsIn K mainGlobals "is_whole" = some (some (.ref f_is_whole)))
    (D_is_whole : FunD K "is_whole" "is_whole" (defArgs s_is_whole) (defBody s_is_whole) (defScope s_is_whole) [] [] f_is_whole fd_is_whole)
    (a_is_whole_within : PySem.W.nsIn K mainGlobals "is_whole_within" = some (some (.ref f_is_whole_within)))
    (D_is_whole_within : FunD K "is_whole_within" "is_whole_within" (defArgs s_is_whole_within) (defBody s_is_whole_within) (defScope s_is_whole_within) [] [] f_is_whole_within fd_is_whole_within)
    (a_is_place_with_risk : PySem.W.nsIn K mainGlobals "is_place_with_risk" = some (some (.ref f_is_place_with_risk)))
    (D_is_place_with_risk : FunD K "is_place_with_risk" "is_place_with_risk" (defArgs s_is_place_with_risk) (defBody s_is_place_with_risk) (defScope s_is_place_with_risk) [] [] f_is_place_with_risk fd_is_place_with_risk)
    (a_checked_risks : PySem.W.nsIn K mainGlobals "checked_risks" = some (some (.ref f_checked_risks)))
    (D_checked_risks : FunD K "checked_risks" "checked_risks" (defArgs s_checked_risks) (defBody s_checked_risks) (defScope s_checked_risks) [] [] f_checked_risks fd_checked_risks)
    (a_is_place_among : PySem.W.nsIn K mainGlobals "is_place_among" = some (some (.ref f_is_place_among)))
    (D_is_place_among : FunD K "is_place_among" "is_place_among" (defArgs s_is_place_among) (defBody s_is_place_among) (defScope s_is_place_among) [] [] f_is_place_among fd_is_place_among)
    (a_is_road_among : PySem.W.nsIn K mainGlobals "is_road_among" = some (some (.ref f_is_road_among)))
    (D_is_road_among : FunD K "is_road_among" "is_road_among" (defArgs s_is_road_among) (defBody s_is_road_among) (defScope s_is_road_among) [] [] f_is_road_among fd_is_road_among)
    (a_ends_of : PySem.W.nsIn K mainGlobals "ends_of" = some (some (.ref f_ends_of)))
    (D_ends_of : FunD K "ends_of" "ends_of" (defArgs s_ends_of) (defBody s_ends_of) (defScope s_ends_of) [] [] f_ends_of fd_ends_of)
    (a_check_roads : PySem.W.nsIn K mainGlobals "check_roads" = some (some (.ref f_check_roads)))
    (D_check_roads : FunD K "check_roads" "check_roads" (defArgs s_check_roads) (defBody s_check_roads) (defScope s_check_roads) [] [] f_check_roads fd_check_roads)
    (a_check_stations : PySem.W.nsIn K mainGlobals "check_stations" = some (some (.ref f_check_stations)))
    (D_check_stations : FunD K "check_stations" "check_stations" (defArgs s_check_stations) (defBody s_check_stations) (defScope s_check_stations) [] [] f_check_stations fd_check_stations)
    (D_Ground__init_ : FunD K "__init__" "Ground.__init__" (defArgs s_Ground__init_) (defBody s_Ground__init_) (defScope s_Ground__init_) [] [] f_Ground__init_ fd_Ground__init_)
    (a_law_odd : PySem.W.nsIn K mainGlobals "_law_odd" = some (some (.ref f_law_odd)))
    (D_law_odd : FunD K "_law_odd" "_law_odd" (defArgs s_law_odd) (defBody s_law_odd) (defScope s_law_odd) [] [] f_law_odd fd_law_odd)
    (a_law_kind : PySem.W.nsIn K mainGlobals "_law_kind" = some (some (.ref f_law_kind)))
    (D_law_kind : FunD K "_law_kind" "_law_kind" (defArgs s_law_kind) (defBody s_law_kind) (defScope s_law_kind) [] [] f_law_kind fd_law_kind)
    (a_law_told : PySem.W.nsIn K mainGlobals "_law_told" = some (some (.ref f_law_told)))
    (D_law_told : FunD K "_law_told" "_law_told" (defArgs s_law_told) (defBody s_law_told) (defScope s_law_told) [] [] f_law_told fd_law_told)
    (me_Ground_check_place : PySem.W.findIn K (.ref c_Ground) "check_place" = some (some (.ref f_Ground_check_place)))
    (D_Ground_check_place : FunD K "check_place" "Ground.check_place" (defArgs s_Ground_check_place) (defBody s_Ground_check_place) (defScope s_Ground_check_place) [] [] f_Ground_check_place fd_Ground_check_place)
    (mi_Ground_check_place : PySem.W.isFn K (.ref f_Ground_check_place) = true)
    (a_least_minutes : PySem.W.nsIn K mainGlobals "least_minutes" = some (some (.ref f_least_minutes)))
    (D_least_minutes : FunD K "least_minutes" "least_minutes" (defArgs s_least_minutes) (defBody s_least_minutes) (defScope s_least_minutes) [] [] f_least_minutes fd_least_minutes)
    (me_Ground_links : PySem.W.findIn K (.ref c_Ground) "links" = some (some (.ref f_Ground_links)))
    (D_Ground_links : FunD K "links" "Ground.links" (defArgs s_Ground_links) (defBody s_Ground_links) (defScope s_Ground_links) [] [] f_Ground_links fd_Ground_links)
    (mi_Ground_links : PySem.W.isFn K (.ref f_Ground_links) = true)
    (me_Ground_minutes : PySem.W.findIn K (.ref c_Ground) "minutes" = some (some (.ref f_Ground_minutes)))
    (D_Ground_minutes : FunD K "minutes" "Ground.minutes" (defArgs s_Ground_minutes) (defBody s_Ground_minutes) (defScope s_Ground_minutes) [.int 0, .non] [] f_Ground_minutes fd_Ground_minutes)
    (mi_Ground_minutes : PySem.W.isFn K (.ref f_Ground_minutes) = true)
    (me_Ground_road : PySem.W.findIn K (.ref c_Ground) "road" = some (some (.ref f_Ground_road)))
    (D_Ground_road : FunD K "road" "Ground.road" (defArgs s_Ground_road) (defBody s_Ground_road) (defScope s_Ground_road) [.int 0, .non] [] f_Ground_road fd_Ground_road)
    (mi_Ground_road : PySem.W.isFn K (.ref f_Ground_road) = true)
    (me_Ground_risk : PySem.W.findIn K (.ref c_Ground) "risk" = some (some (.ref f_Ground_risk)))
    (D_Ground_risk : FunD K "risk" "Ground.risk" (defArgs s_Ground_risk) (defBody s_Ground_risk) (defScope s_Ground_risk) [] [] f_Ground_risk fd_Ground_risk)
    (mi_Ground_risk : PySem.W.isFn K (.ref f_Ground_risk) = true)
    (me_Ground_station_of : PySem.W.findIn K (.ref c_Ground) "station_of" = some (some (.ref f_Ground_station_of)))
    (D_Ground_station_of : FunD K "station_of" "Ground.station_of" (defArgs s_Ground_station_of) (defBody s_Ground_station_of) (defScope s_Ground_station_of) [.int 0, .non] [] f_Ground_station_of fd_Ground_station_of)
    (mi_Ground_station_of : PySem.W.isFn K (.ref f_Ground_station_of) = true)
    (a_law_is : PySem.W.nsIn K mainGlobals "_law_is" = some (some (.ref f_law_is)))
    (D_law_is : FunD K "_law_is" "_law_is" (defArgs s_law_is) (defBody s_law_is) (defScope s_law_is) [] [] f_law_is fd_law_is)
    (a_law : PySem.W.nsIn K mainGlobals "law" = some (some (.ref f_law)))
    (D_law : FunD K "law" "law" (defArgs s_law) (defBody s_law) (defScope s_law) [] [] f_law fd_law)
    (tk_law : PySem.W.tabIn K "law" = some (cc_law, tt_law))
    (tr_law : (recsOf prg).find? (fun e => e.name == ("law" : Str)) = some dr_law)
    (tn_law : K.lookup tt_law = none)
    (e6 : PySem.W.specialIn K (.builtin "object.__class__") "__get__" = some (some (.builtin "getset_descriptor.__get__")))
    (e7 : PySem.W.takesIn K (.builtin "object.__class__") = some true)
    (e5_Ground : PySem.W.findIn K (.ref c_Ground) "__class__" = some (some (.builtin "object.__class__")))
    (e8_Ground : PySem.W.mroIn K c_Ground (.type "object") = some true)
    (kt_Ground : PySem.W.kitOne K (.ref c_Ground) (.ref c_Ground) = some true)
    (ne_Ground : PySem.W.findIn K (.ref c_Ground) "__ne__" = some (some (.builtin "object.__ne__")))
    (kf_Ground_NoneType : PySem.W.kitOne K (.type "NoneType") (.ref c_Ground) = some false)
    (nf_Ground_NoneType : PySem.W.notFirst K c_Ground (.type "NoneType") = true)
    (kf_Ground_bool : PySem.W.kitOne K (.type "bool") (.ref c_Ground) = some false)
    (nf_Ground_bool : PySem.W.notFirst K c_Ground (.type "bool") = true)
    (kf_Ground_tuple : PySem.W.kitOne K (.type "tuple") (.ref c_Ground) = some false)
    (nf_Ground_tuple : PySem.W.notFirst K c_Ground (.type "tuple") = true)
    (kf_Ground_str : PySem.W.kitOne K (.type "str") (.ref c_Ground) = some false)
    (nf_Ground_str : PySem.W.notFirst K c_Ground (.type "str") = true)
    (kf_Ground_int : PySem.W.kitOne K (.type "int") (.ref c_Ground) = some false)
    (nf_Ground_int : PySem.W.notFirst K c_Ground (.type "int") = true)
    (kf_Ground_list : PySem.W.kitOne K (.type "list") (.ref c_Ground) = some false)
    (nf_Ground_list : PySem.W.notFirst K c_Ground (.type "list") = true)
    (z_len : PySem.W.nsIn K mainGlobals "len" = some none)
    (z_abs : PySem.W.nsIn K mainGlobals "abs" = some none)
    (z_all : PySem.W.nsIn K mainGlobals "all" = some none)
    (z_any : PySem.W.nsIn K mainGlobals "any" = some none)
    (z_str : PySem.W.nsIn K mainGlobals "str" = some none)
    (z_int : PySem.W.nsIn K mainGlobals "int" = some none)
    (z_isinstance : PySem.W.nsIn K mainGlobals "isinstance" = some none)
    (z_range : PySem.W.nsIn K mainGlobals "range" = some none)
    (z_max : PySem.W.nsIn K mainGlobals "max" = some none)
    (z_min : PySem.W.nsIn K mainGlobals "min" = some none)
    (z_bool : PySem.W.nsIn K mainGlobals "bool" = some none)
    (z_list : PySem.W.nsIn K mainGlobals "list" = some none)
    (z_tuple : PySem.W.nsIn K mainGlobals "tuple" = some none)
    (z_zip : PySem.W.nsIn K mainGlobals "zip" = some none)
    (z_enumerate : PySem.W.nsIn K mainGlobals "enumerate" = some none)
    (z_sorted : PySem.W.nsIn K mainGlobals "sorted" = some none)
    (z_dict : PySem.W.nsIn K mainGlobals "dict" = some none)
    (z_KeyError : PySem.W.nsIn K mainGlobals "KeyError" = some none)
    (gw_LETTERS : GW K mg "LETTERS" (CvX.w (.str "abcdefghijklmnopqrstuvwxyz")))
    (gw_LONGEST_NAME : GW K mg "LONGEST_NAME" (CvX.w (.int 8)))
    (gw_SLOW_HOURS : GW K mg "SLOW_HOURS" (CvX.w (.tup [.int 7, .int 8, .int 16, .int 17])))
    (gw_MOST_PLACES : GW K mg "MOST_PLACES" (CvX.w (.int 40)))
    (gw_MOST_ROADS : GW K mg "MOST_ROADS" (CvX.w (.int 80)))
    (gw_MOST_STATIONS : GW K mg "MOST_STATIONS" (CvX.w (.int 12)))
    (gw_MOST_RISK : GW K mg "MOST_RISK" (CvX.w (.int 4)))
    (gw_MOST_MINUTES : GW K mg "MOST_MINUTES" (CvX.w (.int 60)))
    (gw_MOST_SLOW : GW K mg "MOST_SLOW" (CvX.w (.int 60))) :
    LamX.LawAtS l w K CX0 7 63 "_law_script" mg fa h := by
  have e := hfa.symm.trans (PySem.W.mg_of X G a_law)
  cases e
  have gx_NoPlace := PySem.W.mg_of X G gC_NoPlace
  have GX_NoPlace : My.Gx_ke K c_NoPlace := ⟨clsXB_ok cl_NoPlace, ov_NoPlace, se_NoPlace, be_NoPlace, te_NoPlace, ke_NoPlace⟩
  have ex_NoPlace := PySem.W.exm_ref be_NoPlace hx_NoPlace te_NoPlace sx_NoPlace
  have F_NoPlace__init_ : Fun K "__init__" "NoPlace.__init__" s_NoPlace__init_ _ _ := fun_of D_NoPlace__init_
  have k_NoPlace__init_ := D_NoPlace__init_.kp
  have b_NoPlace__init_ := F_NoPlace__init_.binds (ps := ["self", "place"]) fun _ _ _ _ _ _ us hl => match us, hl with | [_, _], _ => rfl
  have gx_BadTime := PySem.W.mg_of X G gC_BadTime
  have gx_NoGround := PySem.W.mg_of X G gC_NoGround
  have gx_NoProof := PySem.W.mg_of X G gC_NoProof
  have gx_NoKind := PySem.W.mg_of X G gC_NoKind
  have gx_BadText := PySem.W.mg_of X G gC_BadText
  have gx_NoDeed := PySem.W.mg_of X G gC_NoDeed
  have gx_NoRow := PySem.W.mg_of X G gC_NoRow
  have gx_TooMany := PySem.W.mg_of X G gC_TooMany
  have gx_NotDone := PySem.W.mg_of X G gC_NotDone
  have gx_NoBook := PySem.W.mg_of X G gC_NoBook
  have gx_NoCall := PySem.W.mg_of X G gC_NoCall
  have gx_NoEngine := PySem.W.mg_of X G gC_NoEngine
  have gx_NoEngines := PySem.W.mg_of X G gC_NoEngines
  have gx_NoText := PySem.W.mg_of X G gC_NoText
  have gx_Nothing := PySem.W.mg_of X G gC_Nothing
  have gx_NoSaying := PySem.W.mg_of X G gC_NoSaying
  have G_Ground := PySem.W.mg_of X G gC_Ground
  have Mk_Ground : Mk K c_Ground f_Ground__init_ := ⟨mk_Ground, in_Ground, if_Ground, kp_Ground⟩
  have F_law_bag : Fun K "_law_bag" "_law_bag" s_law_bag _ _ := fun_of D_law_bag
  have k_law_bag := D_law_bag.kp
  have b_law_bag := F_law_bag.binds (ps := ["_law_script", "_law_at"]) fun _ _ _ _ _ _ us hl => match us, hl with | [_, _], _ => rfl
  have g_law_bag := PySem.W.mg_of X G a_law_bag
  have F_law_take : Fun K "_law_take" "_law_take" s_law_take _ _ := fun_of D_law_take
  have k_law_take := D_law_take.kp
  have b_law_take := F_law_take.binds (ps := ["_law_bag_here", "_law_many"]) fun _ _ _ _ _ _ us hl => match us, hl with | [_, _], _ => rfl
  have g_law_take := PySem.W.mg_of X G a_law_take
  have F_law_names : Fun K "_law_names" "_law_names" s_law_names _ _ := fun_of D_law_names
  have k_law_names := D_law_names.kp
  have b_law_names := F_law_names.binds (ps := ["_law_bag_here", "_law_many"]) fun _ _ _ _ _ _ us hl => match us, hl with | [_, _], _ => rfl
  have g_law_names := PySem.W.mg_of X G a_law_names
  have F_law_ground : Fun K "_law_ground" "_law_ground" s_law_ground _ _ := fun_of D_law_ground
  have k_law_ground := D_law_ground.kp
  have b_law_ground := F_law_ground.binds (ps := ["_law_bag_here"]) fun _ _ _ _ _ _ us hl => match us, hl with | [_], _ => rfl
  have g_law_ground := PySem.W.mg_of X G a_law_ground
  have F_is_tuple_within : Fun K "is_tuple_within" "is_tuple_within" s_is_tuple_within _ _ := fun_of D_is_tuple_within
  have k_is_tuple_within := D_is_tuple_within.kp
  have b_is_tuple_within := F_is_tuple_within.binds (ps := ["thing", "least", "most"]) fun _ _ _ _ _ _ us hl => match us, hl with | [_, _, _], _ => rfl
  have g_is_tuple_within := PySem.W.mg_of X G a_is_tuple_within
  have F_check_size : Fun K "check_size" "check_size" s_check_size _ _ := fun_of D_check_size
  have k_check_size := D_check_size.kp
  have b_check_size := F_check_size.binds (ps := ["part", "thing", "least", "most"]) fun _ _ _ _ _ _ us hl => match us, hl with | [_, _, _, _], _ => rfl
  have g_check_size := PySem.W.mg_of X G a_check_size
  have F_is_name : Fun K "is_name" "is_name" s_is_name _ _ := fun_of D_is_name
  have k_is_name := D_is_name.kp
  have b_is_name := F_is_name.binds (ps := ["thing"]) fun _ _ _ _ _ _ us hl => match us, hl with | [_], _ => rfl
  have g_is_name := PySem.W.mg_of X G a_is_name
  have F_is_whole : Fun K "is_whole" "is_whole" s_is_whole _ _ := fun_of D_is_whole
  have k_is_whole := D_is_whole.kp
  have b_is_whole := F_is_whole.binds (ps := ["thing"]) fun _ _ _ _ _ _ us hl => match us, hl with | [_], _ => rfl
  have g_is_whole := PySem.W.mg_of X G a_is_whole
  have F_is_whole_within : Fun K "is_whole_within" "is_whole_within" s_is_whole_within _ _ := fun_of D_is_whole_within
  have k_is_whole_within := D_is_whole_within.kp
  have b_is_whole_within := F_is_whole_within.binds (ps := ["thing", "least", "most"]) fun _ _ _ _ _ _ us hl => match us, hl with | [_, _, _], _ => rfl
  have g_is_whole_within := PySem.W.mg_of X G a_is_whole_within
  have F_is_place_with_risk : Fun K "is_place_with_risk" "is_place_with_risk" s_is_place_with_risk _ _ := fun_of D_is_place_with_risk
  have k_is_place_with_risk := D_is_place_with_risk.kp
  have b_is_place_with_risk := F_is_place_with_risk.binds (ps := ["thing"]) fun _ _ _ _ _ _ us hl => match us, hl with | [_], _ => rfl
  have g_is_place_with_risk := PySem.W.mg_of X G a_is_place_with_risk
  have F_checked_risks : Fun K "checked_risks" "checked_risks" s_checked_risks _ _ := fun_of D_checked_risks
  have k_checked_risks := D_checked_risks.kp
  have b_checked_risks := F_checked_risks.binds (ps := ["places"]) fun _ _ _ _ _ _ us hl => match us, hl with | [_], _ => rfl
  have g_checked_risks := PySem.W.mg_of X G a_checked_risks
  have F_is_place_among : Fun K "is_place_among" "is_place_among" s_is_place_among _ _ := fun_of D_is_place_among
  have k_is_place_among := D_is_place_among.kp
  have b_is_place_among := F_is_place_among.binds (ps := ["risks", "thing"]) fun _ _ _ _ _ _ us hl => match us, hl with | [_, _], _ => rfl
  have g_is_place_among := PySem.W.mg_of X G a_is_place_among
  have F_is_road_among : Fun K "is_road_among" "is_road_among" s_is_road_among _ _ := fun_of D_is_road_among
  have k_is_road_among := D_is_road_among.kp
  have b_is_road_among := F_is_road_among.binds (ps := ["risks", "thing"]) fun _ _ _ _ _ _ us hl => match us, hl with | [_, _], _ => rfl
  have g_is_road_among := PySem.W.mg_of X G a_is_road_among
  have F_ends_of : Fun K "ends_of" "ends_of" s_ends_of _ _ := fun_of D_ends_of
  have k_ends_of := D_ends_of.kp
  have b_ends_of := F_ends_of.binds (ps := ["road"]) fun _ _ _ _ _ _ us hl => match us, hl with | [_], _ => rfl
  have g_ends_of := PySem.W.mg_of X G a_ends_of
  have F_check_roads : Fun K "check_roads" "check_roads" s_check_roads _ _ := fun_of D_check_roads
  have k_check_roads := D_check_roads.kp
  have b_check_roads := F_check_roads.binds (ps := ["roads", "risks"]) fun _ _ _ _ _ _ us hl => match us, hl with | [_, _], _ => rfl
  have g_check_roads := PySem.W.mg_of X G a_check_roads
  have F_check_stations : Fun K "check_stations" "check_stations" s_check_stations _ _ := fun_of D_check_stations
  have k_check_stations := D_check_stations.kp
  have b_check_stations := F_check_stations.binds (ps := ["stations", "risks"]) fun _ _ _ _ _ _ us hl => match us, hl with | [_, _], _ => rfl
  have g_check_stations := PySem.W.mg_of X G a_check_stations
  have F_Ground__init_ : Fun K "__init__" "Ground.__init__" s_Ground__init_ _ _ := fun_of D_Ground__init_
  have k_Ground__init_ := D_Ground__init_.kp
  have b_Ground__init_ := F_Ground__init_.binds (ps := ["self", "places", "roads", "stations"]) fun _ _ _ _ _ _ us hl => match us, hl with | [_, _, _, _], _ => rfl
  have F_law_odd : Fun K "_law_odd" "_law_odd" s_law_odd _ _ := fun_of D_law_odd
  have k_law_odd := D_law_odd.kp
  have b_law_odd := F_law_odd.binds (ps := ["_law_bag_here", "_law_names_here"]) fun _ _ _ _ _ _ us hl => match us, hl with | [_, _], _ => rfl
  have g_law_odd := PySem.W.mg_of X G a_law_odd
  have F_law_kind : Fun K "_law_kind" "_law_kind" s_law_kind _ _ := fun_of D_law_kind
  have k_law_kind := D_law_kind.kp
  have b_law_kind := F_law_kind.binds (ps := ["_law_e"]) fun _ _ _ _ _ _ us hl => match us, hl with | [_], _ => rfl
  have g_law_kind := PySem.W.mg_of X G a_law_kind
  have F_law_told : Fun K "_law_told" "_law_told" s_law_told _ _ := fun_of D_law_told
  have k_law_told := D_law_told.kp
  have b_law_told := F_law_told.binds (ps := ["_law_deed"]) fun _ _ _ _ _ _ us hl => match us, hl with | [_], _ => rfl
  have g_law_told := PySem.W.mg_of X G a_law_told
  have F_Ground_check_place : Fun K "check_place" "Ground.check_place" s_Ground_check_place _ _ := fun_of D_Ground_check_place
  have k_Ground_check_place := D_Ground_check_place.kp
  have b_Ground_check_place := F_Ground_check_place.binds (ps := ["self", "thing"]) fun _ _ _ _ _ _ us hl => match us, hl with | [_, _], _ => rfl
  have Me_Ground_check_place : Meth K c_Ground "check_place" f_Ground_check_place := ⟨me_Ground_check_place, mi_Ground_check_place, k_Ground_check_place⟩
  have F_least_minutes : Fun K "least_minutes" "least_minutes" s_least_minutes _ _ := fun_of D_least_minutes
  have k_least_minutes := D_least_minutes.kp
  have b_least_minutes := F_least_minutes.binds (ps := ["links", "start"]) fun _ _ _ _ _ _ us hl => match us, hl with | [_, _], _ => rfl
  have g_least_minutes := PySem.W.mg_of X G a_least_minutes
  have F_Ground_links : Fun K "links" "Ground.links" s_Ground_links _ _ := fun_of D_Ground_links
  have k_Ground_links := D_Ground_links.kp
  have b_Ground_links := F_Ground_links.binds (ps := ["self", "hour", "shut"]) fun _ _ _ _ _ _ us hl => match us, hl with | [_, _, _], _ => rfl
  have Me_Ground_links : Meth K c_Ground "links" f_Ground_links := ⟨me_Ground_links, mi_Ground_links, k_Ground_links⟩
  have F_Ground_minutes := D_Ground_minutes
  have k_Ground_minutes := D_Ground_minutes.kp
  have Me_Ground_minutes : Meth K c_Ground "minutes" f_Ground_minutes := ⟨me_Ground_minutes, mi_Ground_minutes, k_Ground_minutes⟩
  have F_Ground_road := D_Ground_road
  have k_Ground_road := D_Ground_road.kp
  have Me_Ground_road : Meth K c_Ground "road" f_Ground_road := ⟨me_Ground_road, mi_Ground_road, k_Ground_road⟩
  have F_Ground_risk : Fun K "risk" "Ground.risk" s_Ground_risk _ _ := fun_of D_Ground_risk
  have k_Ground_risk := D_Ground_risk.kp
  have b_Ground_risk := F_Ground_risk.binds (ps := ["self", "place"]) fun _ _ _ _ _ _ us hl => match us, hl with | [_, _], _ => rfl
  have Me_Ground_risk : Meth K c_Ground "risk" f_Ground_risk := ⟨me_Ground_risk, mi_Ground_risk, k_Ground_risk⟩
  have F_Ground_station_of := D_Ground_station_of
  have k_Ground_station_of := D_Ground_station_of.kp
  have Me_Ground_station_of : Meth K c_Ground "station_of" f_Ground_station_of := ⟨me_Ground_station_of, mi_Ground_station_of, k_Ground_station_of⟩
  have F_law_is : Fun K "_law_is" "_law_is" s_law_is _ _ := fun_of D_law_is
  have k_law_is := D_law_is.kp
  have b_law_is := F_law_is.binds (ps := ["_law_told_here", "_law_odd_here"]) fun _ _ _ _ _ _ us hl => match us, hl with | [_, _], _ => rfl
  have g_law_is := PySem.W.mg_of X G a_law_is
  have F_law : Fun K "law" "law" s_law _ _ := fun_of D_law
  have k_law := D_law.kp
  have b_law := F_law.binds (ps := ["_law_script"]) fun _ _ _ _ _ _ us hl => match us, hl with | [_], _ => rfl
  have g_law := PySem.W.mg_of X G a_law
  have hcode_law := code_of X G tk_law g_law F_law
  have XC_NoPlace : ExcC K c_NoPlace := ⟨x1_NoPlace, x2_NoPlace, be_NoPlace, hx_NoPlace, x5_NoPlace, e6, e7, x8_NoPlace⟩
  have NF_Ground : NotFst K c_Ground := fun T hT => by
    simp only [oth, List.mem_cons, List.not_mem_nil, or_false] at hT
    rcases hT with rfl | rfl | rfl | rfl | rfl | rfl
    · exact nf_Ground_NoneType
    · exact nf_Ground_bool
    · exact nf_Ground_tuple
    · exact nf_Ground_str
    · exact nf_Ground_int
    · exact nf_Ground_list
  have KF_Ground : ∀ T ∈ oth, PySem.W.kitOne K (.type T) (.ref c_Ground) = some false := fun T hT => by
    simp only [oth, List.mem_cons, List.not_mem_nil, or_false] at hT
    rcases hT with rfl | rfl | rfl | rfl | rfl | rfl
    · exact kf_Ground_NoneType
    · exact kf_Ground_bool
    · exact kf_Ground_tuple
    · exact kf_Ground_str
    · exact kf_Ground_int
    · exact kf_Ground_list
  have T : Txt K w mg c_Ground c_BadTime c_NoGround c_NoPlace c_NoProof c_NoKind c_BadText c_NoDeed c_NoRow c_TooMany c_NotDone c_NoBook c_NoCall c_NoEngine c_NoEngines c_NoText c_Nothing c_NoSaying := { z_len := PySem.W.mg_none_of X G z_len, z_abs := PySem.W.mg_none_of X G z_abs, z_all := PySem.W.mg_none_of X G z_all, z_any := PySem.W.mg_none_of X G z_any, z_str := PySem.W.mg_none_of X G z_str, z_int := PySem.W.mg_none_of X G z_int, z_isinstance := PySem.W.mg_none_of X G z_isinstance, z_range := PySem.W.mg_none_of X G z_range, z_max := PySem.W.mg_none_of X G z_max, z_min := PySem.W.mg_none_of X G z_min, z_bool := PySem.W.mg_none_of X G z_bool, z_list := PySem.W.mg_none_of X G z_list, z_tuple := PySem.W.mg_none_of X G z_tuple, z_zip := PySem.W.mg_none_of X G z_zip, z_enumerate := PySem.W.mg_none_of X G z_enumerate, z_sorted := PySem.W.mg_none_of X G z_sorted, z_dict := PySem.W.mg_none_of X G z_dict, z_KeyError := PySem.W.mg_none_of X G z_KeyError, g_LETTERS := gw_LETTERS, g_LONGEST_NAME := gw_LONGEST_NAME, g_SLOW_HOURS := gw_SLOW_HOURS, g_MOST_PLACES := gw_MOST_PLACES, g_MOST_ROADS := gw_MOST_ROADS, g_MOST_STATIONS := gw_MOST_STATIONS, g_MOST_RISK := gw_MOST_RISK, g_MOST_MINUTES := gw_MOST_MINUTES, g_MOST_SLOW := gw_MOST_SLOW, gk_BadTime := ⟨.ref c_BadTime, .ref c_BadTime, gx_BadTime, rfl, fun _ _ => .ref _⟩, gk_NoGround := ⟨.ref c_NoGround, .ref c_NoGround, gx_NoGround, rfl, fun _ _ => .ref _⟩, gk_NoPlace := ⟨.ref c_NoPlace, .ref c_NoPlace, gx_NoPlace, rfl, fun _ _ => .ref _⟩, gk_NoProof := ⟨.ref c_NoProof, .ref c_NoProof, gx_NoProof, rfl, fun _ _ => .ref _⟩, gk_NoKind := ⟨.ref c_NoKind, .ref c_NoKind, gx_NoKind, rfl, fun _ _ => .ref _⟩, gk_BadText := ⟨.ref c_BadText, .ref c_BadText, gx_BadText, rfl, fun _ _ => .ref _⟩, gk_NoDeed := ⟨.ref c_NoDeed, .ref c_NoDeed, gx_NoDeed, rfl, fun _ _ => .ref _⟩, gk_NoRow := ⟨.ref c_NoRow, .ref c_NoRow, gx_NoRow, rfl, fun _ _ => .ref _⟩, gk_TooMany := ⟨.ref c_TooMany, .ref c_TooMany, gx_TooMany, rfl, fun _ _ => .ref _⟩, gk_NotDone := ⟨.ref c_NotDone, .ref c_NotDone, gx_NotDone, rfl, fun _ _ => .ref _⟩, gk_NoBook := ⟨.ref c_NoBook, .ref c_NoBook, gx_NoBook, rfl, fun _ _ => .ref _⟩, gk_NoCall := ⟨.ref c_NoCall, .ref c_NoCall, gx_NoCall, rfl, fun _ _ => .ref _⟩, gk_NoEngine := ⟨.ref c_NoEngine, .ref c_NoEngine, gx_NoEngine, rfl, fun _ _ => .ref _⟩, gk_NoEngines := ⟨.ref c_NoEngines, .ref c_NoEngines, gx_NoEngines, rfl, fun _ _ => .ref _⟩, gk_NoText := ⟨.ref c_NoText, .ref c_NoText, gx_NoText, rfl, fun _ _ => .ref _⟩, gk_Nothing := ⟨.ref c_Nothing, .ref c_Nothing, gx_Nothing, rfl, fun _ _ => .ref _⟩, gk_NoSaying := ⟨.ref c_NoSaying, .ref c_NoSaying, gx_NoSaying, rfl, fun _ _ => .ref _⟩, xm_NoPlace_NoPlace := PySem.W.exm_ref be_NoPlace hx_NoPlace te_NoPlace sx_NoPlace, kk_NoPlace_BadTime := kk_NoPlace_BadTime, kk_NoPlace_NoGround := kk_NoPlace_NoGround, kk_NoPlace_NoPlace := kk_NoPlace_NoPlace, kk_NoPlace_NoProof := kk_NoPlace_NoProof, kk_NoPlace_NoKind := kk_NoPlace_NoKind, kk_NoPlace_BadText := kk_NoPlace_BadText, kk_NoPlace_NoDeed := kk_NoPlace_NoDeed, kk_NoPlace_NoRow := kk_NoPlace_NoRow, kk_NoPlace_TooMany := kk_NoPlace_TooMany, kk_NoPlace_NotDone := kk_NoPlace_NotDone, kk_NoPlace_NoBook := kk_NoPlace_NoBook, kk_NoPlace_NoCall := kk_NoPlace_NoCall, kk_NoPlace_NoEngine := kk_NoPlace_NoEngine, kk_NoPlace_NoEngines := kk_NoPlace_NoEngines, kk_NoPlace_NoText := kk_NoPlace_NoText, kk_NoPlace_Nothing := kk_NoPlace_Nothing, kk_NoPlace_NoSaying := kk_NoPlace_NoSaying, kb_NoPlace_KeyError := kb_NoPlace_KeyError, xc_NoPlace := ⟨x1_NoPlace, x2_NoPlace, be_NoPlace, hx_NoPlace, x5_NoPlace, e6, e7, x8_NoPlace⟩, xf_NoPlace_place := nx_NoPlace_place, xall_NoPlace := (fun D h => by rw [List.mem_singleton.mp h]; exact XC_NoPlace), xfld_NoPlace_place := (fun D h => by rw [List.mem_singleton.mp h]; exact ⟨XC_NoPlace, nx_NoPlace_place⟩), nf_Ground := NF_Ground, ow_Ground := ⟨⟨pg_Ground, hdC_Ground, po_Ground, sa_Ground⟩, e5_Ground, e6, e7, e8_Ground, kt_Ground, KF_Ground⟩, ne_Ground := ne_Ground, gc_Ground := G_Ground, cl_Ground := ⟨pg_Ground, hdC_Ground, po_Ground, sa_Ground⟩, n_Ground_risks := na_Ground_risks, n_Ground_places := na_Ground_places, n_Ground_roads := na_Ground_roads, n_Ground_stations := na_Ground_stations, n_Ground_sorted_places := na_Ground_sorted_places, n_Ground_sorted_roads := na_Ground_sorted_roads, n_Ground_sorted_stations := na_Ground_sorted_stations }
  refine ⟨fd_law, [(cc_law, tt_law)], _, (fun p hp => by
    simp only [List.mem_cons, List.not_mem_nil, or_false] at hp
    rcases hp with rfl
    · exact (TF _ _ _ _ tr_law tk_law).2), (fun p hp => by
    simp only [List.mem_cons, List.not_mem_nil, or_false] at hp
    rcases hp with rfl
    · exact tn_law), (fun p hp => by
    simp only [List.mem_cons, List.not_mem_nil, or_false] at hp
    rcases hp with rfl
    · exact (TF _ _ _ _ tr_law tk_law).1), fun s v => FunD.bindsA (ps := ["_law_script"]) D_law (fun _ _ _ _ _ _ us hl => match us, hl with | [_], _ => rfl) s [v] rfl, fun H a ns hl hbits hT hS => law_spT [(tt_law, ("law.<locals>.<lambda>" : Str))] (fun p hp => by
    simp only [List.mem_cons, List.not_mem_nil, or_false] at hp
    rcases hp with rfl
    · exact hT (cc_law, tt_law) (by simp)) hS (show (sp_law c_Ground c_NoPlace tt_law) [.scr ns] _ _ _ from ⟨ns, rfl, hl, (by exact up_same), stoT_nt, fun _ => rfl⟩), fun base _ _ hTB => ?_⟩
  have tb_law := hTB (cc_law, tt_law) (by simp)
  have R_law_bag : FnOk l.prog w K mg base CX0 1 f_law_bag _ _ (uSp K (sp_law_bag)) := ok_law_bag F_law_bag T
  have R_law_take : FnOk l.prog w K mg base CX0 1 f_law_take _ _ (uSp K (sp_law_take)) := ok_law_take F_law_take T
  have R_law_names : FnOk l.prog w K mg base CX0 2 f_law_names _ _ (uSp K (sp_law_names)) := ok_law_names F_law_names T ⟨_, _, _, R_law_take, g_law_take, k_law_take, b_law_take⟩
  have R_law_ground : FnOk l.prog w K mg base CX0 3 f_law_ground _ _ (uSp K (sp_law_ground)) := ok_law_ground F_law_ground T ⟨_, _, _, R_law_take, g_law_take, k_law_take, b_law_take⟩ ⟨_, _, _, R_law_names, g_law_names, k_law_names, b_law_names⟩
  have R_is_tuple_within : FnOk l.prog w K mg base CX0 1 f_is_tuple_within _ _ (uSp K (sp_is_tuple_within)) := ok_is_tuple_within F_is_tuple_within T
  have R_check_size : FnOk l.prog w K mg base CX0 2 f_check_size _ _ (uSp K (sp_check_size)) := ok_check_size F_check_size T ⟨_, _, _, R_is_tuple_within, g_is_tuple_within, k_is_tuple_within, b_is_tuple_within⟩
  have R_is_name : FnOk l.prog w K mg base CX0 1 f_is_name _ _ (uSp K (sp_is_name)) := ok_is_name F_is_name T
  have R_is_whole : FnOk l.prog w K mg base CX0 1 f_is_whole _ _ (uSp K (sp_is_whole)) := ok_is_whole F_is_whole T
  have R_is_whole_within : FnOk l.prog w K mg base CX0 2 f_is_whole_within _ _ (uSp K (sp_is_whole_within)) := ok_is_whole_within F_is_whole_within T ⟨_, _, _, R_is_whole, g_is_whole, k_is_whole, b_is_whole⟩
  have R_is_place_with_risk : FnOk l.prog w K mg base CX0 3 f_is_place_with_risk _ _ (uSp K (sp_is_place_with_risk)) := ok_is_place_with_risk F_is_place_with_risk T ⟨_, _, _, R_is_tuple_within, g_is_tuple_within, k_is_tuple_within, b_is_tuple_within⟩ ⟨_, _, _, R_is_name, g_is_name, k_is_name, b_is_name⟩ ⟨_, _, _, R_is_whole_within, g_is_whole_within, k_is_whole_within, b_is_whole_within⟩
  have R_checked_risks : FnOk l.prog w K mg base CX0 4 f_checked_risks _ _ (uSp K (sp_checked_risks)) := ok_checked_risks F_checked_risks T ⟨_, _, _, R_check_size, g_check_size, k_check_size, b_check_size⟩ ⟨_, _, _, R_is_place_with_risk, g_is_place_with_risk, k_is_place_with_risk, b_is_place_with_risk⟩
  have R_is_place_among : FnOk l.prog w K mg base CX0 2 f_is_place_among _ _ (uSp K (sp_is_place_among)) := ok_is_place_among F_is_place_among T ⟨_, _, _, R_is_name, g_is_name, k_is_name, b_is_name⟩
  have R_is_road_among : FnOk l.prog w K mg base CX0 3 f_is_road_among _ _ (uSp K (sp_is_road_among)) := ok_is_road_among F_is_road_among T ⟨_, _, _, R_is_tuple_within, g_is_tuple_within, k_is_tuple_within, b_is_tuple_within⟩ ⟨_, _, _, R_is_place_among, g_is_place_among, k_is_place_among, b_is_place_among⟩ ⟨_, _, _, R_is_whole_within, g_is_whole_within, k_is_whole_within, b_is_whole_within⟩
  have R_ends_of : FnOk l.prog w K mg base CX0 1 f_ends_of _ _ (uSp K (sp_ends_of)) := ok_ends_of F_ends_of T
  have R_check_roads : FnOk l.prog w K mg base CX0 4 f_check_roads _ _ (uSp K (sp_check_roads)) := ok_check_roads F_check_roads T ⟨_, _, _, R_check_size, g_check_size, k_check_size, b_check_size⟩ ⟨_, _, _, R_is_road_among, g_is_road_among, k_is_road_among, b_is_road_among⟩ ⟨_, _, _, R_ends_of, g_ends_of, k_ends_of, b_ends_of⟩
  have R_check_stations : FnOk l.prog w K mg base CX0 3 f_check_stations _ _ (uSp K (sp_check_stations)) := ok_check_stations F_check_stations T ⟨_, _, _, R_check_size, g_check_size, k_check_size, b_check_size⟩ ⟨_, _, _, R_is_place_among, g_is_place_among, k_is_place_among, b_is_place_among⟩
  have R_Ground__init_ : FnOk l.prog w K mg base CX0 5 f_Ground__init_ _ _ (uSp K (sp_Ground__init_ c_Ground)) := ok_Ground__init_ F_Ground__init_ T ⟨_, _, _, R_checked_risks, g_checked_risks, k_checked_risks, b_checked_risks⟩ ⟨_, _, _, R_check_roads, g_check_roads, k_check_roads, b_check_roads⟩ ⟨_, _, _, R_check_stations, g_check_stations, k_check_stations, b_check_stations⟩ ⟨_, _, _, R_ends_of, g_ends_of, k_ends_of, b_ends_of⟩
  have R_law_odd : FnOk l.prog w K mg base CX0 2 f_law_odd _ _ (uSp K (sp_law_odd)) := ok_law_odd F_law_odd T ⟨_, _, _, R_law_take, g_law_take, k_law_take, b_law_take⟩
  have R_law_kind := okP_law_kind (P := l.prog) (w := w) (mg := mg) (base := base) F_law_kind T
  have R_law_told := okL_law_told (P := l.prog) (w := w) (mg := mg) (base := base) F_law_told T ⟨_, _, _, R_law_kind, g_law_kind, k_law_kind, b_law_kind⟩ gx_NoPlace ex_NoPlace g_law_told k_law_told b_law_told
  have R_Ground_check_place : FnOk l.prog w K mg base (L2.CX l.prog w) 3 f_Ground_check_place _ _ (uSp K (sp_Ground_check_place c_Ground c_NoPlace)) := ok_Ground_check_place F_Ground_check_place T ⟨_, _, _, R_is_place_among, g_is_place_among, k_is_place_among, b_is_place_among⟩ ⟨_, _, _, GX_NoPlace, ix_NoPlace, ti_NoPlace, ok_NPi F_NoPlace__init_ (PySem.W.mg_none_of X G z_KeyError) GX_NoPlace nx_NoPlace_place vV_NoPlace, b_NoPlace__init_, gx_NoPlace⟩
  have R_least_minutes : FnOk l.prog w K mg base CX0 1 f_least_minutes _ _ (uSp K (sp_least_minutes)) := ok_least_minutes F_least_minutes T
  have R_Ground_links : FnOk l.prog w K mg base CX0 1 f_Ground_links _ _ (uSp K (sp_Ground_links c_Ground)) := ok_Ground_links F_Ground_links T
  have R_Ground_minutes : FnOk l.prog w K mg base (L2.CX l.prog w) 4 f_Ground_minutes _ _ (uSp K (sp_Ground_minutes c_Ground c_NoPlace)) := ok_Ground_minutes F_Ground_minutes T ⟨_, _, _, _, _, R_Ground_check_place, Me_Ground_check_place, b_Ground_check_place, .nil, Flat.nil⟩ ⟨_, _, _, R_least_minutes, g_least_minutes, k_least_minutes, b_least_minutes⟩ ⟨_, _, _, _, _, R_Ground_links, Me_Ground_links, b_Ground_links, .nil, Flat.nil⟩
  have R_Ground_road : FnOk l.prog w K mg base (L2.CX l.prog w) 4 f_Ground_road _ _ (uSp K (sp_Ground_road c_Ground c_NoPlace)) := ok_Ground_road F_Ground_road T ⟨_, _, _, _, _, R_Ground_check_place, Me_Ground_check_place, b_Ground_check_place, .nil, Flat.nil⟩
  have R_Ground_risk : FnOk l.prog w K mg base (L2.CX l.prog w) 4 f_Ground_risk _ _ (uSp K (sp_Ground_risk c_Ground c_NoPlace)) := ok_Ground_risk F_Ground_risk T ⟨_, _, _, _, _, R_Ground_check_place, Me_Ground_check_place, b_Ground_check_place, .nil, Flat.nil⟩
  have R_Ground_station_of : FnOk l.prog w K mg base (L2.CX l.prog w) 4 f_Ground_station_of _ _ (uSp K (sp_Ground_station_of c_Ground c_NoPlace)) := ok_Ground_station_of F_Ground_station_of T ⟨_, _, _, _, _, R_Ground_check_place, Me_Ground_check_place, b_Ground_check_place, .nil, Flat.nil⟩
  have R_law_is : FnOk l.prog w K mg base CX0 1 f_law_is _ _ (uSp K (sp_law_is)) := ok_law_is F_law_is T
  obtain ⟨ds3_Ground_minutes, h3_Ground_minutes, b3_Ground_minutes⟩ := F_Ground_minutes.binds1 (ps := ["self", "start", "goal", "hour", "shut"]) 3 0 (fun z => nomatch z) rfl fun _ _ _ _ _ _ _ us its h1 h2 => match us, its, h1, h2 with | [_, _, _], [_, _], _, _ => ⟨_, rfl, rfl⟩
  obtain ⟨dd2x0x1x2x3x5_Ground_road, hd2x0x1x2x3x5_Ground_road, kd2x0x1x2x3x5_Ground_road⟩ := kbn_mkD (ps := ["self", "start", "goal", "hour", "shut"]) (ks := ["hour"]) (n := 3) (ix := [0, 1, 2, 3, 5]) F_Ground_road (fun z => nomatch z) fun _ _ _ _ _ _ _ us ws its h1 h2 h3 => match us, ws, its, h1, h2, h3 with | [_, _, _], [_], [_, _], _, _, _ => ⟨_, rfl, rfl⟩
  obtain ⟨ds2_Ground_station_of, h2_Ground_station_of, b2_Ground_station_of⟩ := F_Ground_station_of.binds1 (ps := ["self", "place", "hour", "shut"]) 2 0 (fun z => nomatch z) rfl fun _ _ _ _ _ _ _ us its h1 h2 => match us, its, h1, h2 with | [_, _], [_, _], _, _ => ⟨_, rfl, rfl⟩
  obtain ⟨ds3_Ground_road, h3_Ground_road, b3_Ground_road⟩ := F_Ground_road.binds1 (ps := ["self", "start", "goal", "hour", "shut"]) 3 0 (fun z => nomatch z) rfl fun _ _ _ _ _ _ _ us its h1 h2 => match us, its, h1, h2 with | [_, _, _], [_, _], _, _ => ⟨_, rfl, rfl⟩
  have r : FnOk l.prog w K mg base CX0 7 fa _ _ (uSp K (sp_law c_Ground c_NoPlace tt_law)) := ok_law F_law T ⟨_, _, _, R_law_bag, g_law_bag, k_law_bag, b_law_bag⟩ ⟨_, _, _, R_law_ground, g_law_ground, k_law_ground, b_law_ground⟩ ⟨_, _, _, _, _, Mk_Ground, R_Ground__init_, G_Ground, b_Ground__init_, .nil, Flat.nil⟩ ⟨_, _, _, R_law_odd, g_law_odd, k_law_odd, b_law_odd⟩ ⟨_, _, _, R_law_take, g_law_take, k_law_take, b_law_take⟩ R_law_told ⟨_, _, _, _, _, R_Ground_minutes, Me_Ground_minutes, b3_Ground_minutes, h3_Ground_minutes, (fun _ _ => (.cons (.int _) (.cons .non .nil)))⟩ ⟨_, _, _, _, _, R_Ground_road, Me_Ground_road, kd2x0x1x2x3x5_Ground_road, (fun _ _ => (.cons (.int _) (.cons .non .nil)))⟩ ⟨_, _, _, _, _, R_Ground_risk, Me_Ground_risk, b_Ground_risk, .nil, Flat.nil⟩ ⟨_, _, _, _, _, R_Ground_station_of, Me_Ground_station_of, b2_Ground_station_of, h2_Ground_station_of, (fun _ _ => (.cons (.int _) (.cons .non .nil)))⟩ ⟨_, _, _, R_law_is, g_law_is, k_law_is, b_law_is⟩ ⟨_, _, _, _, _, R_Ground_road, Me_Ground_road, b3_Ground_road, h3_Ground_road, (fun _ _ => (.cons (.int _) (.cons .non .nil)))⟩ ⟨_, _, _, _, _, (FnOk.calmU R_Ground_minutes calm_Ground_minutes), Me_Ground_minutes, b3_Ground_minutes, h3_Ground_minutes, (fun _ _ => (.cons (.int _) (.cons .non .nil)))⟩ hcode_law tb_law
  exact r
end DL
set_option maxHeartbeats 0
namespace DL
open PySem PySem.Spec PyProof.Rows L2
theorem facts {l : PySem.W.OpenLaw} {w : World} {K : PySem.W.Frag} {h : Heap} {mg : Str → Option Value} {f : Addr} (TF : TabFacts qv K h) (KX : K.In h) (G : h.Ns mainGlobals mg) (hfa : mg ("law" : Str) = some (.ref f)) (c : SaysX fa fn ds w K) : LamX.LawAtS l w K CX0 7 63 "_law_script" mg f h := by
  obtain ⟨fd_NoPlace__init_, D_NoPlace__init_⟩ := c.def_ 0
  obtain ⟨fd_law_bag, D_law_bag⟩ := c.def_ 1
  obtain ⟨fd_law_take, D_law_take⟩ := c.def_ 2
  obtain ⟨fd_law_names, D_law_names⟩ := c.def_ 3
  obtain ⟨fd_law_ground, D_law_ground⟩ := c.def_ 4
  obtain ⟨fd_is_tuple_within, D_is_tuple_within⟩ := c.def_ 5
  obtain ⟨fd_check_size, D_check_size⟩ := c.def_ 6
  obtain ⟨fd_is_name, D_is_name⟩ := c.def_ 7
  obtain ⟨fd_is_whole, D_is_whole⟩ := c.def_ 8
  obtain ⟨fd_is_whole_within, D_is_whole_within⟩ := c.def_ 9
  obtain ⟨fd_is_place_with_risk, D_is_place_with_risk⟩ := c.def_ 10
  obtain ⟨fd_checked_risks, D_checked_risks⟩ := c.def_ 11
  obtain ⟨fd_is_place_among, D_is_place_among⟩ := c.def_ 12
  obtain ⟨fd_is_road_among, D_is_road_among⟩ := c.def_ 13
  obtain ⟨fd_ends_of, D_ends_of⟩ := c.def_ 14
  obtain ⟨fd_check_roads, D_check_roads⟩ := c.def_ 15
  obtain ⟨fd_check_stations, D_check_stations⟩ := c.def_ 16
  obtain ⟨fd_Ground__init_, D_Ground__init_⟩ := c.def_ 17
  obtain ⟨fd_law_odd, D_law_odd⟩ := c.def_ 18
  obtain ⟨fd_law_kind, D_law_kind⟩ := c.def_ 19
  obtain ⟨fd_law_told, D_law_told⟩ := c.def_ 20
  obtain ⟨fd_Ground_check_place, D_Ground_check_place⟩ := c.def_ 21
  obtain ⟨fd_least_minutes, D_least_minutes⟩ := c.def_ 22
  obtain ⟨fd_Ground_links, D_Ground_links⟩ := c.def_ 23
  obtain ⟨fd_Ground_minutes, D_Ground_minutes⟩ := c.def_ 24
  obtain ⟨fd_Ground_road, D_Ground_road⟩ := c.def_ 25
  obtain ⟨fd_Ground_risk, D_Ground_risk⟩ := c.def_ 26
  obtain ⟨fd_Ground_station_of, D_Ground_station_of⟩ := c.def_ 27
  obtain ⟨fd_law_is, D_law_is⟩ := c.def_ 28
  obtain ⟨fd_law, D_law⟩ := c.def_ 29
  exact all_mk TF KX G hfa (c_NoPlace := (He.ga K "NoPlace")) (f_NoPlace__init_ := (He.fAd K ("NoPlace", some "__init__"))) (c_BadTime := (He.ga K "BadTime")) (c_NoGround := (He.ga K "NoGround")) (c_NoProof := (He.ga K "NoProof")) (c_NoKind := (He.ga K "NoKind")) (c_BadText := (He.ga K "BadText")) (c_NoDeed := (He.ga K "NoDeed")) (c_NoRow := (He.ga K "NoRow")) (c_TooMany := (He.ga K "TooMany")) (c_NotDone := (He.ga K "NotDone")) (c_NoBook := (He.ga K "NoBook")) (c_NoCall := (He.ga K "NoCall")) (c_NoEngine := (He.ga K "NoEngine")) (c_NoEngines := (He.ga K "NoEngines")) (c_NoText := (He.ga K "NoText")) (c_Nothing := (He.ga K "Nothing")) (c_NoSaying := (He.ga K "NoSaying")) (c_Ground := (He.ga K "Ground")) (f_law_bag := (He.fAd K ("_law_bag", none))) (f_law_take := (He.fAd K ("_law_take", none))) (f_law_names := (He.fAd K ("_law_names", none))) (f_law_ground := (He.fAd K ("_law_ground", none))) (f_is_tuple_within := (He.fAd K ("is_tuple_within", none))) (f_check_size := (He.fAd K ("check_size", none))) (f_is_name := (He.fAd K ("is_name", none))) (f_is_whole := (He.fAd K ("is_whole", none))) (f_is_whole_within := (He.fAd K ("is_whole_within", none))) (f_is_place_with_risk := (He.fAd K ("is_place_with_risk", none))) (f_checked_risks := (He.fAd K ("checked_risks", none))) (f_is_place_among := (He.fAd K ("is_place_among", none))) (f_is_road_among := (He.fAd K ("is_road_among", none))) (f_ends_of := (He.fAd K ("ends_of", none))) (f_check_roads := (He.fAd K ("check_roads", none))) (f_check_stations := (He.fAd K ("check_stations", none))) (f_Ground__init_ := (He.fAd K ("Ground", some "__init__"))) (f_law_odd := (He.fAd K ("_law_odd", none))) (f_law_kind := (He.fAd K ("_law_kind", none))) (f_law_told := (He.fAd K ("_law_told", none))) (f_Ground_check_place := (He.fAd K ("Ground", some "check_place"))) (f_least_minutes := (He.fAd K ("least_minutes", none))) (f_Ground_links := (He.fAd K ("Ground", some "links"))) (f_Ground_minutes := (He.fAd K ("Ground", some "minutes"))) (f_Ground_road := (He.fAd K ("Ground", some "road"))) (f_Ground_risk := (He.fAd K ("Ground", some "risk"))) (f_Ground_station_of := (He.fAd K ("Ground", some "station_of"))) (f_law_is := (He.fAd K ("_law_is", none))) (f_law := (He.fAd K ("law", none))) (cc_law := (ccT K "law")) (tt_law := (ttT K "law"))
    (decX (c.fact 0))
    (c.fact 1)
    (c.fact 2)
    (decX (c.fact 3))
    (c.fact 4)
    (decX (c.fact 5))
    (decX (c.fact 6))
    (decX (c.fact 7))
    (c.fact 8)
    (decX (c.fact 9))
    (decX (c.fact 10))
    (decX (c.fact 11))
    (vVB_ok (c.fact 12))
    D_NoPlace__init_
    (decX (c.fact 13))
    (decX (c.fact 14))
    (decX (c.fact 15))
    (decX (c.fact 16))
    (decX (c.fact 17))
    (decX (c.fact 18))
    (decX (c.fact 19))
    (decX (c.fact 20))
    (decX (c.fact 21))
    (decX (c.fact 22))
    (decX (c.fact 23))
    (decX (c.fact 24))
    (decX (c.fact 25))
    (decX (c.fact 26))
    (decX (c.fact 27))
    (decX (c.fact 28))
    (decX (c.fact 29))
    (decX (c.fact 30))
    (decX (c.fact 31))
    (decX (c.fact 32))
    (decX (c.fact 33))
    (decX (c.fact 34))
    (decX (c.fact 35))
    (decX (c.fact 36))
    (decX (c.fact 37))
    (decX (c.fact 38))
    (decX (c.fact 39))
    (decX (c.fact 40))
    (decX (c.fact 41))
    (decX (c.fact 42))
    (decX (c.fact 43))
    (decX (c.fact 44))
    (decX (c.fact 45))
    (decX (c.fact 46))
    (decX (c.fact 47))
    (decX (c.fact 48))
    (decX (c.fact 49))
    (decX (c.fact 50))
    (decX (c.fact 51))
    (c.fact 52)
    (c.fact 53)
    (c.fact 54)
    (decX (c.fact 55))
    (decX (c.fact 56))
    (decX (c.fact 57))
    (decX (c.fact 58))
    (decX (c.fact 59))
    (decX (c.fact 60))
    (decX (c.fact 61))
    (decX (c.fact 62))
    (c.fact 63)
    (decX (c.fact 64))
    (c.fact 65)
    (c.fact 66)
    (decX (c.fact 67))
    D_law_bag
    (decX (c.fact 68))
    D_law_take
    (decX (c.fact 69))
    D_law_names
    (decX (c.fact 70))
    D_law_ground
    (decX (c.fact 71))
    D_is_tuple_within
    (decX (c.fact 72))
    D_check_size
    (decX (c.fact 73))
    D_is_name
    (decX (c.fact 74))
    D_is_whole
    (decX (c.fact 75))
    D_is_whole_within
    (decX (c.fact 76))
    D_is_place_with_risk
    (decX (c.fact 77))
    D_checked_risks
    (decX (c.fact 78))
    D_is_place_among
    (decX (c.fact 79))
    D_is_road_among
    (decX (c.fact 80))
    D_ends_of
    (decX (c.fact 81))
    D_check_roads
    (decX (c.fact 82))
    D_check_stations
    D_Ground__init_
    (decX (c.fact 83))
    D_law_odd
    (decX (c.fact 84))
    D_law_kind
    (decX (c.fact 85))
    D_law_told
    (decX (c.fact 86))
    D_Ground_check_place
    (c.fact 87)
    (decX (c.fact 88))
    D_least_minutes
    (decX (c.fact 89))
    D_Ground_links
    (c.fact 90)
    (decX (c.fact 91))
    D_Ground_minutes
    (c.fact 92)
    (decX (c.fact 93))
    D_Ground_road
    (c.fact 94)
    (decX (c.fact 95))
    D_Ground_risk
    (c.fact 96)
    (decX (c.fact 97))
    D_Ground_station_of
    (c.fact 98)
    (decX (c.fact 99))
    D_law_is
    (decX (c.fact 100))
    D_law
    (decX (c.fact 101))
    (by first | rfl | kernel_rfl)
    (Option.isNone_iff_eq_none.mp (c.fact 102))
    (decX (c.fact 103))
    (decX (c.fact 104))
    (decX (c.fact 105))
    (decX (c.fact 106))
    (decX (c.fact 107))
    (decX (c.fact 108))
    (decX (c.fact 109))
    (c.fact 110)
    (decX (c.fact 111))
    (c.fact 112)
    (decX (c.fact 113))
    (c.fact 114)
    (decX (c.fact 115))
    (c.fact 116)
    (decX (c.fact 117))
    (c.fact 118)
    (decX (c.fact 119))
    (c.fact 120)
    (decX (c.fact 121))
    (decX (c.fact 122))
    (decX (c.fact 123))
    (decX (c.fact 124))
    (decX (c.fact 125))
    (decX (c.fact 126))
    (decX (c.fact 127))
    (decX (c.fact 128))
    (decX (c.fact 129))
    (decX (c.fact 130))
    (decX (c.fact 131))
    (decX (c.fact 132))
    (decX (c.fact 133))
    (decX (c.fact 134))
    (decX (c.fact 135))
    (decX (c.fact 136))
    (decX (c.fact 137))
    (decX (c.fact 138))
    (gwXB_ok KX G (c.fact 139))
    (gwXB_ok KX G (c.fact 140))
    (gwXB_ok KX G (c.fact 141))
    (gwXB_ok KX G (c.fact 142))
    (gwXB_ok KX G (c.fact 143))
    (gwXB_ok KX G (c.fact 144))
    (gwXB_ok KX G (c.fact 145))
    (gwXB_ok KX G (c.fact 146))
    (gwXB_ok KX G (c.fact 147))
end DL
open PySem PySem.W PySem.Calls PyProof.Rows
theorem PySem.Challenge.cw_whistleboard_k06_no_places_holds : PySem.Challenge.rw_whistleboard_k06_no_places.Holds := by
  w_on; o_law
  refine HandSHeadRun.head_any (r := OpenLaw.row PySem.Challenge.rw_whistleboard_k06_no_places) (q := DL.qv) (H := DL.hk) (ob := DL.ob) (M := 40000) (loose := DL.loose) (d := HandSHeadRun.topDef (OpenLaw.row PySem.Challenge.rw_whistleboard_k06_no_places).prog 54) (kwd := []) DL.ob_eq
    (by kernel_rfl) (fun s => by kernel_rfl) DL.run (by kernel_rfl) (by kernel_rfl) (by kernel_rfl) (by rfl) (by first | assumption | decide +kernel) (by decide +kernel) ⟨rfl, rfl, rfl, rfl, rfl, by decide +kernel⟩ ?hw ?hc
  case hw => w_witness2
  case hc =>
    refine DL.walk_tabsE (l := PySem.Challenge.rw_whistleboard_k06_no_places) (n := 63) (k := 7) (x := "_law_script") (CX := fun _ => L2.CX0) rfl (by decide) (by kernel_rfl) ⟨rfl, by decide, by decide⟩ ?F (fun _ _ _ _ _ h => h)
    intro w mg fa h Y G hmg0
    obtain ⟨K, KX, c⟩ := Y
    have hmg : mg ("law" : PySem.Str) = some (.ref fa) := by
      have e : (HandSHeadRun.topDef (OpenLaw.row PySem.Challenge.rw_whistleboard_k06_no_places).prog 54).name = ("law" : PySem.Str) := by kernel_rfl
      rw [← e]
      exact hmg0
    exact ⟨K, KX, fun TF => DL.facts TF KX G hmg c⟩
