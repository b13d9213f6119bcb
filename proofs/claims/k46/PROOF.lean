import PyProof.Rows.All
import Wide.All
import OpenK.AllK
import Wide.FinOn
import PySem.Challenge.RW_whistleboard_k46_whole_lines
import HandS.Head0
import HandS.Head1
import HandS.Head2
import HandS.HeadEnd
import HandS.HeadHook1
import HandS.HeadHook2
import HandS.HeadHook3
import HandS.HeadWalk
import HandS.Words
import HandS.ExcInit
import KE.KExcInit
import HandS.ForMost
import HandS.ForExc
import HandS.Flow
import HandS.IsInst
import HandS.More
import HandS.Walk
import HandS.Zip
import HandS.Defaults
import HandS.CallSlots
import HandS.MakeKw
import HandS.FStr
import HandS.Lambda
import HandS.TupAny
import HandS.Deep
import KE.GoesEnum
import KE.GoesMore
import KE.SortData
import HandS.SetKeys
import HandS.SetBool
import HandS.MakeKwOnly
import HandS.Style
import HandS.SetFor
import PyProof.Rows.IntBool
import HandS.Text
import HandS.Strs
import HandS.RaiseMore
import KE.IntTextLaws
import HandS.OwnEq
import KE.KFmtOwn
import PyProof.InstNe
import PyProof.NeKinds
import PyProof.P3Eq
import KE.DataMinMax
import KE.KEqDict
import HandS.DictComp
import HandS.TryOnly
import KE.GoesZip
import HandS.Iter
import OpenK.KOps
import HandS.HotCalls
import HandS.ExcField
import HandS.ExcIs
import KE.KExcIs
import HandS.EndTab
import KE.KNest
import KE.KDictPairs
import HandS.Sort
import KE.KDictSum
import HandS.Conv
import KE.KDflt
import HandS.Exc
import PyProof.ExcBaseAll.LookupError
import PyProof.Rows.FactsExc_KeyError
set_option Elab.async false
set_option linter.all false
set_option maxRecDepth 100000
set_option maxHeartbeats 4000000
namespace DL
open PySem PySem.Spec PyProof.Rows L2
abbrev Tk0 := PySem.W.Frag → Bool
abbrev AlX : Type := Bool × List He.FnW × List (Option (List (Option (Str × Int))))
def fnsA (K : PySem.W.Frag) : List He.DefD → List He.FnW
  | [] => []
  | d :: r => He.fnW K d.at_ :: fnsA K r
def fnsB : List He.DefD → List He.FnW
  | [] => []
  | d :: r => He.DefD.val d :: fnsB r
def dicA (K : PySem.W.Frag) : List (Str × List Str) → List (Option (List (Option (Str × Int))))
  | [] => []
  | x :: r => He.dicW K (He.ga K x.1) :: dicA K r
def dicB (P : Params) : List (Str × List Str) → List (Option (List (Option (Str × Int))))
  | [] => []
  | x :: r => some (He.keysIn P x.2) :: dicB P r
theorem fnsA_at {K : PySem.W.Frag} : ∀ {fn : List He.DefD} {i : Nat} {d : He.DefD}, fn[i]? = some d → (fnsA K fn)[i]? = some (He.fnW K d.at_)
  | d0 :: r, 0, d, h => by cases h; rfl
  | d0 :: r, i + 1, d, h => fnsA_at (fn := r) h
theorem fnsB_at : ∀ {fn : List He.DefD} {i : Nat} {d : He.DefD}, fn[i]? = some d → (fnsB fn)[i]? = some (He.DefD.val d)
  | d0 :: r, 0, d, h => by cases h; rfl
  | d0 :: r, i + 1, d, h => fnsB_at (fn := r) h
def allA (K : PySem.W.Frag) : List Tk0 → Bool
  | [] => true
  | f :: r => match f K with
    | true => allA K r
    | false => false
theorem allA_at {K : PySem.W.Frag} : ∀ {fa : List Tk0}, allA K fa = true → ∀ {i : Nat} {f : Tk0}, fa[i]? = some f → f K = true
  | f0 :: r, h, i, f, e => by
    have h : (match f0 K with
      | true => allA K r
      | false => false) = true := h
    cases c : f0 K with
    | false => rw [c] at h; cases h
    | true =>
      rw [c] at h
      cases i with
      | zero => cases e; exact c
      | succ i => exact allA_at (fa := r) h e
def okA (K : PySem.W.Frag) : List He.DefD → Bool
  | [] => true
  | d :: r => match He.DefD.ok K d with
    | true => okA K r
    | false => false
theorem okA_at {K : PySem.W.Frag} : ∀ {fn : List He.DefD}, okA K fn = true → ∀ {i : Nat} {d : He.DefD}, fn[i]? = some d → He.DefD.ok K d = true
  | d0 :: r, h, i, d, e => by
    have h : (match He.DefD.ok K d0 with
      | true => okA K r
      | false => false) = true := h
    cases c : He.DefD.ok K d0 with
    | false => rw [c] at h; cases h
    | true =>
      rw [c] at h
      cases i with
      | zero => cases e; exact c
      | succ i => exact okA_at (fn := r) h e
def obsX (fa : List Tk0) (fn : List He.DefD) (ds : List (Str × List Str)) (K : PySem.W.Frag) : AlX := (allA K fa && okA K fn, fnsA K fn, dicA K ds)
def valX (fn : List He.DefD) (ds : List (Str × List Str)) (w : World) : AlX := (true, fnsB fn, dicB w.params ds)
def SaysX (fa : List Tk0) (fn : List He.DefD) (ds : List (Str × List Str)) (w : World) (K : PySem.W.Frag) : Prop := obsX fa fn ds K = valX fn ds w
def reachK {β : Type} (g : Addr → Option Obj) (k : PySem.W.Frag → β) : Nat → List Addr → PySem.W.BT → PySem.W.Frag → β
  | 0, _, _, acc => k acc
  | n + 1, todo, vis, acc => match todo with
    | [] => k acc
    | a :: r => match (vis.get a).isSome with
      | true => reachK g k n r vis acc
      | false => match g a with
        | none => reachK g k n r vis acc
        | some o => reachK g k n (He.refsD o ++ r) (vis.ins a o) ((a, o) :: acc)
theorem reachK_ok {β : Type} {g : Addr → Option Obj} {k : PySem.W.Frag → β} : ∀ {n : Nat} {todo : List Addr} {vis : PySem.W.BT} {acc : PySem.W.Frag}, (∀ q ∈ acc, g q.1 = some q.2) → ∃ K : PySem.W.Frag, (∀ q ∈ K, g q.1 = some q.2) ∧ reachK g k n todo vis acc = k K
  | 0, _, _, acc, h => ⟨acc, h, rfl⟩
  | n + 1, [], _, acc, h => ⟨acc, h, rfl⟩
  | n + 1, a :: r, vis, acc, h => by
    unfold reachK
    dsimp only
    cases (vis.get a).isSome with
    | true => exact reachK_ok (n := n) h
    | false =>
      dsimp only
      cases e : g a with
      | none => exact reachK_ok (n := n) h
      | some o =>
        refine reachK_ok (n := n) fun q hq => ?_
        rcases List.mem_cons.mp hq with rfl | hq
        · exact e
        · exact h q hq
theorem frag_mem {K : PySem.W.Frag} {a : Addr} {o : Obj} (h : K.lookup a = some o) : (a, o) ∈ K := by
  induction K with
  | nil => cases h
  | cons p K ih =>
    obtain ⟨b, u⟩ := p
    rw [List.lookup_cons] at h
    split at h
    · rename_i c
      rw [beq_iff_eq.mp c, Option.some.inj h]
      exact List.mem_cons_self
    · exact List.mem_cons_of_mem _ (ih h)
section
variable {fa : List Tk0} {fn : List He.DefD} {ds : List (Str × List Str)} {w : World} {K : PySem.W.Frag} (c : SaysX fa fn ds w K)
include c
theorem SaysX.fact (i : Nat) {f : Tk0} (h : fa[i]? = some f := by rfl) : f K = true := by
  have h1 : (allA K fa && okA K fn) = true := congrArg (fun z : AlX => z.1) c
  exact allA_at (Bool.and_eq_true_iff.mp h1).1 h
theorem SaysX.def_ (i : Nat) {d : He.DefD} (h : fn[i]? = some d := by rfl) : ∃ fd, FunD K d.name d.qual d.params d.body d.scope (d.dvs K) (d.kws K) (He.fAd K d.at_) fd := by
  have h1 : (allA K fa && okA K fn) = true := congrArg (fun z : AlX => z.1) c
  have h2 : (fnsA K fn)[i]? = (fnsB fn)[i]? := congrArg (fun z : AlX => z.2.1[i]?) c
  rw [fnsA_at h, fnsB_at h] at h2
  exact He.DefD.funD (Option.some.inj h2) (okA_at (Bool.and_eq_true_iff.mp h1).2 h)
end
theorem fun_of {K : PySem.W.Frag} {x qual : Str} {st : Stmt} {f : Addr} {fd : FuncData} (F : FunD K x qual (defArgs st) (defBody st) (defScope st) [] [] f fd) : Fun K x qual st f fd := by
  obtain ⟨⟨oc, od, dV, kV, doc, pm, an, cdv, ct, osl, e, l, cd, hd, _⟩, kp⟩ := F
  rcases hd with ⟨_, rfl⟩ | ⟨h, _⟩
  · exact ⟨⟨oc, od, kV, doc, pm, an, cdv, ct, osl, e, l, cd⟩, kp⟩
  · exact absurd rfl h
inductive CvX where
  | non
  | bl (b : Bool)
  | int (i : Int)
  | str (x : Str)
  | tup (xs : List CvX)
def svX (x : Str) : Bool := x.cps.all (fun c => decide (c < 1114112)) && decide (x.length ≤ sizeLine)
mutual
def cvXB (K : PySem.W.Frag) : CvX → Value → Bool
  | .non, u => (match u with
    | .none => true
    | _ => false)
  | .bl b, u => (match u with
    | .bool c => c == b
    | _ => false)
  | .int i, u => (match u with
    | .int j _ => decide (j = i)
    | _ => false)
  | .str x, u => (match u with
    | .str y _ => decide (y = x) && svX x
    | _ => false)
  | .tup xs, u => (match u with
    | .ref t => (match K.lookup t with
      | some ⟨.type c, _, .seq its _, _⟩ => decide (c = "tuple") && (decide (its.size ≤ sizeLine) && cvXBs K xs its.toList)
      | _ => false)
    | _ => false)
def cvXBs (K : PySem.W.Frag) : List CvX → List Value → Bool
  | [], us => (match us with
    | [] => true
    | _ => false)
  | c :: cs, us => (match us with
    | u :: us => cvXB K c u && cvXBs K cs us
    | [] => false)
end
def gwXB (K : PySem.W.Frag) (x : Str) (c : CvX) : Bool := match PySem.W.nsIn K mainGlobals x with
  | some (some u) => cvXB K c u
  | _ => false
def clsXB (K : PySem.W.Frag) (C : Addr) (bt : List Value) (new : String) : Bool := PySem.W.excInitIn K C bt new && (PySem.W.clsIn K C).any fun cd => cd.hasDict
theorem clsXB_ok {K : PySem.W.Frag} {C : Addr} {bt : List Value} {new : String} (h : clsXB K C bt new = true) :
    ∃ nm q N bs bm sn sub ab col dd k0 k1 k2 k3 k5, K.lookup C = some (excClassObj nm q C N bs bm true sn sub ab col dd k0 k1 k2 k3 k5 new) ∧ PySem.W.excTail bt bm = true := by
  obtain ⟨h1, h2⟩ := Bool.and_eq_true_iff.mp h
  unfold PySem.W.excInitIn at h1
  unfold PySem.W.clsIn at h2
  split at h1
  · rename_i dd cd sl ho
    rw [ho] at h2
    cases cd with
    | mk nm bs mro ns qn hd sn sub ab col del =>
      simp only [Option.any_some] at h2
      split at h1
      · rename_i C' bm k0 k1 k2 k3 n k5 hm hs
        simp only [Bool.and_eq_true, beq_iff_eq, Bool.not_eq_true'] at h1
        obtain ⟨⟨⟨e1, e2⟩, e3⟩, e4⟩ := h1
        dsimp only at hm e3 h2
        subst e1 e2 e3 h2 hm
        obtain ⟨sa⟩ := sl
        simp only at hs
        subst hs
        exact ⟨nm, qn, ns, bs, bm, sn, sub, ab, col, dd, k0, k1, k2, k3, k5, ho, e4⟩
      · cases h1
  · cases h1
def vVB (K : PySem.W.Frag) (b : String) (z : String) : Bool := match PySem.W.findCls K (.type b) (.type "type") "__init__" with
  | some (.val (.builtin y)) => decide (y = z)
  | _ => false
theorem vVB_ok {K : PySem.W.Frag} {b z : String} (h : vVB K b z = true) : PySem.W.findCls K (.type b) (.type "type") "__init__" = some (.val (.builtin z)) := by
  unfold vVB at h
  split at h
  · rename_i y e
    rw [e, (of_decide_eq_true h : y = z)]
  · cases h
theorem decX {p : Prop} [Decidable p] (h : decide p = true) : p := of_decide_eq_true h
def ccT (K : PySem.W.Frag) (x : Str) : Addr := match PySem.W.tabIn K x with
  | some (c, _) => c
  | none => 0
def ttT (K : PySem.W.Frag) (x : Str) : Addr := match PySem.W.tabIn K x with
  | some (_, p) => p
  | none => 0
def dropFr {β : Type} (a : Nat) (k : PySem.W.Frag → β) : PySem.W.Frag → PySem.W.Frag → β
  | [], acc => k acc
  | q :: r, acc => match Nat.beq q.1 a with
    | true => dropFr a k r acc
    | false => dropFr a k r (q :: acc)
theorem dropFr_ok {β : Type} {a : Nat} {k : PySem.W.Frag → β} : ∀ {K acc : PySem.W.Frag}, ∃ K' : PySem.W.Frag, (∀ q ∈ K', q ∈ K ∨ q ∈ acc) ∧ dropFr a k K acc = k K'
  | [], acc => ⟨acc, fun _ h => .inr h, rfl⟩
  | q :: r, acc => by
    unfold dropFr
    cases Nat.beq q.1 a with
    | true =>
      obtain ⟨K', h1, h2⟩ := dropFr_ok (a := a) (k := k) (K := r) (acc := acc)
      exact ⟨K', fun z hz => (h1 z hz).imp (List.mem_cons_of_mem _) id, h2⟩
    | false =>
      obtain ⟨K', h1, h2⟩ := dropFr_ok (a := a) (k := k) (K := r) (acc := q :: acc)
      refine ⟨K', fun z hz => ?_, h2⟩
      rcases h1 z hz with h | h
      · exact .inl (List.mem_cons_of_mem _ h)
      · rcases List.mem_cons.mp h with rfl | h
        · exact .inl List.mem_cons_self
        · exact .inr h
def firstN {β : Type} (a : Nat) (k : Nat → β) : β := match a with
  | 0 => k 0
  | n + 1 => k (n + 1)
theorem firstN_eq {β : Type} {a : Nat} {k : Nat → β} : firstN a k = k a := by cases a <;> rfl
def cutT {β : Type} (k : PySem.W.Frag → β) : List Str → PySem.W.Frag → β
  | [], K => k K
  | x :: r, K => firstN (ttT K x) fun a => dropFr a (fun K' => cutT k r K') K []
theorem cutT_ok {β : Type} {k : PySem.W.Frag → β} : ∀ {ts : List Str} {K : PySem.W.Frag}, ∃ K' : PySem.W.Frag, (∀ q ∈ K', q ∈ K) ∧ cutT k ts K = k K'
  | [], K => ⟨K, fun _ h => h, rfl⟩
  | x :: r, K => by
    unfold cutT
    rw [firstN_eq]
    obtain ⟨K1, h1, h2⟩ := dropFr_ok (a := ttT K x) (k := fun K' => cutT k r K') (K := K) (acc := [])
    obtain ⟨K2, h3, h4⟩ := cutT_ok (k := k) (ts := r) (K := K1)
    refine ⟨K2, fun q hq => ?_, h2.trans h4⟩
    rcases h1 q (h3 q hq) with h | h
    · exact h
    · exact (List.not_mem_nil h).elim
def obsTG (ts : List Str) (fa : List Tk0) (fn : List He.DefD) (ds : List (Str × List Str)) (g : Addr → Option Obj) : AlX := reachK g (cutT (obsX fa fn ds) ts) 20000 [mainGlobals] .nil []
def hookT (ts : List Str) (fa : List Tk0) (fn : List He.DefD) (ds : List (Str × List Str)) : PySem.W.Hook where
  α := AlX
  obs := fun s => obsTG ts fa fn ds s.heap.get?
  val := valX fn ds
  says := fun w h => ∃ K : PySem.W.Frag, K.In h ∧ SaysX fa fn ds w K
  of := fun w s e => by
    obtain ⟨K, i, q⟩ := reachK_ok (g := s.heap.get?) (k := cutT (obsX fa fn ds) ts) (n := 20000) (todo := [mainGlobals]) (vis := .nil) (acc := []) (fun _ h => (List.not_mem_nil h).elim)
    obtain ⟨K', j, q'⟩ := cutT_ok (k := obsX fa fn ds) (ts := ts) (K := K)
    exact ⟨K', fun a o h => i _ (j _ (frag_mem h)), (q.trans q').symm.trans e⟩
  keeps := fun _ _ _ ⟨K, i, c⟩ k => ⟨K, PySem.W.Frag.In.keeps i k, c⟩
theorem obsTG_eq {ts : List Str} {fa : List Tk0} {fn : List He.DefD} {ds : List (Str × List Str)} (s : PySem.W.SharedT) : obsTG ts fa fn ds (HandSHeadRun.getT s) = (hookT ts fa fn ds).obs s.abs := by
  have e : HandSHeadRun.getT s = s.abs.heap.get? := funext (HandSHeadRun.getT_eq s)
  rw [e]; rfl
theorem reachK_all {β : Type} {g : Addr → Option Obj} : ∀ {n : Nat} {todo : List Addr} {vis : PySem.W.BT} {acc : PySem.W.Frag}, ∃ K : PySem.W.Frag, ∀ k : PySem.W.Frag → β, reachK g k n todo vis acc = k K
  | 0, _, _, acc => ⟨acc, fun _ => rfl⟩
  | n + 1, [], _, acc => ⟨acc, fun _ => rfl⟩
  | n + 1, a :: r, vis, acc => by
    unfold reachK
    dsimp only
    cases (vis.get a).isSome with
    | true => exact reachK_all (n := n)
    | false =>
      dsimp only
      cases e : g a with
      | none => exact reachK_all (n := n)
      | some o => exact reachK_all (n := n)
theorem dropFr_all {β : Type} {a : Nat} : ∀ {K acc : PySem.W.Frag}, ∃ K' : PySem.W.Frag, ∀ k : PySem.W.Frag → β, dropFr a k K acc = k K'
  | [], acc => ⟨acc, fun _ => rfl⟩
  | q :: r, acc => by
    unfold dropFr
    cases Nat.beq q.1 a with
    | true => exact dropFr_all (K := r)
    | false => exact dropFr_all (K := r)
theorem cutT_all {β : Type} : ∀ {ts : List Str} {K : PySem.W.Frag}, ∃ K' : PySem.W.Frag, ∀ k : PySem.W.Frag → β, cutT k ts K = k K'
  | [], K => ⟨K, fun _ => rfl⟩
  | x :: r, K => by
    obtain ⟨K1, h1⟩ := dropFr_all (β := β) (a := ttT K x) (K := K) (acc := [])
    obtain ⟨K2, h2⟩ := cutT_all (β := β) (ts := r) (K := K1)
    exact ⟨K2, fun k => (by
      unfold cutT
      rw [firstN_eq]
      exact (h1 _).trans (h2 k))⟩
theorem obsTG_all {ts : List Str} {g : Addr → Option Obj} : ∃ K : PySem.W.Frag, ∀ (fa : List Tk0) (fn : List He.DefD) (ds : List (Str × List Str)), obsTG ts fa fn ds g = obsX fa fn ds K := by
  obtain ⟨K1, h1⟩ := reachK_all (β := AlX) (g := g) (n := 20000) (todo := [mainGlobals]) (vis := .nil) (acc := [])
  obtain ⟨K2, h2⟩ := cutT_all (β := AlX) (ts := ts) (K := K1)
  exact ⟨K2, fun fa fn ds => (h1 _).trans (h2 _)⟩
theorem allA_app {K : PySem.W.Frag} : ∀ {fa fb : List Tk0}, allA K fa = true → allA K fb = true → allA K (fa ++ fb) = true
  | [], fb, _, h => h
  | f :: r, fb, h1, h => by
    have h1 : (match f K with
      | true => allA K r
      | false => false) = true := h1
    show (match f K with
      | true => allA K (r ++ fb)
      | false => false) = true
    cases c : f K with
    | false => rw [c] at h1; cases h1
    | true => rw [c] at h1; exact allA_app (fa := r) h1 h
theorem okA_app {K : PySem.W.Frag} : ∀ {fa fb : List He.DefD}, okA K fa = true → okA K fb = true → okA K (fa ++ fb) = true
  | [], fb, _, h => h
  | f :: r, fb, h1, h => by
    have h1 : (match He.DefD.ok K f with
      | true => okA K r
      | false => false) = true := h1
    show (match He.DefD.ok K f with
      | true => okA K (r ++ fb)
      | false => false) = true
    cases c : He.DefD.ok K f with
    | false => rw [c] at h1; cases h1
    | true => rw [c] at h1; exact okA_app (fa := r) h1 h
theorem fnsA_app {K : PySem.W.Frag} : ∀ {a b : List He.DefD}, fnsA K (a ++ b) = fnsA K a ++ fnsA K b
  | [], _ => rfl
  | d :: r, b => congrArg (He.fnW K d.at_ :: ·) (fnsA_app (a := r))
theorem fnsB_app : ∀ {a b : List He.DefD}, fnsB (a ++ b) = fnsB a ++ fnsB b
  | [], _ => rfl
  | d :: r, b => congrArg (He.DefD.val d :: ·) (fnsB_app (a := r))
theorem dicA_app {K : PySem.W.Frag} : ∀ {a b : List (Str × List Str)}, dicA K (a ++ b) = dicA K a ++ dicA K b
  | [], _ => rfl
  | x :: r, b => congrArg (He.dicW K (He.ga K x.1) :: ·) (dicA_app (a := r))
theorem dicB_app {P : Params} : ∀ {a b : List (Str × List Str)}, dicB P (a ++ b) = dicB P a ++ dicB P b
  | [], _ => rfl
  | x :: r, b => congrArg (some (He.keysIn P x.2) :: ·) (dicB_app (a := r))
theorem obsTG_app {ts : List Str} {fa fb : List Tk0} {fn fm : List He.DefD} {ds dt : List (Str × List Str)} {w : World} {g : Addr → Option Obj} (h1 : obsTG ts fa fn ds g = valX fn ds w) (h2 : obsTG ts fb fm dt g = valX fm dt w) : obsTG ts (fa ++ fb) (fn ++ fm) (ds ++ dt) g = valX (fn ++ fm) (ds ++ dt) w := by
  obtain ⟨K, e⟩ := obsTG_all (ts := ts) (g := g)
  rw [e] at h1 h2 ⊢
  have a1 : (allA K fa && okA K fn) = true := congrArg (fun z : AlX => z.1) h1
  have a2 : (allA K fb && okA K fm) = true := congrArg (fun z : AlX => z.1) h2
  have b1 : fnsA K fn = fnsB fn := congrArg (fun z : AlX => z.2.1) h1
  have b2 : fnsA K fm = fnsB fm := congrArg (fun z : AlX => z.2.1) h2
  have c1 : dicA K ds = dicB w.params ds := congrArg (fun z : AlX => z.2.2) h1
  have c2 : dicA K dt = dicB w.params dt := congrArg (fun z : AlX => z.2.2) h2
  have d1 := Bool.and_eq_true_iff.mp a1
  have d2 := Bool.and_eq_true_iff.mp a2
  show ((allA K (fa ++ fb) && okA K (fn ++ fm)), (fnsA K (fn ++ fm), dicA K (ds ++ dt))) = (true, (fnsB (fn ++ fm), dicB w.params (ds ++ dt)))
  rw [fnsA_app, fnsB_app, dicA_app, dicB_app, b1, b2, c1, c2, allA_app d1.1 d2.1, okA_app d1.2 d2.2]
  rfl
def RunPart (r : PySem.W.OpenRow) (M : Nat) (ts : List Str) (fa : List Tk0) (fn : List He.DefD) (ds : List (Str × List Str)) (w : World) : Prop :=
  ∀ os : OsState, (HandSHeadRun.endF (HandSHeadRun.stepQ (HandSHeadRun.denQ HandSHeadRun.tabQ) r.prog w) M r.prog w os).map (fun s => obsTG ts fa fn ds (HandSHeadRun.getT s)) = some (valX fn ds w)
abbrev RunAll (r : PySem.W.OpenRow) (q : Program) (M : Nat) (loose : List PySem.Str) (ts : List Str) (fa : List Tk0) (fn : List He.DefD) (ds : List (Str × List Str)) (w : World) : Prop :=
  HandSHeadRun.RunEq r q (hookT ts fa fn ds) (fun s => obsTG ts fa fn ds (HandSHeadRun.getT s)) M loose w
theorem run_app {r : PySem.W.OpenRow} {q : Program} {M : Nat} {loose : List PySem.Str} {ts : List Str} {fa fb : List Tk0} {fn fm : List He.DefD} {ds dt : List (Str × List Str)} {w : World}
    (A : RunAll r q M loose ts fb fm dt w) (B : RunPart r M ts fa fn ds w) : RunAll r q M loose ts (fa ++ fb) (fn ++ fm) (ds ++ dt) w := fun os => by
  have a := A os
  have b := B os
  revert a b
  cases HandSHeadRun.endF (HandSHeadRun.stepQ (HandSHeadRun.denQ HandSHeadRun.tabQ) r.prog w) M r.prog w os with
  | none => intro a _; cases a
  | some s =>
    intro a b
    have a := Option.some.inj a
    have b : obsTG ts fa fn ds (HandSHeadRun.getT s) = valX fn ds w := Option.some.inj b
    have c : obsTG ts fb fm dt (HandSHeadRun.getT s) = valX fm dt w := congrArg (fun z => z.2.2) a
    refine congrArg some ?_
    rw [Prod.ext_iff, Prod.ext_iff] at a ⊢
    exact ⟨a.1, a.2.1, obsTG_app b c⟩
end DL
set_option maxHeartbeats 0
namespace DL
open PySem PySem.Spec PyProof.Rows L2
def topS0 (i : Nat) : Stmt := PySem.Challenge.pw_whistleboard_k46_whole_lines.main.body.getD i (.Pass ⟨0, 0, 0, 0⟩)
noncomputable def d_NoFlow__init_ : He.DefD := ⟨("NoFlow", some "__init__"), "__init__", "NoFlow.__init__", defArgs (inClass (topS0 17) 0), defBody (inClass (topS0 17) 0), defScope (inClass (topS0 17) 0), [], []⟩
noncomputable def d_law_bag : He.DefD := ⟨("_law_bag", none), "_law_bag", "_law_bag", defArgs (topS0 52), defBody (topS0 52), defScope (topS0 52), [], []⟩
noncomputable def d_is_whole : He.DefD := ⟨("is_whole", none), "is_whole", "is_whole", defArgs (topS0 28), defBody (topS0 28), defScope (topS0 28), [], []⟩
noncomputable def d_is_whole_within : He.DefD := ⟨("is_whole_within", none), "is_whole_within", "is_whole_within", defArgs (topS0 29), defBody (topS0 29), defScope (topS0 29), [], []⟩
noncomputable def d_are_within : He.DefD := ⟨("are_within", none), "are_within", "are_within", defArgs (topS0 42), defBody (topS0 42), defScope (topS0 42), [], []⟩
noncomputable def d_is_among : He.DefD := ⟨("is_among", none), "is_among", "is_among", defArgs (topS0 41), defBody (topS0 41), defScope (topS0 41), [], []⟩
noncomputable def d_is_tuple_within : He.DefD := ⟨("is_tuple_within", none), "is_tuple_within", "is_tuple_within", defArgs (topS0 30), defBody (topS0 30), defScope (topS0 30), [], []⟩
noncomputable def d_is_part : He.DefD := ⟨("is_part", none), "is_part", "is_part", defArgs (topS0 43), defBody (topS0 43), defScope (topS0 43), [], []⟩
noncomputable def d_are_parts : He.DefD := ⟨("are_parts", none), "are_parts", "are_parts", defArgs (topS0 44), defBody (topS0 44), defScope (topS0 44), [], []⟩
noncomputable def d_Line__init_ : He.DefD := ⟨("Line", some "__init__"), "__init__", "Line.__init__", defArgs (inClass (topS0 40) 0), defBody (inClass (topS0 40) 0), defScope (inClass (topS0 40) 0), [], []⟩
noncomputable def d_law_take : He.DefD := ⟨("_law_take", none), "_law_take", "_law_take", defArgs (topS0 53), defBody (topS0 53), defScope (topS0 53), [], []⟩
noncomputable def d_law_which : He.DefD := ⟨("_law_which", none), "_law_which", "_law_which", defArgs (topS0 56), defBody (topS0 56), defScope (topS0 56), [], []⟩
noncomputable def d_law_said : He.DefD := ⟨("_law_said", none), "_law_said", "_law_said", defArgs (topS0 60), defBody (topS0 60), defScope (topS0 60), [], []⟩
noncomputable def d_joins_of : He.DefD := ⟨("joins_of", none), "joins_of", "joins_of", defArgs (topS0 45), defBody (topS0 45), defScope (topS0 45), [], []⟩
noncomputable def d_taken : He.DefD := ⟨("taken", none), "taken", "taken", defArgs (topS0 46), defBody (topS0 46), defScope (topS0 46), [], []⟩
noncomputable def d_pressure_behind : He.DefD := ⟨("pressure_behind", none), "pressure_behind", "pressure_behind", defArgs (topS0 48), defBody (topS0 48), defScope (topS0 48), [], []⟩
noncomputable def d_why_failing : He.DefD := ⟨("why_failing", none), "why_failing", "why_failing", defArgs (topS0 49), defBody (topS0 49), defScope (topS0 49), [], []⟩
noncomputable def d_walked : He.DefD := ⟨("walked", none), "walked", "walked", defArgs (topS0 47), defBody (topS0 47), defScope (topS0 47), [], []⟩
noncomputable def d_Line_pressures : He.DefD := ⟨("Line", some "pressures"), "pressures", "Line.pressures", defArgs (inClass (topS0 40) 4), defBody (inClass (topS0 40) 4), defScope (inClass (topS0 40) 4), [.int 100], []⟩
noncomputable def d_law_not_more : He.DefD := ⟨("_law_not_more", none), "_law_not_more", "_law_not_more", defArgs (topS0 63), defBody (topS0 63), defScope (topS0 63), [], []⟩
noncomputable def d_law_ways : He.DefD := ⟨("_law_ways", none), "_law_ways", "_law_ways", defArgs (topS0 57), defBody (topS0 57), defScope (topS0 57), [], []⟩
noncomputable def d_law_plan : He.DefD := ⟨("_law_plan", none), "_law_plan", "_law_plan", defArgs (topS0 58), defBody (topS0 58), defScope (topS0 58), [], []⟩
noncomputable def d_parts_without : He.DefD := ⟨("parts_without", none), "parts_without", "parts_without", defArgs (topS0 50), defBody (topS0 50), defScope (topS0 50), [], []⟩
noncomputable def d_Line_without : He.DefD := ⟨("Line", some "without"), "without", "Line.without", defArgs (inClass (topS0 40) 6), defBody (inClass (topS0 40) 6), defScope (inClass (topS0 40) 6), [], []⟩
noncomputable def d_law_less : He.DefD := ⟨("_law_less", none), "_law_less", "_law_less", defArgs (topS0 65), defBody (topS0 65), defScope (topS0 65), [], []⟩
noncomputable def d_law_walked : He.DefD := ⟨("_law_walked", none), "_law_walked", "_law_walked", defArgs (topS0 59), defBody (topS0 59), defScope (topS0 59), [], []⟩
noncomputable def d_Line_holds : He.DefD := ⟨("Line", some "holds"), "holds", "Line.holds", defArgs (inClass (topS0 40) 7), defBody (inClass (topS0 40) 7), defScope (inClass (topS0 40) 7), [], []⟩
noncomputable def d_Line_greatest : He.DefD := ⟨("Line", some "greatest"), "greatest", "Line.greatest", defArgs (inClass (topS0 40) 5), defBody (inClass (topS0 40) 5), defScope (inClass (topS0 40) 5), [], []⟩
noncomputable def d_law_share : He.DefD := ⟨("_law_share", none), "_law_share", "_law_share", defArgs (topS0 64), defBody (topS0 64), defScope (topS0 64), [], []⟩
noncomputable def d_Line__len_ : He.DefD := ⟨("Line", some "__len__"), "__len__", "Line.__len__", defArgs (inClass (topS0 40) 2), defBody (inClass (topS0 40) 2), defScope (inClass (topS0 40) 2), [], []⟩
noncomputable def d_law_one_out : He.DefD := ⟨("_law_one_out", none), "_law_one_out", "_law_one_out", defArgs (topS0 66), defBody (topS0 66), defScope (topS0 66), [], []⟩
noncomputable def d_law_small : He.DefD := ⟨("_law_small", none), "_law_small", "_law_small", defArgs (topS0 62), defBody (topS0 62), defScope (topS0 62), [], []⟩
noncomputable def d_law_more : He.DefD := ⟨("_law_more", none), "_law_more", "_law_more", defArgs (topS0 61), defBody (topS0 61), defScope (topS0 61), [], []⟩
noncomputable def d_Line__eq_ : He.DefD := ⟨("Line", some "__eq__"), "__eq__", "Line.__eq__", defArgs (inClass (topS0 40) 1), defBody (inClass (topS0 40) 1), defScope (inClass (topS0 40) 1), [], []⟩
noncomputable def d_law_right : He.DefD := ⟨("_law_right", none), "_law_right", "_law_right", defArgs (topS0 67), defBody (topS0 67), defScope (topS0 67), [], []⟩
noncomputable def d_law_source : He.DefD := ⟨("_law_source", none), "_law_source", "_law_source", defArgs (topS0 55), defBody (topS0 55), defScope (topS0 55), [], []⟩
noncomputable def d_law_parts : He.DefD := ⟨("_law_parts", none), "_law_parts", "_law_parts", defArgs (topS0 54), defBody (topS0 54), defScope (topS0 54), [], []⟩
noncomputable def d_law : He.DefD := ⟨("law", none), "law", "law", defArgs (topS0 68), defBody (topS0 68), defScope (topS0 68), [], []⟩
noncomputable def tests0 : List Tk0 := [
  fun K => decide (PySem.W.nsIn K mainGlobals "NoFlow" = some (some (.ref (He.ga K "NoFlow")))),
  fun K => clsXB K (He.ga K "NoFlow") [.type "ArithmeticError", .type "Exception", .type "BaseException", .type "object"] "ArithmeticError.__new__",
  fun K => PySem.W.excOver K (He.ga K "NoFlow") [.type "ArithmeticError", .type "Exception", .type "BaseException", .type "object"],
  fun K => decide (PySem.W.findIn K (.ref (He.ga K "NoFlow")) "__setattr__" = some (some (.builtin "object.__setattr__"))),
  fun K => PySem.W.keepIn K (.ref (He.ga K "NoFlow")),
  fun K => decide (PySem.W.subIn K (.ref (He.ga K "NoFlow")) (.type "BaseException") = some true),
  fun K => decide (PySem.W.typeIn K (.ref (He.ga K "NoFlow")) = some (.type "type")),
  fun K => decide (PySem.W.findIn K (.ref (He.ga K "NoFlow")) "join" = some none),
  fun K => decide (PySem.W.findIn K (.ref (He.ga K "NoFlow")) "why" = some none),
  fun K => PySem.W.hasDictIn K (He.ga K "NoFlow"),
  fun K => decide (PySem.W.subIn K (.ref (He.ga K "NoFlow")) (.ref (He.ga K "NoFlow")) = some true),
  fun K => decide (PySem.W.findIn K (.ref (He.ga K "NoFlow")) "__init__" = some (some (.ref (He.fAd K ("NoFlow", some "__init__"))))),
  fun K => decide (PySem.W.typeIn K (.ref (He.fAd K ("NoFlow", some "__init__"))) = some (.type "function")),
  fun K => vVB K "ArithmeticError" "ArithmeticError.__init__",
  fun K => decide (PySem.W.nsIn K mainGlobals "BadTime" = some (some (.ref (He.ga K "BadTime")))),
  fun K => decide (PySem.W.nsIn K mainGlobals "NoGround" = some (some (.ref (He.ga K "NoGround")))),
  fun K => decide (PySem.W.nsIn K mainGlobals "NoPlace" = some (some (.ref (He.ga K "NoPlace")))),
  fun K => decide (PySem.W.nsIn K mainGlobals "NoProof" = some (some (.ref (He.ga K "NoProof")))),
  fun K => decide (PySem.W.nsIn K mainGlobals "NoKind" = some (some (.ref (He.ga K "NoKind")))),
  fun K => decide (PySem.W.nsIn K mainGlobals "BadText" = some (some (.ref (He.ga K "BadText")))),
  fun K => decide (PySem.W.nsIn K mainGlobals "NoDeed" = some (some (.ref (He.ga K "NoDeed")))),
  fun K => decide (PySem.W.nsIn K mainGlobals "NoRow" = some (some (.ref (He.ga K "NoRow")))),
  fun K => decide (PySem.W.nsIn K mainGlobals "TooMany" = some (some (.ref (He.ga K "TooMany")))),
  fun K => decide (PySem.W.nsIn K mainGlobals "NotDone" = some (some (.ref (He.ga K "NotDone")))),
  fun K => decide (PySem.W.nsIn K mainGlobals "NoBook" = some (some (.ref (He.ga K "NoBook")))),
  fun K => decide (PySem.W.nsIn K mainGlobals "NoCall" = some (some (.ref (He.ga K "NoCall")))),
  fun K => decide (PySem.W.nsIn K mainGlobals "NoEngine" = some (some (.ref (He.ga K "NoEngine")))),
  fun K => decide (PySem.W.nsIn K mainGlobals "NoEngines" = some (some (.ref (He.ga K "NoEngines")))),
  fun K => decide (PySem.W.nsIn K mainGlobals "NoLine" = some (some (.ref (He.ga K "NoLine")))),
  fun K => decide (PySem.W.nsIn K mainGlobals "NoJoin" = some (some (.ref (He.ga K "NoJoin"))))]
noncomputable def tests1 : List Tk0 := [
  fun K => decide (PySem.W.nsIn K mainGlobals "Late" = some (some (.ref (He.ga K "Late")))),
  fun K => decide (PySem.W.nsIn K mainGlobals "Inside" = some (some (.ref (He.ga K "Inside")))),
  fun K => decide (PySem.W.nsIn K mainGlobals "Dead" = some (some (.ref (He.ga K "Dead")))),
  fun K => decide (PySem.W.nsIn K mainGlobals "NoTeam" = some (some (.ref (He.ga K "NoTeam")))),
  fun K => decide (PySem.W.nsIn K mainGlobals "NoWearer" = some (some (.ref (He.ga K "NoWearer")))),
  fun K => decide (PySem.W.nsIn K mainGlobals "NoBoard" = some (some (.ref (He.ga K "NoBoard")))),
  fun K => decide (PySem.W.nsIn K mainGlobals "NoText" = some (some (.ref (He.ga K "NoText")))),
  fun K => decide (PySem.W.nsIn K mainGlobals "Nothing" = some (some (.ref (He.ga K "Nothing")))),
  fun K => decide (PySem.W.nsIn K mainGlobals "NoSaying" = some (some (.ref (He.ga K "NoSaying")))),
  fun K => decide (PySem.W.kitOne K (.ref (He.ga K "NoFlow")) (.ref (He.ga K "BadTime")) = some false),
  fun K => decide (PySem.W.kitOne K (.ref (He.ga K "NoFlow")) (.ref (He.ga K "NoGround")) = some false),
  fun K => decide (PySem.W.kitOne K (.ref (He.ga K "NoFlow")) (.ref (He.ga K "NoPlace")) = some false),
  fun K => decide (PySem.W.kitOne K (.ref (He.ga K "NoFlow")) (.ref (He.ga K "NoProof")) = some false),
  fun K => decide (PySem.W.kitOne K (.ref (He.ga K "NoFlow")) (.ref (He.ga K "NoKind")) = some false),
  fun K => decide (PySem.W.kitOne K (.ref (He.ga K "NoFlow")) (.ref (He.ga K "BadText")) = some false),
  fun K => decide (PySem.W.kitOne K (.ref (He.ga K "NoFlow")) (.ref (He.ga K "NoDeed")) = some false),
  fun K => decide (PySem.W.kitOne K (.ref (He.ga K "NoFlow")) (.ref (He.ga K "NoRow")) = some false),
  fun K => decide (PySem.W.kitOne K (.ref (He.ga K "NoFlow")) (.ref (He.ga K "TooMany")) = some false),
  fun K => decide (PySem.W.kitOne K (.ref (He.ga K "NoFlow")) (.ref (He.ga K "NotDone")) = some false),
  fun K => decide (PySem.W.kitOne K (.ref (He.ga K "NoFlow")) (.ref (He.ga K "NoBook")) = some false),
  fun K => decide (PySem.W.kitOne K (.ref (He.ga K "NoFlow")) (.ref (He.ga K "NoCall")) = some false),
  fun K => decide (PySem.W.kitOne K (.ref (He.ga K "NoFlow")) (.ref (He.ga K "NoEngine")) = some false),
  fun K => decide (PySem.W.kitOne K (.ref (He.ga K "NoFlow")) (.ref (He.ga K "NoEngines")) = some false),
  fun K => decide (PySem.W.kitOne K (.ref (He.ga K "NoFlow")) (.ref (He.ga K "NoLine")) = some false),
  fun K => decide (PySem.W.kitOne K (.ref (He.ga K "NoFlow")) (.ref (He.ga K "NoJoin")) = some false),
  fun K => decide (PySem.W.kitOne K (.ref (He.ga K "NoFlow")) (.ref (He.ga K "NoFlow")) = some true),
  fun K => decide (PySem.W.kitOne K (.ref (He.ga K "NoFlow")) (.ref (He.ga K "Late")) = some false),
  fun K => decide (PySem.W.kitOne K (.ref (He.ga K "NoFlow")) (.ref (He.ga K "Inside")) = some false),
  fun K => decide (PySem.W.kitOne K (.ref (He.ga K "NoFlow")) (.ref (He.ga K "Dead")) = some false),
  fun K => decide (PySem.W.kitOne K (.ref (He.ga K "NoFlow")) (.ref (He.ga K "NoTeam")) = some false)]
noncomputable def tests2 : List Tk0 := [
  fun K => decide (PySem.W.kitOne K (.ref (He.ga K "NoFlow")) (.ref (He.ga K "NoWearer")) = some false),
  fun K => decide (PySem.W.kitOne K (.ref (He.ga K "NoFlow")) (.ref (He.ga K "NoBoard")) = some false),
  fun K => decide (PySem.W.kitOne K (.ref (He.ga K "NoFlow")) (.ref (He.ga K "NoText")) = some false),
  fun K => decide (PySem.W.kitOne K (.ref (He.ga K "NoFlow")) (.ref (He.ga K "Nothing")) = some false),
  fun K => decide (PySem.W.kitOne K (.ref (He.ga K "NoFlow")) (.ref (He.ga K "NoSaying")) = some false),
  fun K => decide (PySem.W.kitOne K (.ref (He.ga K "NoFlow")) (.type "ArithmeticError") = some true),
  fun K => decide (PySem.W.findIn K (.ref (He.ga K "NoFlow")) "__getattribute__" = some (some (.builtin "BaseException.__getattribute__"))),
  fun K => decide (PySem.W.findIn K (.ref (He.ga K "NoFlow")) "__getattr__" = some none),
  fun K => decide (PySem.W.findIn K (.ref (He.ga K "NoFlow")) "__class__" = some (some (.builtin "object.__class__"))),
  fun K => decide (PySem.W.mroIn K (He.ga K "NoFlow") (.type "object") = some true),
  fun K => decide (PySem.W.nsIn K mainGlobals "Line" = some (some (.ref (He.ga K "Line")))),
  fun K => PySem.W.plainGet K (He.ga K "Line") Str.empty,
  fun K => PySem.W.hasDictIn K (He.ga K "Line"),
  fun K => PySem.W.plainOver K (He.ga K "Line"),
  fun K => decide (PySem.W.findIn K (.ref (He.ga K "Line")) "__setattr__" = some (some (.builtin "object.__setattr__"))),
  fun K => decide (PySem.W.findIn K (.ref (He.ga K "Line")) "source" = some none),
  fun K => decide (PySem.W.findIn K (.ref (He.ga K "Line")) "parts" = some none),
  fun K => PySem.W.makesIn K (He.ga K "Line"),
  fun K => decide (PySem.W.findIn K (.ref (He.ga K "Line")) "__init__" = some (some (.ref (He.fAd K ("Line", some "__init__"))))),
  fun K => PySem.W.isFn K (.ref (He.fAd K ("Line", some "__init__"))),
  fun K => PySem.W.keepIn K (.ref (He.ga K "Line")),
  fun K => decide (PySem.W.nsIn K mainGlobals "_law_bag" = some (some (.ref (He.fAd K ("_law_bag", none))))),
  fun K => decide (PySem.W.nsIn K mainGlobals "is_whole" = some (some (.ref (He.fAd K ("is_whole", none))))),
  fun K => decide (PySem.W.nsIn K mainGlobals "is_whole_within" = some (some (.ref (He.fAd K ("is_whole_within", none))))),
  fun K => decide (PySem.W.nsIn K mainGlobals "are_within" = some (some (.ref (He.fAd K ("are_within", none))))),
  fun K => decide (PySem.W.nsIn K mainGlobals "is_among" = some (some (.ref (He.fAd K ("is_among", none))))),
  fun K => decide (PySem.W.nsIn K mainGlobals "is_tuple_within" = some (some (.ref (He.fAd K ("is_tuple_within", none))))),
  fun K => decide (PySem.W.nsIn K mainGlobals "is_part" = some (some (.ref (He.fAd K ("is_part", none))))),
  fun K => decide (PySem.W.nsIn K mainGlobals "are_parts" = some (some (.ref (He.fAd K ("are_parts", none))))),
  fun K => decide (PySem.W.nsIn K mainGlobals "_law_take" = some (some (.ref (He.fAd K ("_law_take", none)))))]
noncomputable def tests3 : List Tk0 := [
  fun K => decide (PySem.W.nsIn K mainGlobals "_law_which" = some (some (.ref (He.fAd K ("_law_which", none))))),
  fun K => decide (PySem.W.nsIn K mainGlobals "_law_said" = some (some (.ref (He.fAd K ("_law_said", none))))),
  fun K => decide (PySem.W.nsIn K mainGlobals "joins_of" = some (some (.ref (He.fAd K ("joins_of", none))))),
  fun K => decide (PySem.W.nsIn K mainGlobals "taken" = some (some (.ref (He.fAd K ("taken", none))))),
  fun K => decide (PySem.W.nsIn K mainGlobals "pressure_behind" = some (some (.ref (He.fAd K ("pressure_behind", none))))),
  fun K => decide (PySem.W.nsIn K mainGlobals "why_failing" = some (some (.ref (He.fAd K ("why_failing", none))))),
  fun K => decide (PySem.W.nsIn K mainGlobals "walked" = some (some (.ref (He.fAd K ("walked", none))))),
  fun K => decide (PySem.W.findIn K (.ref (He.ga K "Line")) "pressures" = some (some (.ref (He.fAd K ("Line", some "pressures"))))),
  fun K => PySem.W.isFn K (.ref (He.fAd K ("Line", some "pressures"))),
  fun K => decide (PySem.W.nsIn K mainGlobals "_law_not_more" = some (some (.ref (He.fAd K ("_law_not_more", none))))),
  fun K => decide (PySem.W.nsIn K mainGlobals "_law_ways" = some (some (.ref (He.fAd K ("_law_ways", none))))),
  fun K => decide (PySem.W.nsIn K mainGlobals "_law_plan" = some (some (.ref (He.fAd K ("_law_plan", none))))),
  fun K => decide (PySem.W.nsIn K mainGlobals "parts_without" = some (some (.ref (He.fAd K ("parts_without", none))))),
  fun K => decide (PySem.W.findIn K (.ref (He.ga K "Line")) "without" = some (some (.ref (He.fAd K ("Line", some "without"))))),
  fun K => PySem.W.isFn K (.ref (He.fAd K ("Line", some "without"))),
  fun K => decide (PySem.W.nsIn K mainGlobals "_law_less" = some (some (.ref (He.fAd K ("_law_less", none))))),
  fun K => decide (PySem.W.nsIn K mainGlobals "_law_walked" = some (some (.ref (He.fAd K ("_law_walked", none))))),
  fun K => decide (PySem.W.findIn K (.ref (He.ga K "Line")) "holds" = some (some (.ref (He.fAd K ("Line", some "holds"))))),
  fun K => PySem.W.isFn K (.ref (He.fAd K ("Line", some "holds"))),
  fun K => decide (PySem.W.findIn K (.ref (He.ga K "Line")) "greatest" = some (some (.ref (He.fAd K ("Line", some "greatest"))))),
  fun K => PySem.W.isFn K (.ref (He.fAd K ("Line", some "greatest"))),
  fun K => decide (PySem.W.nsIn K mainGlobals "_law_share" = some (some (.ref (He.fAd K ("_law_share", none))))),
  fun K => decide (PySem.W.findIn K (.ref (He.ga K "Line")) "__len__" = some (some (.ref (He.fAd K ("Line", some "__len__"))))),
  fun K => PySem.W.isFn K (.ref (He.fAd K ("Line", some "__len__"))),
  fun K => decide (PySem.W.nsIn K mainGlobals "_law_one_out" = some (some (.ref (He.fAd K ("_law_one_out", none))))),
  fun K => decide (PySem.W.tabIn K "_law_one_out" = some ((ccT K "_law_one_out"), (ttT K "_law_one_out"))),
  fun K => (K.lookup (ttT K "_law_one_out")).isNone,
  fun K => decide (PySem.W.nsIn K mainGlobals "_law_small" = some (some (.ref (He.fAd K ("_law_small", none))))),
  fun K => decide (PySem.W.nsIn K mainGlobals "_law_more" = some (some (.ref (He.fAd K ("_law_more", none))))),
  fun K => decide (PySem.W.findIn K (.ref (He.ga K "Line")) "__eq__" = some (some (.ref (He.fAd K ("Line", some "__eq__")))))]
noncomputable def tests4 : List Tk0 := [
  fun K => PySem.W.isFn K (.ref (He.fAd K ("Line", some "__eq__"))),
  fun K => decide (PySem.W.nsIn K mainGlobals "_law_right" = some (some (.ref (He.fAd K ("_law_right", none))))),
  fun K => decide (PySem.W.tabIn K "_law_right" = some ((ccT K "_law_right"), (ttT K "_law_right"))),
  fun K => (K.lookup (ttT K "_law_right")).isNone,
  fun K => decide ((ttT K "_law_right") ≠ (ttT K "_law_one_out")),
  fun K => decide (PySem.W.nsIn K mainGlobals "_law_source" = some (some (.ref (He.fAd K ("_law_source", none))))),
  fun K => decide (PySem.W.nsIn K mainGlobals "_law_parts" = some (some (.ref (He.fAd K ("_law_parts", none))))),
  fun K => decide (PySem.W.nsIn K mainGlobals "law" = some (some (.ref (He.fAd K ("law", none))))),
  fun K => decide (PySem.W.specialIn K (.builtin "object.__class__") "__get__" = some (some (.builtin "getset_descriptor.__get__"))),
  fun K => decide (PySem.W.takesIn K (.builtin "object.__class__") = some true),
  fun K => decide (PySem.W.findIn K (.ref (He.ga K "Line")) "__class__" = some (some (.builtin "object.__class__"))),
  fun K => decide (PySem.W.mroIn K (He.ga K "Line") (.type "object") = some true),
  fun K => decide (PySem.W.kitOne K (.ref (He.ga K "Line")) (.ref (He.ga K "Line")) = some true),
  fun K => decide (PySem.W.findIn K (.ref (He.ga K "Line")) "__ne__" = some (some (.builtin "object.__ne__"))),
  fun K => decide (PySem.W.kitOne K (.type "NoneType") (.ref (He.ga K "Line")) = some false),
  fun K => PySem.W.notFirst K (He.ga K "Line") (.type "NoneType"),
  fun K => decide (PySem.W.kitOne K (.type "bool") (.ref (He.ga K "Line")) = some false),
  fun K => PySem.W.notFirst K (He.ga K "Line") (.type "bool"),
  fun K => decide (PySem.W.kitOne K (.type "tuple") (.ref (He.ga K "Line")) = some false),
  fun K => PySem.W.notFirst K (He.ga K "Line") (.type "tuple"),
  fun K => decide (PySem.W.kitOne K (.type "str") (.ref (He.ga K "Line")) = some false),
  fun K => PySem.W.notFirst K (He.ga K "Line") (.type "str"),
  fun K => decide (PySem.W.kitOne K (.type "int") (.ref (He.ga K "Line")) = some false),
  fun K => PySem.W.notFirst K (He.ga K "Line") (.type "int"),
  fun K => decide (PySem.W.kitOne K (.type "list") (.ref (He.ga K "Line")) = some false),
  fun K => PySem.W.notFirst K (He.ga K "Line") (.type "list"),
  fun K => decide (PySem.W.nsIn K mainGlobals "len" = some none),
  fun K => decide (PySem.W.nsIn K mainGlobals "abs" = some none),
  fun K => decide (PySem.W.nsIn K mainGlobals "all" = some none),
  fun K => decide (PySem.W.nsIn K mainGlobals "str" = some none)]
noncomputable def tests5 : List Tk0 := [
  fun K => decide (PySem.W.nsIn K mainGlobals "int" = some none),
  fun K => decide (PySem.W.nsIn K mainGlobals "isinstance" = some none),
  fun K => decide (PySem.W.nsIn K mainGlobals "range" = some none),
  fun K => decide (PySem.W.nsIn K mainGlobals "max" = some none),
  fun K => decide (PySem.W.nsIn K mainGlobals "min" = some none),
  fun K => decide (PySem.W.nsIn K mainGlobals "bool" = some none),
  fun K => decide (PySem.W.nsIn K mainGlobals "list" = some none),
  fun K => decide (PySem.W.nsIn K mainGlobals "tuple" = some none),
  fun K => decide (PySem.W.nsIn K mainGlobals "zip" = some none),
  fun K => decide (PySem.W.nsIn K mainGlobals "enumerate" = some none),
  fun K => decide (PySem.W.nsIn K mainGlobals "sum" = some none),
  fun K => decide (PySem.W.nsIn K mainGlobals "ArithmeticError" = some none),
  fun K => decide (PySem.W.nsIn K mainGlobals "IndexError" = some none),
  fun K => gwXB K "SOURCES" (.tup [.tup [.str "hydrant", .tup [.tup [.int 0, .int 150], .tup [.int 1, .int 5000]]], .tup [.str "pond", .tup [.tup [.int 0, .int 8]]]]),
  fun K => gwXB K "JOINS" (.tup [.tup [.str "hose", .tup [.tup [.int 1, .int 20], .tup [.int (-60), .int 60]]], .tup [.str "pump", .tup [.tup [.int 0, .int 120], .tup [.int 1, .int 5000]]], .tup [.str "leak", .tup [.tup [.int 0, .int 1000]]], .tup [.str "nozzle", .tup [.tup [.int 0, .int 2000], .tup [.int 0, .int 100]]]]),
  fun K => gwXB K "MOST_PARTS" (.int 8),
  fun K => gwXB K "MOST_FORKS" (.int 3),
  fun K => gwXB K "WHOLE_SHARE" (.int 100),
  fun K => gwXB K "LEAST_IN_HOSE" (.int (-70)),
  fun K => gwXB K "MOST_BEHIND_PUMP" (.int 120),
  fun K => gwXB K "HOSE_DIVISOR" (.int 40000)]
noncomputable def fa0 : List Tk0 := tests0 ++ (tests1 ++ (tests2 ++ (tests3 ++ (tests4 ++ (tests5)))))
noncomputable def fa : List Tk0 := fa0 ++ ([] ++ ([]))
noncomputable def fn0 : List He.DefD := [d_NoFlow__init_, d_law_bag, d_is_whole, d_is_whole_within, d_are_within, d_is_among, d_is_tuple_within, d_is_part, d_are_parts, d_Line__init_, d_law_take, d_law_which, d_law_said, d_joins_of, d_taken, d_pressure_behind, d_why_failing, d_walked, d_Line_pressures, d_law_not_more, d_law_ways, d_law_plan, d_parts_without, d_Line_without, d_law_less, d_law_walked, d_Line_holds, d_Line_greatest, d_law_share, d_Line__len_, d_law_one_out, d_law_small, d_law_more, d_Line__eq_, d_law_right, d_law_source, d_law_parts, d_law]
noncomputable def ds0 : List (Str × List Str) := []
noncomputable def fn : List He.DefD := [] ++ (fn0 ++ [])
noncomputable def ds : List (Str × List Str) := [] ++ (ds0 ++ [])
abbrev R : PySem.W.OpenRow := PySem.W.OpenLaw.row PySem.Challenge.rw_whistleboard_k46_whole_lines
abbrev qv : Program := PySem.W.view R.prog [66, 67, 68]
def loose : List PySem.Str := (["BadTime", "NoGround", "NoPlace", "NoProof", "NoKind", "BadText", "NoDeed", "NoRow", "TooMany", "NotDone", "NoBook", "NoCall", "NoEngine", "NoEngines", "NoLine", "NoJoin", "NoFlow", "Late", "Inside", "Dead", "NoTeam", "NoWearer", "NoBoard", "NoText", "Nothing", "NoSaying", "is_whole", "is_whole_within", "is_tuple_within", "SOURCES"] : List PySem.Str) ++ (["JOINS", "MOST_PARTS", "MOST_FORKS", "WHOLE_SHARE", "LEAST_IN_HOSE", "MOST_BEHIND_PUMP", "HOSE_DIVISOR", "Line", "is_among", "are_within", "is_part", "are_parts", "joins_of", "taken", "walked", "pressure_behind", "why_failing", "parts_without", "_law_bag", "_law_take", "_law_parts", "_law_source", "_law_which", "_law_ways", "_law_plan", "_law_walked", "_law_said", "_law_more", "_law_small", "_law_not_more"] : List PySem.Str) ++ (["_law_share", "_law_less"] : List PySem.Str)
noncomputable abbrev hk : PySem.W.Hook := hookT ["_law_one_out", "_law_right"] fa fn ds
noncomputable def ob (s : PySem.W.SharedT) : AlX := obsTG ["_law_one_out", "_law_right"] fa fn ds (HandSHeadRun.getT s)
theorem ob_eq (s : PySem.W.SharedT) : ob s = hk.obs s.abs := obsTG_eq s
theorem run0_false (w : World) : RunAll R qv 40000 loose ["_law_one_out", "_law_right"] [] [] [] (w.withFollow "special-get-raises" false) := by
  intro os
  kernel_rfl
theorem run0_true (w : World) : RunAll R qv 40000 loose ["_law_one_out", "_law_right"] [] [] [] (w.withFollow "special-get-raises" true) := by
  intro os
  kernel_rfl
theorem run0 (w : World) : RunAll R qv 40000 loose ["_law_one_out", "_law_right"] [] [] [] w := PySem.W.byRow2 "special-get-raises" (P := fun w => RunAll R qv 40000 loose ["_law_one_out", "_law_right"] [] [] [] w) run0_false run0_true w
theorem run1_false (w : World) : RunPart R 40000 ["_law_one_out", "_law_right"] [] fn0 ds0 (w.withFollow "special-get-raises" false) := by
  intro os
  kernel_rfl
theorem run1_true (w : World) : RunPart R 40000 ["_law_one_out", "_law_right"] [] fn0 ds0 (w.withFollow "special-get-raises" true) := by
  intro os
  kernel_rfl
theorem run1 (w : World) : RunPart R 40000 ["_law_one_out", "_law_right"] [] fn0 ds0 w := PySem.W.byRow2 "special-get-raises" (P := fun w => RunPart R 40000 ["_law_one_out", "_law_right"] [] fn0 ds0 w) run1_false run1_true w
theorem run2_false (w : World) : RunPart R 40000 ["_law_one_out", "_law_right"] fa0 [] [] (w.withFollow "special-get-raises" false) := by
  intro os
  kernel_rfl
theorem run2_true (w : World) : RunPart R 40000 ["_law_one_out", "_law_right"] fa0 [] [] (w.withFollow "special-get-raises" true) := by
  intro os
  kernel_rfl
theorem run2 (w : World) : RunPart R 40000 ["_law_one_out", "_law_right"] fa0 [] [] w := PySem.W.byRow2 "special-get-raises" (P := fun w => RunPart R 40000 ["_law_one_out", "_law_right"] fa0 [] [] w) run2_false run2_true w
theorem run (w : World) : HandSHeadRun.RunEq R qv hk ob 40000 loose w := (run_app (fa := fa0) (fn := []) (ds := []) (run_app (fa := []) (fn := fn0) (ds := ds0) (run0 w) (run1 w)) (run2 w))
end DL
set_option maxHeartbeats 4000000
namespace DL
open PySem PySem.Spec PyProof.Rows L2
inductive W where
  | non | bl (b : Bool) | int (i : Int) | str (x : Str) | ty (n : String)
  | tup (xs : List W) | lst (xs : List W) | scr (ns : List Int)
  | dct (ks : List Key) (xs : List W) | ins (C : Addr) (ns : List Str) (xs : List W)
  | ref (a : Addr)
  | exc (a : Addr) (d : Option Addr) (ns : List Str) (xs : List W)
  | lam (f c : Addr) (q : Str) (vs : List V) (xs : List W)
  | dctT (ks : List (List Key)) (xs : List W)
inductive WO where
  | lst (xs : List W) | dK (kvs : List (Key × W)) | dT (kvs : List (List Key × W)) | ins (C dx : Addr) (fs : List (Str × W)) | own (x : Addr) | tup (xs : List W) | tab (q : Str) | tabF (ps : Array Value)
abbrev Sto := Addr → Option WO
def up (S : Sto) (a : Addr) (o : WO) : Sto := fun b => if b = a then some o else S b
theorem up_same {S : Sto} {a : Addr} {o : WO} : up S a o a = some o := by unfold up; rw [if_pos rfl]
theorem up_ne {S : Sto} {a b : Addr} {o : WO} (h : b ≠ a) : up S a o b = S b := by unfold up; rw [if_neg h]
theorem up_up {S : Sto} {a : Addr} {o u : WO} : up (up S a o) a u = up S a u := by
  funext b; unfold up; split <;> rfl
def del (S : Sto) (a : Addr) : Sto := fun b => if b = a then none else S b
theorem del_same {S : Sto} {a : Addr} : del S a a = none := by unfold del; rw [if_pos rfl]
theorem del_ne {S : Sto} {a b : Addr} (h : b ≠ a) : del S a b = S b := by unfold del; rw [if_neg h]
theorem del_new {S : Sto} {a : Addr} {o : WO} (h : S a = none) : del (up S a o) a = S := by
  funext b
  by_cases e : b = a
  · subst e; rw [del_same, h]
  · rw [del_ne e, up_ne e]
def svb (x : Str) : Bool := x.cps.all (fun c => decide (c < 1114112)) && decide (x.length ≤ sizeLine)
abbrev sv (x : Str) : Prop := svb x = true
theorem sv_iff {x : Str} : sv x ↔ (∀ c ∈ x.cps.toList, c < 1114112) ∧ x.length ≤ sizeLine := by
  unfold sv svb
  rw [Bool.and_eq_true, ← Array.all_toList, List.all_eq_true]
  constructor
  · intro h; exact ⟨fun c hc => of_decide_eq_true (h.1 c hc), of_decide_eq_true h.2⟩
  · intro h; exact ⟨fun c hc => decide_eq_true (h.1 c hc), decide_eq_true h.2⟩
def ScrAt (K : PySem.W.Frag) (S : Sto) (H : Hp) (a : Addr) (ns : List Int) : Prop := ((H a = some (.lst (ns.map V.int)) ∨ ∃ o, H a = some (.frz o (.lst (ns.map V.int)))) ∧ S a = none) ∨ ∃ (o : Obj) (its : Array Value) (n : Nat), K.lookup a = some o ∧ o.cls = .type "list" ∧ o.dict = none ∧ o.data = .seq its n ∧ its.size ≤ sizeLine ∧ Vals (ns.map V.int) its.toList
mutual
inductive RW (K : PySem.W.Frag) (S : Sto) (H : Hp) : W → V → Prop
  | non : RW K S H .non .non
  | bl (b : Bool) : RW K S H (.bl b) (.bl b)
  | int (i : Int) : RW K S H (.int i) (.int i)
  | str (x : Str) (ok : sv x) : RW K S H (.str x) (.str x)
  | ty (n : String) : RW K S H (.ty n) (.ty n)
  | tup {a : Addr} {ws : List W} {vs : List V} (h : H a = some (.tup vs)) (n : S a = none) (r : RWs K S H ws vs) : RW K S H (.tup ws) (.ref a)
  | tupK {a : Addr} {ws : List W} {vs : List V} (h : ∃ (o : Obj) (its : Array Value) (n : Nat), K.lookup a = some o ∧ o.cls = .type "tuple" ∧ o.data = .seq its n ∧ its.size ≤ sizeLine ∧ Vals vs its.toList) (r : RWs K S H ws vs) : RW K S H (.tup ws) (.ref a)
  | lst {a : Addr} {ws : List W} {vs : List V} (h : H a = some (.lst vs)) (n : S a = none) (r : RWs K S H ws vs) : RW K S H (.lst ws) (.ref a)
  | scr {a : Addr} {ns : List Int} (h : ScrAt K S H a ns) : RW K S H (.scr ns) (.ref a)
  | dct {a : Addr} {ks : List Key} {ws : List W} {vs : List V} (h : Rd H a (.dK (ks.zip vs))) (n : S a = none) (e : ks.length = vs.length) (r : RWs K S H ws vs) : RW K S H (.dct ks ws) (.ref a)
  | ins {a C dx : Addr} {ns : List Str} {ws : List W} {vs : List V} (h : H a = some (.ins C dx (ns.zip vs))) (o : H dx = some (.own a)) (n : S a = none) (m : S dx = none) (e : ns.length = vs.length) (r : RWs K S H ws vs) : RW K S H (.ins C ns ws) (.ref a)
  | ref (a : Addr) : RW K S H (.ref a) (.ref a)
  | excN (a : Addr) : RW K S H (.exc a none [] []) (.ref a)
  | exc {a d : Addr} {ns : List Str} {ws : List W} {vs : List V} (h : H d = some (.xd (ns.zip vs))) (n : S d = none) (e : ns.length = vs.length) (r : RWs K S H ws vs) : RW K S H (.exc a (some d) ns ws) (.ref a)
  | lam {f c : Addr} {q : Str} {vs : List V} {ws : List W} (h : H c = some (LamX.CodeO c q)) (n : S c = none) (r : RWs K S H ws vs) : RW K S H (.lam f c q vs ws) (.ref f)
  | dctT {a : Addr} {ks : List (List Key)} {ws : List W} {vs : List V} (h : H a = some (.dT (ks.zip vs))) (n : S a = none) (e : ks.length = vs.length) (r : RWs K S H ws vs) : RW K S H (.dctT ks ws) (.ref a)
inductive RWs (K : PySem.W.Frag) (S : Sto) (H : Hp) : List W → List V → Prop
  | nil : RWs K S H [] []
  | cons {w : W} {v : V} {ws : List W} {vs : List V} (h : RW K S H w v) (t : RWs K S H ws vs) : RWs K S H (w :: ws) (v :: vs)
end
abbrev RWp {κ : Type} (K : PySem.W.Frag) (S : Sto) (H : Hp) : List (κ × W) → List (κ × V) → Prop := Paired fun p q => p.1 = q.1 ∧ RW K S H p.2 q.2
structure Nx (S : Sto) (H : Hp) (S' : Sto) (H' : Hp) : Prop where
  keep : ∀ b o, H b = some o → S b = none → H' b = some o
  dom : ∀ b o, H b = some o → S b = none → S' b = none
theorem Nx.refl {S : Sto} {H : Hp} : Nx S H S H := ⟨fun _ _ h _ => h, fun _ _ _ h => h⟩
theorem Nx.trans {S S1 S2 : Sto} {H H1 H2 : Hp} (a : Nx S H S1 H1) (b : Nx S1 H1 S2 H2) : Nx S H S2 H2 :=
  ⟨fun x o h n => b.keep x o (a.keep x o h n) (a.dom x o h n), fun x o h n => b.dom x o (a.keep x o h n) (a.dom x o h n)⟩
section
variable {K : PySem.W.Frag} {S S' : Sto} {H H' : Hp}
mutual
theorem RW.mono (x : Nx S H S' H') : ∀ {w : W} {v : V}, RW K S H w v → RW K S' H' w v
  | _, _, .non => .non
  | _, _, .bl b => .bl b
  | _, _, .int i => .int i
  | _, _, .str y ok => .str y ok
  | _, _, .ty n => .ty n
  | _, _, .tup h n r => .tup (x.keep _ _ h n) (x.dom _ _ h n) (RWs.mono x r)
  | _, _, .tupK h r => .tupK h (RWs.mono x r)
  | _, _, .lst h n r => .lst (x.keep _ _ h n) (x.dom _ _ h n) (RWs.mono x r)
  | _, _, .scr h => .scr (h.elim (fun ⟨z, n⟩ => .inl ⟨z.elim (fun z => .inl (x.keep _ _ z n)) fun ⟨o, z⟩ => .inr ⟨o, x.keep _ _ z n⟩, z.elim (fun z => x.dom _ _ z n) fun ⟨o, z⟩ => x.dom _ _ z n⟩) .inr)
  | _, _, .dct h n e r => .dct (h.elim (fun z => .inl (x.keep _ _ z n)) fun ⟨o, z⟩ => .inr ⟨o, x.keep _ _ z n⟩) (h.elim (fun z => x.dom _ _ z n) fun ⟨o, z⟩ => x.dom _ _ z n) e (RWs.mono x r)
  | _, _, .ins h o n m e r => .ins (x.keep _ _ h n) (x.keep _ _ o m) (x.dom _ _ h n) (x.dom _ _ o m) e (RWs.mono x r)
  | _, _, .ref a => .ref a
  | _, _, .excN a => .excN a
  | _, _, .exc h n e r => .exc (x.keep _ _ h n) (x.dom _ _ h n) e (RWs.mono x r)
  | _, _, .lam h n r => .lam (x.keep _ _ h n) (x.dom _ _ h n) (RWs.mono x r)
  | _, _, .dctT h n e r => .dctT (x.keep _ _ h n) (x.dom _ _ h n) e (RWs.mono x r)
theorem RWs.mono (x : Nx S H S' H') : ∀ {ws : List W} {vs : List V}, RWs K S H ws vs → RWs K S' H' ws vs
  | _, _, .nil => .nil
  | _, _, .cons h t => .cons (RW.mono x h) (RWs.mono x t)
end
theorem RWp.mono {κ : Type} (x : Nx S H S' H') {fs : List (κ × W)} {gs : List (κ × V)} (h : RWp K S H fs gs) : RWp K S' H' fs gs := Paired.mapP h fun _ _ r => ⟨r.1, r.2.mono x⟩
theorem RWs.len : ∀ {ws : List W} {vs : List V}, RWs K S H ws vs → ws.length = vs.length
  | _, _, .nil => rfl
  | _, _, .cons _ t => congrArg Nat.succ (RWs.len t)
theorem RWs.app : ∀ {ws us : List W} {vs zs : List V}, RWs K S H ws vs → RWs K S H us zs → RWs K S H (ws ++ us) (vs ++ zs)
  | _, _, _, _, .nil, t => t
  | _, _, _, _, .cons h r, t => .cons h (RWs.app r t)
theorem RWs.get : ∀ {ws : List W} {vs : List V} {i : Nat} {w : W}, RWs K S H ws vs → ws[i]? = some w → ∃ v, vs[i]? = some v ∧ RW K S H w v
  | _, _, i, _, .nil, e => by simp at e
  | _, _, 0, _, .cons h _, e => by simp at e; subst e; exact ⟨_, rfl, h⟩
  | _, _, i + 1, w, .cons _ t, e => RWs.get (i := i) t (by simpa using e)
theorem RWs.get' : ∀ {ws : List W} {vs : List V} {i : Nat} {v : V}, RWs K S H ws vs → vs[i]? = some v → ∃ w, ws[i]? = some w ∧ RW K S H w v
  | _, _, i, _, .nil, e => by simp at e
  | _, _, 0, _, .cons h _, e => by simp at e; subst e; exact ⟨_, rfl, h⟩
  | _, _, i + 1, w, .cons _ t, e => RWs.get' (i := i) t (by simpa using e)
theorem RWs.set {w : W} {v : V} (h : RW K S H w v) : ∀ {ws : List W} {vs : List V} (i : Nat), RWs K S H ws vs → RWs K S H (ws.set i w) (vs.set i v)
  | _, _, _, .nil => .nil
  | _, _, 0, .cons _ t => .cons h t
  | _, _, i + 1, .cons q t => .cons q (RWs.set h i t)
theorem RWs.drop : ∀ {ws : List W} {vs : List V} (n : Nat), RWs K S H ws vs → RWs K S H (ws.drop n) (vs.drop n)
  | _, _, 0, r => r
  | _, _, _ + 1, .nil => .nil
  | _, _, n + 1, .cons _ t => RWs.drop n t
theorem RWs.take : ∀ {ws : List W} {vs : List V} (n : Nat), RWs K S H ws vs → RWs K S H (ws.take n) (vs.take n)
  | _, _, 0, _ => .nil
  | _, _, _ + 1, .nil => .nil
  | _, _, n + 1, .cons h t => .cons h (RWs.take n t)
theorem RWs.ints (ns : List Int) : RWs K S H (ns.map W.int) (ns.map V.int) := by
  induction ns with
  | nil => exact .nil
  | cons n ns ih => exact .cons (.int n) ih
theorem RWs.bls_inv : ∀ {ns : List Bool} {vs : List V}, RWs K S H (ns.map W.bl) vs → vs = ns.map V.bl
  | [], _, .nil => rfl
  | n :: ns, _, .cons h t => by cases h; rw [RWs.bls_inv t]; rfl
theorem RWs.strs {ns : List Str} (h : ∀ x ∈ ns, sv x) : RWs K S H (ns.map W.str) (ns.map V.str) := by
  induction ns with
  | nil => exact .nil
  | cons n ns ih => exact .cons (.str n (h n (List.mem_cons_self ..))) (ih fun x hx => h x (List.mem_cons_of_mem _ hx))
theorem RWp.fst {κ : Type} {fs : List (κ × W)} {gs : List (κ × V)} (r : RWp K S H fs gs) : fs.map (·.1) = gs.map (·.1) := by
  induction r with
  | nil => rfl
  | cons h t ih => simp only [List.map_cons, h.1, ih]
theorem RWp.snd {κ : Type} {fs : List (κ × W)} {gs : List (κ × V)} (r : RWp K S H fs gs) : RWs K S H (fs.map (·.2)) (gs.map (·.2)) := by
  induction r with
  | nil => exact .nil
  | cons h t ih => exact .cons h.2 ih
theorem RWp.len {κ : Type} {fs : List (κ × W)} {gs : List (κ × V)} (r : RWp K S H fs gs) : fs.length = gs.length := Paired.length r
theorem RWp.zip {κ : Type} {ks : List κ} {ws : List W} {vs : List V} (e : ks.length = vs.length) (r : RWs K S H ws vs) : RWp K S H (ks.zip ws) (ks.zip vs) := by
  induction ks generalizing ws vs with
  | nil => exact .nil
  | cons k ks ih =>
    cases r with
    | nil => cases e
    | cons h t => exact .cons ⟨rfl, h⟩ (ih (by simpa using e) t)
theorem RWp.look {κ : Type} [BEq κ] [LawfulBEq κ] {fs : List (κ × W)} {gs : List (κ × V)} {f : κ} {w : W} (r : RWp K S H fs gs) (e : fs.lookup f = some w) : ∃ v, gs.lookup f = some v ∧ RW K S H w v := by
  induction r with
  | nil => cases e
  | @cons p q fs gs h t ih =>
    obtain ⟨p1, p2⟩ := p
    obtain ⟨q1, q2⟩ := q
    obtain ⟨h1, h2⟩ := h
    simp only at h1 h2
    subst h1
    rw [List.lookup_cons] at e ⊢
    cases hb : f == p1 with
    | true => rw [hb] at e; simp only at e ⊢; cases e; exact ⟨_, rfl, h2⟩
    | false => rw [hb] at e; simp only at e ⊢; exact ih e
theorem RWp.lookN {κ : Type} [BEq κ] [LawfulBEq κ] {fs : List (κ × W)} {gs : List (κ × V)} {f : κ} (r : RWp K S H fs gs) (e : fs.lookup f = none) : gs.lookup f = none := by
  induction r with
  | nil => rfl
  | @cons p q fs gs h t ih =>
    obtain ⟨p1, p2⟩ := p
    obtain ⟨q1, q2⟩ := q
    obtain ⟨h1, h2⟩ := h
    simp only at h1 h2
    subst h1
    rw [List.lookup_cons] at e ⊢
    cases hb : f == p1 with
    | true => rw [hb] at e; cases e
    | false => rw [hb] at e; simp only at e ⊢; exact ih e
end
inductive RO (K : PySem.W.Frag) (S : Sto) (H : Hp) (a : Addr) : WO → Prop
  | lst {ws : List W} {vs : List V} (h : H a = some (.lst vs)) (r : RWs K S H ws vs) : RO K S H a (.lst ws)
  | dK {kvs : List (Key × W)} {gs : List (Key × V)} (h : H a = some (.dK gs)) (r : RWp K S H kvs gs) : RO K S H a (.dK kvs)
  | dT {kvs : List (List Key × W)} {gs : List (List Key × V)} (h : H a = some (.dT gs)) (r : RWp K S H kvs gs) : RO K S H a (.dT kvs)
  | ins {C dx : Addr} {fs : List (Str × W)} {gs : List (Str × V)} (h : H a = some (.ins C dx gs)) (m : S dx = some (.own a)) (r : RWp K S H fs gs) : RO K S H a (.ins C dx fs)
  | own {x : Addr} (h : H a = some (.own x)) : RO K S H a (.own x)
  | tup {ws : List W} {vs : List V} (h : H a = some (.tup vs)) (r : RWs K S H ws vs) : RO K S H a (.tup ws)
  | tab {q : Str} {ps : Array Value} (h : H a = some (.tbl ps)) (t : TriplesOk ps.toList) (c : ∀ (pos : Pos) (cv : Value), codeAmong pos ps.toList = some cv → ∃ c, cv = .ref c ∧ H c = some (LamX.CodeO c q) ∧ S c = none) : RO K S H a (.tab q)
  | tabF {ps : Array Value} (h : H a = some (.tbl ps)) : RO K S H a (.tabF ps)
def Rel (K : PySem.W.Frag) (S : Sto) (H : Hp) : Prop := ∀ a o, S a = some o → RO K S H a o
section
variable {K : PySem.W.Frag} {S S' : Sto} {H H' : Hp} {a b : Addr}
theorem Rel.ne (r : Rel K S H) {o : WO} (h : S a = some o) (n : H b = none) : b ≠ a := by
  intro e; subst e
  cases r _ _ h with
  | lst q _ => rw [n] at q; cases q
  | dK q _ => rw [n] at q; cases q
  | dT q _ => rw [n] at q; cases q
  | ins q _ _ => rw [n] at q; cases q
  | own q => rw [n] at q; cases q
  | tup q _ => rw [n] at q; cases q
  | tab q _ _ => rw [n] at q; cases q
  | tabF q => rw [n] at q; cases q
theorem Rel.free (r : Rel K S H) (n : H b = none) : S b = none := by
  cases h : S b with
  | none => rfl
  | some o => exact absurd rfl (r.ne h n)
theorem RO.mono {o : WO} (x : Nx S H S' H') (h : RO K S H a o) (ha : H' a = H a) (hd : ∀ d, S d = some (.own a) → S' d = some (.own a)) : RO K S' H' a o := by
  cases h with
  | lst h r => exact .lst (ha.trans h) (r.mono x)
  | dK h r => exact .dK (ha.trans h) (RWp.mono x r)
  | dT h r => exact .dT (ha.trans h) (RWp.mono x r)
  | ins h m r => exact .ins (ha.trans h) (hd _ m) (RWp.mono x r)
  | own h => exact .own (ha.trans h)
  | tup h r => exact .tup (ha.trans h) (r.mono x)
  | tab h t c => exact .tab (ha.trans h) t fun pos cv hc => let ⟨c, e1, e2, e3⟩ := c pos cv hc; ⟨c, e1, x.keep _ _ e2 e3, x.dom _ _ e2 e3⟩
  | tabF h => exact .tabF (ha.trans h)
theorem Nx.new {o : HO} (n : H a = none) : Nx S H S (upd H a o) := ⟨fun b u h _ => by rw [upd_ne (ne_of_none h n)]; exact h, fun _ _ _ h => h⟩
theorem Rel.new {o : HO} (r : Rel K S H) (n : H a = none) : Rel K S (upd H a o) := fun b u h => (r b u h).mono (Nx.new n) (upd_ne fun e => (r.ne h n) e.symm) fun _ h => h
theorem Nx.newS {o : HO} {u : WO} (n : H a = none) : Nx S H (up S a u) (upd H a o) := ⟨fun b u h _ => by rw [upd_ne (ne_of_none h n)]; exact h, fun b _ h q => by rw [up_ne (ne_of_none h n)]; exact q⟩
theorem Rel.newS {o : HO} {u : WO} (r : Rel K S H) (n : H a = none) (h : RO K (up S a u) (upd H a o) a u) : Rel K (up S a u) (upd H a o) := fun b u' q => by
  by_cases e : b = a
  · subst e; rw [up_same] at q; cases q; exact h
  · rw [up_ne e] at q
    refine (r b u' q).mono (Nx.newS n) (upd_ne e) fun d hd => ?_
    rw [up_ne fun e => r.ne hd n e.symm]
    exact hd
theorem Nx.wr {o : HO} {u u' : WO} (h : S a = some u) : Nx S H (up S a u') (upd H a o) :=
  ⟨fun b _ hb q => by rw [upd_ne fun e => by subst e; rw [h] at q; cases q]; exact hb, fun b _ _ q => by rw [up_ne fun e => by subst e; rw [h] at q; cases q]; exact q⟩
theorem Rel.wr {o : HO} {u u' : WO} (r : Rel K S H) (h : S a = some u) (hn : ∀ x, u ≠ .own x) (q : RO K (up S a u') (upd H a o) a u') : Rel K (up S a u') (upd H a o) := fun b v hb => by
  by_cases e : b = a
  · subst e; rw [up_same] at hb; cases hb; exact q
  · rw [up_ne e] at hb
    refine (r b v hb).mono (Nx.wr h) (upd_ne e) fun d hd => ?_
    rw [up_ne fun e => by subst e; rw [h] at hd; cases hd; exact hn _ rfl]
    exact hd
theorem Nx.forget : Nx S H (del S a) H := ⟨fun _ _ h _ => h, fun b o _ n => by
    by_cases e : b = a
    · subst e; exact del_same
    · rw [del_ne e]; exact n⟩
theorem Rel.forget {o : WO} (r : Rel K S H) (h : S a = some o) (hn : ∀ x, o ≠ .own x) : Rel K (del S a) H := fun b u hb => by
  have hne : b ≠ a := fun e => by subst e; rw [del_same] at hb; cases hb
  rw [del_ne hne] at hb
  refine (r b u hb).mono Nx.forget rfl fun d hd => ?_
  rw [del_ne fun e => by subst e; rw [h] at hd; cases hd; exact hn _ rfl]
  exact hd
end
abbrev XD := Value → Option (List (Str × W)) → List (Option W) → Sto → Prop
structure Om where
  s : List (Option W)
  ex : XD
def Om.set (ω : Om) (i : Nat) (w : Option W) : Om := ⟨ω.s.set i w, ω.ex⟩
abbrev WQ := W → Sto → Prop
abbrev DE' := Om → Sto → WQ → Prop
abbrev DT' := Om → Sto → (Bool → Sto → Prop) → Prop
abbrev DA' := Om → Sto → (List W → Sto → Prop) → Prop
structure Out where
  nx : Om → Sto → Prop
  rt : WQ
  bk : Om → Sto → Prop := fun _ _ => False
  ct : Om → Sto → Prop := fun _ _ => False
abbrev DS' := Out → Om → Sto → Prop
structure RS (K : PySem.W.Frag) (S : Sto) (H : Hp) (σ : L2.St) (ω : List (Option W)) : Prop where
  len : σ.length = ω.length
  at' : ∀ (i : Nat) (w : W), ω[i]? = some (some w) → ∃ v, σ[i]? = some (some v) ∧ RW K S H w v
section
variable {K : PySem.W.Frag} {S S' : Sto} {H H' : Hp} {σ : L2.St} {ω : List (Option W)}
theorem RS.mono (x : Nx S H S' H') (r : RS K S H σ ω) : RS K S' H' σ ω := ⟨r.len, fun i w h => let ⟨v, e, q⟩ := r.at' i w h; ⟨v, e, q.mono x⟩⟩
theorem RS.set {w : W} {v : V} (r : RS K S H σ ω) (h : RW K S H w v) (i : Nat) : RS K S H (σ.set i (some v)) (ω.set i (some w)) := by
  refine ⟨by rw [List.length_set, List.length_set]; exact r.len, fun j u e => ?_⟩
  by_cases hj : i = j
  · subst hj
    rw [List.getElem?_set] at e ⊢
    simp only [if_true] at e ⊢
    by_cases hl : i < ω.length
    · rw [if_pos hl] at e
      cases e
      rw [if_pos (by rw [r.len]; exact hl)]
      exact ⟨v, rfl, h⟩
    · rw [if_neg hl] at e; cases e
  · rw [List.getElem?_set_ne hj] at e ⊢
    exact r.at' j u e
end
def Xr (K : PySem.W.Frag) (S : Sto) (H : Hp) : Option (List (Str × W)) → Option Addr → Prop
  | none, none => True
  | some fs, some d => ∃ gs, H d = some (.xd gs) ∧ S d = none ∧ RWp K S H fs gs
  | _, _ => False
def FinW (K : PySem.W.Frag) (Z : WX) (S : Sto) (H : Hp) (ex : XD) : Prop := ∀ c fs l S' σ' H' d, Nx S H S' H' → Rel K S' H' → RS K S' H' σ' l → Xr K S' H' fs d → ex c fs l S' → Z c d σ' H'
def XF : XD := fun _ _ _ _ => False
abbrev Z0 : WX := fun _ _ _ _ => False
theorem FinW.to {K : PySem.W.Frag} {Z : WX} {S S' : Sto} {H H' : Hp} {ex : XD} (f : FinW K Z S H ex) (x : Nx S H S' H') : FinW K Z S' H' ex := fun c fs l S2 σ2 H2 d y => f c fs l S2 σ2 H2 d (x.trans y)
theorem FinW.zero {K : PySem.W.Frag} {Z : WX} {S : Sto} {H : Hp} : FinW K Z S H XF := fun _ _ _ _ _ _ _ _ _ _ _ h => h.elim
structure At (K : PySem.W.Frag) (Z : WX) (S : Sto) (H : Hp) (σ : L2.St) (ω : Om) : Prop where
  rel : Rel K S H
  rs : RS K S H σ ω.s
  fx : FinW K Z S H ω.ex
theorem At.to {K : PySem.W.Frag} {Z : WX} {S S' : Sto} {H H' : Hp} {σ : L2.St} {ω : Om} (a : At K Z S H σ ω) (x : Nx S H S' H') (r : Rel K S' H') : At K Z S' H' σ ω := ⟨r, a.rs.mono x, a.fx.to x⟩
def Fin (K : PySem.W.Frag) (S : Sto) (H : Hp) (Qd : WQ) (Q : VK) : Prop := ∀ w S' v H', Nx S H S' H' → Rel K S' H' → RW K S' H' w v → Qd w S' → Q v H'
def uE (K : PySem.W.Frag) (Z : WX) (td : DE') : TE := fun σ H Q => ∃ ω S Qd, At K Z S H σ ω ∧ td ω S Qd ∧ Fin K S H Qd Q
def uT (K : PySem.W.Frag) (Z : WX) (td : DT') : TT := fun σ H Q => ∃ (ω : Om) (S : Sto) (Qd : Bool → Sto → Prop), At K Z S H σ ω ∧ td ω S Qd ∧ ∀ b S' H', Nx S H S' H' → Rel K S' H' → Qd b S' → Q b H'
def uA (K : PySem.W.Frag) (Z : WX) (td : DA') : TA := fun σ H Q => ∃ (ω : Om) (S : Sto) (Qd : List W → Sto → Prop), At K Z S H σ ω ∧ td ω S Qd ∧ ∀ ws S' vs H', Nx S H S' H' → Rel K S' H' → RWs K S' H' ws vs → Qd ws S' → Q vs H'
structure FinS (K : PySem.W.Frag) (Z : WX) (S : Sto) (H : Hp) (Dd : Out) (D : Ends) : Prop where
  nx : ∀ ω' S' σ' H', Nx S H S' H' → At K Z S' H' σ' ω' → Dd.nx ω' S' → D.nx σ' H'
  rt : ∀ w S' v H', Nx S H S' H' → Rel K S' H' → RW K S' H' w v → Dd.rt w S' → D.rt v H'
  bk : ∀ ω' S' σ' H', Nx S H S' H' → At K Z S' H' σ' ω' → Dd.bk ω' S' → D.bk σ' H'
  ct : ∀ ω' S' σ' H', Nx S H S' H' → At K Z S' H' σ' ω' → Dd.ct ω' S' → D.ct σ' H'
theorem FinS.to {K : PySem.W.Frag} {Z : WX} {S S' : Sto} {H H' : Hp} {Dd : Out} {D : Ends} (f : FinS K Z S H Dd D) (x : Nx S H S' H') : FinS K Z S' H' Dd D :=
  ⟨fun ω' S2 σ' H2 y => f.nx ω' S2 σ' H2 (x.trans y), fun w S2 v H2 y => f.rt w S2 v H2 (x.trans y), fun ω' S2 σ' H2 y => f.bk ω' S2 σ' H2 (x.trans y), fun ω' S2 σ' H2 y => f.ct ω' S2 σ' H2 (x.trans y)⟩
def uS (K : PySem.W.Frag) (Z : WX) (td : DS') : TS := fun D σ H => ∃ ω S Dd, At K Z S H σ ω ∧ td Dd ω S ∧ FinS K Z S H Dd D
theorem PE.im {X : Cx} {e : Expr} {t t' : TE} (h : PE X e t) (i : ∀ σ H Q, t' σ H Q → t σ H Q) : PE X e t' := ⟨fun pins s σ H Q I q => h.run pins s σ H Q I (i σ H Q q)⟩
theorem PT.im {X : Cx} {e : Expr} {t t' : TT} (h : PT X e t) (i : ∀ σ H Q, t' σ H Q → t σ H Q) : PT X e t' := ⟨fun pins s σ H Q I q => h.run pins s σ H Q I (i σ H Q q)⟩
theorem PW.im {X : Cx} {e : Expr} {t t' : TT} (h : PW X e t) (i : ∀ σ H Q, t' σ H Q → t σ H Q) : PW X e t' := ⟨fun wh pins s σ H Q I q => h.run wh pins s σ H Q I (i σ H Q q)⟩
theorem PA.im {X : Cx} {e : List Expr} {t t' : TA} (h : PA X e t) (i : ∀ σ H Q, t' σ H Q → t σ H Q) : PA X e t' := ⟨fun pos pins s σ H Q I q => h.run pos pins s σ H Q I (i σ H Q q)⟩
theorem PS.im {X : Cx} {e : Stmt} {t t' : TS} (h : PS X e t) (i : ∀ D σ H, t' D σ H → t D σ H) : PS X e t' := ⟨fun pins s σ H D I q => h.run pins s σ H D I (i D σ H q)⟩
theorem PSs.im {X : Cx} {e : List Stmt} {t t' : TS} (h : PSs X e t) (i : ∀ D σ H, t' D σ H → t D σ H) : PSs X e t' := ⟨fun pins s σ H D I q => h.run pins s σ H D I (i D σ H q)⟩
abbrev DE (X : Cx) (Z : WX) (e : Expr) (td : DE') : Prop := PE X e (uE X.K Z td)
abbrev DT (X : Cx) (Z : WX) (e : Expr) (td : DT') : Prop := PT X e (uT X.K Z td)
abbrev DWt (X : Cx) (Z : WX) (e : Expr) (td : DT') : Prop := PW X e (uT X.K Z td)
abbrev DA (X : Cx) (Z : WX) (e : List Expr) (td : DA') : Prop := PA X e (uA X.K Z td)
abbrev DS (X : Cx) (Z : WX) (e : Stmt) (td : DS') : Prop := PS X e (uS X.K Z td)
abbrev DSs (X : Cx) (Z : WX) (e : List Stmt) (td : DS') : Prop := PSs X e (uS X.K Z td)
theorem sz_of {n : Nat} (h : n ≤ 1000000) : n ≤ sizeLine := Nat.le_trans h (by decide)
theorem sz_lt {n : Nat} (h : n < 1000000) : n < sizeLine := Nat.lt_of_lt_of_le h (by decide)
def view (S : Sto) : W → W
  | .ref a => match S a with
    | some (.lst xs) => .lst xs
    | some (.dK kvs) => .dct (kvs.map (·.1)) (kvs.map (·.2))
    | _ => .ref a
  | w => w
section
variable {K : PySem.W.Frag} {S : Sto} {H : Hp} {w : W} {v : V} {xs : List W}
theorem view_lst (r : Rel K S H) (h : RW K S H w v) (e : view S w = .lst xs) : ∃ a vs, v = .ref a ∧ H a = some (.lst vs) ∧ RWs K S H xs vs := by
  cases h <;> simp only [view] at e <;> try cases e
  case lst a vs h n q => exact ⟨_, _, rfl, h, q⟩
  case ref a =>
    split at e
    · rename_i ys hs
      cases e
      cases r _ _ hs with
      | lst h q => exact ⟨_, _, rfl, h, q⟩
    all_goals cases e
theorem zip_prod {κ : Type} : ∀ kvs : List (κ × W), (kvs.map (·.1)).zip (kvs.map (·.2)) = kvs
  | [] => rfl
  | (k, w) :: t => by rw [List.map_cons, List.map_cons, List.zip_cons_cons, zip_prod t]
theorem view_dct {ks : List Key} (r : Rel K S H) (h : RW K S H w v) (e : view S w = .dct ks xs) : ∃ a gs, v = .ref a ∧ Rd H a (.dK gs) ∧ RWp K S H (ks.zip xs) gs ∧ ks.length = xs.length := by
  cases h <;> simp only [view] at e <;> try cases e
  case dct => exact ⟨_, _, rfl, by assumption, RWp.zip (by assumption) (by assumption), (by assumption : _ = _).trans (RWs.len (by assumption)).symm⟩
  case ref a =>
    split at e
    · cases e
    · rename_i kvs hs
      cases e
      cases r _ _ hs with
      | dK h q => exact ⟨_, _, rfl, .inl h, by rw [zip_prod]; exact q, by simp⟩
    · cases e
theorem view_dctR {a : Addr} {ks : List Key} (r : Rel K S H) (e : view S (.ref a) = .dct ks xs) : ∃ gs, H a = some (.dK gs) ∧ RWp K S H (ks.zip xs) gs ∧ ks.length = xs.length := by
  simp only [view] at e
  split at e
  · cases e
  · rename_i kvs hs
    cases e
    cases r _ _ hs with
    | dK h q => exact ⟨_, h, by rw [zip_prod]; exact q, by simp⟩
  · cases e
theorem view_tup (h : RW K S H w v) (e : view S w = .tup xs) : ∃ a vs, v = .ref a ∧ SqT K H a vs ∧ RWs K S H xs vs := by
  cases h <;> simp only [view] at e <;> try cases e
  case tup a vs h n q => exact ⟨_, _, rfl, .inl (.inl h), q⟩
  case tupK a vs h q => exact ⟨_, _, rfl, .inr h, q⟩
  case ref a => split at e <;> cases e
theorem view_scr {ns : List Int} (h : RW K S H w v) (e : view S w = .scr ns) : ∃ a, v = .ref a ∧ SqL K H a (ns.map V.int) := by
  cases h <;> simp only [view] at e <;> try cases e
  case scr h => exact ⟨_, rfl, h.elim (fun ⟨z, _⟩ => .inl z) .inr⟩
  case ref a => split at e <;> cases e
theorem view_str {x : Str} (h : RW K S H w v) (e : view S w = .str x) : v = .str x ∧ sv x := by
  cases h <;> simp only [view] at e <;> try cases e
  case str ok => exact ⟨rfl, ok⟩
  case ref a => split at e <;> cases e
end
def ζB (i : Nat) : DE' := fun ω S Q => match ω.s[i]? with
  | some (some w) => Q w S
  | _ => False
def dC (w : W) : DE' := fun _ S Q => Q w S
section
variable {X : Cx} {Z : WX}
theorem Fin.one {K : PySem.W.Frag} {S : Sto} {H : Hp} {Qd : WQ} {Q : VK} (f : Fin K S H Qd Q) (r : Rel K S H) {w : W} {v : V} (h : RW K S H w v) (q : Qd w S) : Q v H := f w S v H Nx.refl r h q
theorem dv (i : Nat) {x : Str} {pos : Pos} (hN : X.N[i]? = some x := by rfl) (hv : Vis X.env.scope x := by first | exact Or.inl rfl | exact Or.inr (Or.inl rfl) | exact Or.inr (Or.inr rfl)) (hd : (x == ("__debug__" : Str)) = false := by decide)
    (hcd : (x == ("__classdict__" : Str)) = false := by decide) : DE X Z (.Name x pos) (ζB i) := PE.im (pe_var hN hv hd hcd) fun σ H Q ⟨ω, S, Qd, a, h, f⟩ => by
  unfold ζB at h
  split at h
  · rename_i w e
    obtain ⟨v, ev, r⟩ := a.rs.at' i w e
    exact ⟨v, ev, f.one a.rel r h⟩
  · exact h.elim
theorem de_c {e : Expr} {v : V} {w : W} (h : PE X e (tC v)) (r : ∀ S H, RW X.K S H w v) : DE X Z e (dC w) := PE.im h fun σ H Q ⟨ω, S, Qd, a, q, f⟩ => f.one a.rel (r S H) q
theorem de_int {i : Int} {j pos} : DE X Z (.Constant (.int i) j pos) (dC (.int i)) := de_c pe_int fun _ _ => .int i
theorem de_bl {b : Bool} {j pos} : DE X Z (.Constant (.bool b) j pos) (dC (.bl b)) := de_c pe_bl fun _ _ => .bl b
theorem de_non {j pos} : DE X Z (.Constant .none j pos) (dC .non) := de_c pe_non fun _ _ => .non
theorem de_str {x : Str} {j pos} (ok : sv x := by decide +kernel) : DE X Z (.Constant (.str x) j pos) (dC (.str x)) := de_c pe_str fun _ _ => .str x ok
def GW (K : PySem.W.Frag) (mg : Str → Option Value) (x : Str) (w : W) : Prop := ∃ v u, mg x = some u ∧ RelV v u ∧ ∀ S H, RW K S H w v
theorem de_glob {x : Str} {w : W} {pos : Pos} (g : GW X.K X.mg x w) (hg : Gl X x := by rfl) (hd : (x == ("__debug__" : Str)) = false := by decide) : DE X Z (.Name x pos) (dC w) := by
  obtain ⟨v, u, hm, r, q⟩ := g
  exact de_c (pe_glob hg hm r hd) q
theorem de_ty {x : Str} {n : String} {pos : Pos} (hm : X.mg x = none) (hv : bootBuiltins x = some (.type n) := by decide +kernel) (hg : Gl X x := by rfl) (hn : x ≠ "__name__" := by decide) (hd : (x == ("__debug__" : Str)) = false := by decide) : DE X Z (.Name x pos) (dC (.ty n)) :=
  de_c (pe_bltn (v := .ty n) hg hm hv rfl hn hd) fun _ _ => .ty n
end
abbrev D2 := W → W → Sto → WQ → Prop
def uR (K : PySem.W.Frag) (rd : D2) : R2 := fun x y H Q => ∃ w1 w2 S Qd, Rel K S H ∧ RW K S H w1 x ∧ RW K S H w2 y ∧ rd w1 w2 S Qd ∧ Fin K S H Qd Q
def dOp (rd : D2) (ta tb : DE') : DE' := fun ω S Q => ta ω S fun x S1 => tb ω S1 fun y S2 => rd x y S2 Q
def dUn (rd : W → Sto → WQ → Prop) (ta : DE') : DE' := fun ω S Q => ta ω S fun x S1 => rd x S1 Q
theorem uOp {K : PySem.W.Frag} {rd : D2} {ta tb : DE'} {σ : L2.St} {H : Hp} {Q : VK} (h : uE K Z (dOp rd ta tb) σ H Q) : tOp (uR K rd) (uE K Z ta) (uE K Z tb) σ H Q := by
  obtain ⟨ω, S, Qd, a, h, f⟩ := h
  refine ⟨ω, S, _, a, h, fun w S1 v H1 x1 r1 q1 h1 => ?_⟩
  refine ⟨ω, S1, _, a.to x1 r1, h1, fun w2 S2 v2 H2 x2 r2 q2 h2 => ?_⟩
  exact ⟨w, w2, S2, Qd, r2, q1.mono x2, q2, h2, fun w S' v H' x r q h => f w S' v H' (x1.trans (x2.trans x)) r q h⟩
section
variable {X : Cx} {Z : WX} {a b c : Expr} {ta tb tc : DE'} {pos : Pos} {rd rd' : D2}
abbrev OD (X : Cx) (f : Value → Value → Sem Value) (rd : D2) : Prop := OpR X f (uR X.K rd)
theorem de_op {op : Operator} (ho : OD X (binaryOp op) rd) (ha : DE X Z a ta) (hb : DE X Z b tb) : DE X Z (.BinOp a op b pos) (dOp rd ta tb) := PE.im (pe_op ho ha hb) fun _ _ _ => uOp
theorem de_cmp {op : CmpOp} (ho : OD X (compareOp op) rd) (ha : DE X Z a ta) (hb : DE X Z b tb) (hm : behindInMarks op b = false := by first | exact nomark _ | rfl) : DE X Z (.Compare a [op] [b] pos) (dOp rd ta tb) := PE.im (pe_cmpR ho ha hb hm) fun _ _ _ => uOp
end
def dI (C : Int → Int → Prop) (g : Int → Int → W) : D2 := fun a b S Q => match a, b with
  | .int i, .int j => C i j ∧ Q (g i j) S
  | _, _ => False
def dI0 (g : Int → Int → W) : D2 := fun a b S Q => match a, b with
  | .int i, .int j => Q (g i j) S
  | _, _ => False
theorem OpR.im {X : Cx} {f : Value → Value → Sem Value} {r r' : R2} (h : OpR X f r) (i : ∀ x y H Q, r' x y H Q → r x y H Q) : OpR X f r' := fun pins s σ H x y v u Q I rx ry q => h pins s σ H x y v u Q I rx ry (i _ _ _ _ q)
theorem odI {X : Cx} {f : Value → Value → Sem Value} {C : Int → Int → Prop} {g : Int → Int → V} {gw : Int → Int → W} (h : OpR X f (rI C g)) (hg : ∀ K S H i j, RW K S H (gw i j) (g i j)) : OD X f (dI C gw) := OpR.im h fun x y H Q ⟨w1, w2, S, Qd, r, r1, r2, q, fi⟩ => by
  unfold dI at q
  split at q
  · cases r1; cases r2
    exact ⟨_, _, rfl, rfl, q.1, fi.one r (hg ..) q.2⟩
  · exact q.elim
theorem odI0 {X : Cx} {f : Value → Value → Sem Value} {g : Int → Int → V} {gw : Int → Int → W} (h : OpR X f (rI0 g)) (hg : ∀ K S H i j, RW K S H (gw i j) (g i j)) : OD X f (dI0 gw) := OpR.im h fun x y H Q ⟨w1, w2, S, Qd, r, r1, r2, q, fi⟩ => by
  unfold dI0 at q
  split at q
  · cases r1; cases r2
    exact ⟨_, _, rfl, rfl, fi.one r (hg ..) q⟩
  · exact q.elim
section
variable {X : Cx} {Z : WX}
def ζC : D2 := dI0 fun i j => .int (i - j)
theorem oa_sub : OD X (binaryOp .Sub) ζC := odI0 op_sub fun _ _ _ i j => .int _
def ζD : D2 := dI CMul fun i j => .int (i * j)
theorem oa_mul : OD X (binaryOp .Mult) ζD := odI op_mul fun _ _ _ i j => .int _
def ζE : D2 := dI CDiv fun i j => .int (i / j)
theorem oa_div : OD X (binaryOp .FloorDiv) ζE := odI op_fdiv fun _ _ _ i j => .int _
def ζF : D2 := dI (fun _ j => 0 < j) fun i j => .int (i % j)
theorem oa_mod : OD X (binaryOp .Mod) ζF := odI op_mod fun _ _ _ i j => .int _
def ζG : D2 := dI CPow fun i j => .int (i ^ j.toNat)
theorem oa_pow : OD X (binaryOp .Pow) ζG := odI op_pow fun _ _ _ i j => .int _
def ζH : D2 := fun a b S Q => match view S a, view S b with
  | .int i, .int j => Q (.int (i + j)) S
  | .str x, .str y => x.length + y.length ≤ 1000000 ∧ Q (.str (x ++ y)) S
  | .lst xs, .lst ys => xs.length + ys.length ≤ 1000000 ∧ Q (.lst (xs ++ ys)) S
  | .tup xs, .tup ys => xs.length + ys.length ≤ 1000000 ∧ Q (.tup (xs ++ ys)) S
  | _, _ => False
theorem str_app (a b : Str) : (a ++ b).length = a.length + b.length := Array.size_append
theorem sv_app {x y : Str} (hx : sv x) (hy : sv y) (h : x.length + y.length ≤ 1000000) : sv (x ++ y) := by
  rw [sv_iff] at hx hy ⊢
  refine ⟨fun c hc => ?_, by rw [str_app]; exact sz_of h⟩
  have e : (x ++ y).cps.toList = x.cps.toList ++ y.cps.toList := Array.toList_append
  rw [e, List.mem_append] at hc
  exact hc.elim (hx.1 c) (hy.1 c)
theorem view_int {K : PySem.W.Frag} {S : Sto} {H : Hp} {w : W} {v : V} {i : Int} (h : RW K S H w v) (e : view S w = .int i) : v = .int i := by
  cases h <;> simp only [view] at e <;> try cases e
  case int => rfl
  case ref a => split at e <;> cases e
theorem oa_add : OD X (binaryOp .Add) ζH := by
  intro pins s σ H x y v u Q I rx ry ⟨w1, w2, S, Qd, r, r1, r2, q, fi⟩
  unfold ζH at q
  split at q
  · rename_i i j e1 e2
    cases view_int r1 e1; cases view_int r2 e2
    exact op_add pins s σ H _ _ v u Q I rx ry ⟨_, _, rfl, rfl, fi.one r (.int _) q⟩
  · rename_i i j e1 e2
    obtain ⟨rfl, o1⟩ := view_str r1 e1
    obtain ⟨rfl, o2⟩ := view_str r2 e2
    exact op_add_str pins s σ H _ _ v u Q I rx ry ⟨_, _, rfl, rfl, sz_of q.1, fi.one r (.str _ (sv_app o1 o2 q.1)) q.2⟩
  · rename_i i j e1 e2
    obtain ⟨a, vs, rfl, h1, s1⟩ := view_lst r r1 e1
    obtain ⟨b, us, rfl, h2, s2⟩ := view_lst r r2 e2
    exact op_cat pins s σ H _ _ v u Q I rx ry ⟨a, b, vs, us, rfl, rfl, h1, h2, by rw [← s1.len, ← s2.len]; exact sz_of q.1, fun p np => fi _ _ _ _ (Nx.new np) (r.new np) (.lst upd_same (r.free np) ((s1.app s2).mono (Nx.new np))) q.2⟩
  · rename_i i j e1 e2
    obtain ⟨a, vs, rfl, h1, s1⟩ := view_tup r1 e1
    obtain ⟨b, us, rfl, h2, s2⟩ := view_tup r2 e2
    refine op_catA pins s σ H _ _ v u Q I rx ry ⟨a, b, vs, us, rfl, rfl, h1, h2, by rw [← s1.len, ← s2.len]; exact sz_of q.1, fun ev => ?_, fun _ ev => ?_, fun _ _ p np => fi _ _ _ _ (Nx.new np) (r.new np) (.tup upd_same (r.free np) ((s1.app s2).mono (Nx.new np))) q.2⟩
    · subst ev
      cases s1
      refine fi.one r ?_ q.2
      cases r2 <;> simp only [view] at e2 <;> try cases e2
      · rename_i hh nn rr; exact .tup hh nn rr
      · rename_i hh rr; exact .tupK hh rr
      · split at e2 <;> cases e2
    · subst ev
      cases s2
      refine fi.one r ?_ (by simpa using q.2)
      cases r1 <;> simp only [view] at e1 <;> try cases e1
      · rename_i hh nn rr; exact .tup hh nn rr
      · rename_i hh rr; exact .tupK hh rr
      · split at e1 <;> cases e1
  · exact q.elim
def ζI : W → Sto → WQ → Prop := fun a S Q => match a with
  | .int i => Q (.int (-i)) S
  | _ => False
theorem de_neg {a : Expr} {ta : DE'} {pos : Pos} (ha : DE X Z a ta) : DE X Z (.UnaryOp .USub a pos) (dUn ζI ta) := PE.im (pe_un un_neg ha) fun σ H Q h => by
  obtain ⟨ω, S, Qd, a, h, f⟩ := h
  refine ⟨ω, S, _, a, h, fun w S1 v H1 x1 r1 q1 h1 => ?_⟩
  unfold ζI at h1
  split at h1
  · cases q1; exact ⟨_, rfl, f _ _ _ _ x1 r1 (.int _) h1⟩
  · exact h1.elim
end
mutual
def pd : W → PyData
  | .non => .none
  | .bl b => .bool b
  | .int i => .int i
  | .str x => .str x
  | .tup xs => .tuple (pds xs)
  | .lst xs => .list (pds xs)
  | .scr ns => .list (ns.map PyData.int)
  | _ => .none
def pds : List W → List PyData
  | [] => []
  | w :: ws => pd w :: pds ws
end
mutual
def isD : W → Bool
  | .non | .bl _ | .int _ | .str _ | .scr _ => true
  | .tup xs | .lst xs => isDs xs
  | _ => false
def isDs : List W → Bool
  | [] => true
  | w :: ws => isD w && isDs ws
end
mutual
def dep : W → Nat
  | .tup xs | .lst xs => deps xs + 1
  | .scr _ => 1
  | _ => 0
def deps : List W → Nat
  | [] => 0
  | w :: ws => max (dep w) (deps ws)
end
def okD (w : W) : Bool := isD w && decide (dep w ≤ 60)
def weq (a b : W) : Bool := PyData.eqv (pd a) (pd b)
theorem pds_map (ws : List W) : pds ws = ws.map pd := by
  induction ws with
  | nil => rfl
  | cons w ws ih => rw [pds, ih]; rfl
theorem isDs_all (ws : List W) : isDs ws = ws.all isD := by
  induction ws with
  | nil => rfl
  | cons w ws ih => rw [isDs, ih]; rfl
theorem deps_le {ws : List W} {n : Nat} (h : ∀ w ∈ ws, dep w ≤ n) : deps ws ≤ n := by
  induction ws with
  | nil => exact Nat.zero_le _
  | cons w ws ih =>
    rw [deps]
    exact Nat.max_le.mpr ⟨h w (List.mem_cons_self ..), ih fun x hx => h x (List.mem_cons_of_mem _ hx)⟩
def ND (n : Nat) (w : W) : Prop := isD w = true ∧ dep w ≤ n
theorem ND.ok {n : Nat} {w : W} (h : ND n w) (hn : n ≤ 60) : okD w = true := by
  unfold okD
  rw [h.1, decide_eq_true (Nat.le_trans h.2 hn)]
  rfl
theorem ND.mono {n m : Nat} {w : W} (h : ND n w) (hn : n ≤ m) : ND m w := ⟨h.1, Nat.le_trans h.2 hn⟩
theorem ND.lst {n : Nat} {ws : List W} (h : ∀ w ∈ ws, ND n w) : ND (n + 1) (.lst ws) := by
  refine ⟨?_, ?_⟩
  · show isDs ws = true
    rw [isDs_all, List.all_eq_true]
    exact fun x hx => (h x hx).1
  · show deps ws + 1 ≤ n + 1
    exact Nat.succ_le_succ (deps_le fun w hw => (h w hw).2)
theorem ND.tup {n : Nat} {ws : List W} (h : ∀ w ∈ ws, ND n w) : ND (n + 1) (.tup ws) := by
  refine ⟨?_, ?_⟩
  · show isDs ws = true
    rw [isDs_all, List.all_eq_true]
    exact fun x hx => (h x hx).1
  · show deps ws + 1 ≤ n + 1
    exact Nat.succ_le_succ (deps_le fun w hw => (h w hw).2)
theorem ND.int {n : Nat} (i : Int) : ND n (.int i) := ⟨rfl, Nat.zero_le _⟩
theorem ND.str {n : Nat} (x : Str) : ND n (.str x) := ⟨rfl, Nat.zero_le _⟩
section
variable {K : PySem.W.Frag} {S : Sto} {H : Hp}
mutual
theorem RW.dp : ∀ {w : W} {v : V}, RW K S H w v → isD w = true → Dp K H v (pd w) ∧ (pd w).canLay0 = true
  | _, _, .non, _ => ⟨.non, rfl⟩
  | _, _, .bl b, _ => ⟨.bl b, rfl⟩
  | _, _, .int i, _ => ⟨.int i, rfl⟩
  | _, _, .str x ok, _ => ⟨.str x, by
      have h := sv_iff.mp ok
      show x.cps.all (· < 0x110000) = true
      rw [← Array.all_toList, List.all_eq_true]
      exact fun c hc => decide_eq_true (h.1 c hc)⟩
  | _, _, .tup h n r, d => ⟨.tup (.inl (.inl h)) (RWs.dp r d).1, (RWs.dp r d).2⟩
  | _, _, .tupK h r, d => ⟨.tup (.inr h) (RWs.dp r d).1, (RWs.dp r d).2⟩
  | _, _, .lst h n r, d => ⟨.lst (.inl (.inl h)) (RWs.dp r d).1, (RWs.dp r d).2⟩
  | _, _, @RW.scr _ _ _ a ns h, d => ⟨.lst (h.elim (fun ⟨z, _⟩ => .inl z) .inr) (by
      clear h
      induction ns with
      | nil => exact .nil
      | cons i ns ih => exact .cons (.int i) (ih rfl)), by
      show PyData.canLayAll0 (ns.map PyData.int) = true
      clear h
      induction ns with
      | nil => rfl
      | cons i ns ih => rw [List.map_cons, PyData.canLayAll0, ih rfl]; rfl⟩
  | _, _, .ty n, d => nomatch d
  | _, _, .dct .., d => nomatch d
  | _, _, .ins .., d => nomatch d
  | _, _, .ref _, d => nomatch d
  | _, _, .excN _, d => nomatch d
  | _, _, .exc .., d => nomatch d
  | _, _, .lam .., d => nomatch d
  | _, _, .dctT .., d => nomatch d
theorem RWs.dp : ∀ {ws : List W} {vs : List V}, RWs K S H ws vs → isDs ws = true → DpAll K H vs (pds ws) ∧ PyData.canLayAll0 (pds ws) = true
  | _, _, .nil, _ => ⟨.nil, rfl⟩
  | _, _, @RWs.cons _ _ _ w v ws vs h t, d => by
    rw [isDs, Bool.and_eq_true] at d
    have q1 := RW.dp h d.1
    have q2 := RWs.dp t d.2
    refine ⟨.cons q1.1 q2.1, ?_⟩
    rw [pds, PyData.canLayAll0, q1.2, q2.2]
    rfl
end
mutual
theorem depth_pd : ∀ (w : W), (pd w).depth ≤ dep w
  | .non | .bl _ | .int _ | .str _ | .ty _ | .dct _ _ | .ins _ _ _ | .ref _ | .exc _ _ _ _ | .lam _ _ _ _ _ | .dctT _ _ => by simp [pd, PyData.depth]
  | .tup xs => by
    have := depth_pds xs
    show PyData.depthAll (pds xs) + 1 ≤ deps xs + 1
    omega
  | .lst xs => by
    have := depth_pds xs
    show PyData.depthAll (pds xs) + 1 ≤ deps xs + 1
    omega
  | .scr ns => by
    show PyData.depthAll (ns.map PyData.int) + 1 ≤ 1
    have : PyData.depthAll (ns.map PyData.int) = 0 := by
      induction ns with
      | nil => rfl
      | cons n ns ih => rw [List.map_cons, PyData.depthAll, ih]; rfl
    omega
theorem depth_pds : ∀ (ws : List W), PyData.depthAll (pds ws) ≤ deps ws
  | [] => Nat.le_refl _
  | w :: ws => by
    have h1 := depth_pd w
    have h2 := depth_pds ws
    rw [pds, PyData.depthAll, deps]
    omega
end
theorem RW.shaped {w : W} {v : V} (h : RW K S H w v) (d : okD w = true) : Dp K H v (pd w) ∧ SeqAt.shaped (pd w) = true := by
  unfold okD at d
  rw [Bool.and_eq_true] at d
  have q := h.dp d.1
  have := depth_pd w
  have d2 := of_decide_eq_true d.2
  refine ⟨q.1, ?_⟩
  show ((pd w).canLay0 && decide ((pd w).depth ≤ 64)) = true
  rw [q.2, decide_eq_true (by omega : (pd w).depth ≤ 64)]
  rfl
theorem view_dp {w : W} {v : V} (r : Rel K S H) (h : RW K S H w v) (d : okD (view S w) = true) : Dp K H v (pd (view S w)) ∧ SeqAt.shaped (pd (view S w)) = true := by
  cases e : view S w with
  | lst xs =>
    rw [e] at d
    obtain ⟨a, vs, rfl, h1, q⟩ := view_lst r h e
    have z : RW K (fun _ => none) H (.lst xs) (.ref a) → Dp K H (.ref a) (pd (.lst xs)) ∧ SeqAt.shaped (pd (.lst xs)) = true := fun z => z.shaped d
    unfold okD at d
    rw [Bool.and_eq_true] at d
    have q1 := q.dp d.1
    have := depth_pd (.lst xs)
    have d2 := of_decide_eq_true d.2
    refine ⟨.lst (.inl (.inl h1)) q1.1, ?_⟩
    show ((pd (.lst xs)).canLay0 && decide ((pd (.lst xs)).depth ≤ 64)) = true
    rw [show (pd (.lst xs)).canLay0 = true from q1.2, decide_eq_true (by omega : (pd (W.lst xs)).depth ≤ 64)]
    rfl
  | _ =>
    have e2 : view S w = w := by
      cases w with
      | ref a =>
        exfalso
        cases hs : S a with
        | none => simp [view, hs, okD, isD] at d
        | some o =>
          cases o with
          | lst ys => simp [view, hs] at e
          | _ => simp [view, hs, okD, isD] at d
      | _ => rfl
    rw [← e, e2]
    exact h.shaped (by rw [← e2]; exact d)
end
theorem weq_refl {w : W} (h : isD w = true) : weq w w = true := by
  have : ∀ d : PyData, (∀ x, d ≠ .dict x) → True := fun _ _ => trivial
  have key : ∀ w : W, isD w = true → PyData.eqv (pd w) (pd w) = true := by
    intro w
    refine W.rec (motive_1 := fun w => isD w = true → PyData.eqv (pd w) (pd w) = true) (motive_2 := fun ws => isDs ws = true → PyData.eqvAll (pds ws) (pds ws) = true) ?_ ?_ ?_ ?_ ?_ ?_ ?_ ?_ ?_ ?_ ?_ ?_ ?_ ?_ ?_ ?_ w
    · intro _; rfl
    · intro b _; simp [pd, PyData.eqv]
    · intro i _; simp [pd, PyData.eqv]
    · intro x _; simp [pd, PyData.eqv]
    · intro n h; cases h
    · intro xs ih h; rw [pd, PyData.eqv]; exact ih h
    · intro xs ih h; rw [pd, PyData.eqv]; exact ih h
    · intro ns _
      rw [pd, PyData.eqv]
      induction ns with
      | nil => rfl
      | cons n ns ih => rw [List.map_cons, PyData.eqvAll, ih rfl]; simp [PyData.eqv]
    · intro _ _ _ h; cases h
    · intro _ _ _ _ h; cases h
    · intro _ h; cases h
    · intro _ _ _ _ _ h; cases h
    · intro _ _ _ _ _ _ h; cases h
    · intro _ _ _ h; cases h
    · intro _; rfl
    · intro w ws h1 h2 h
      rw [isDs, Bool.and_eq_true] at h
      rw [pds, PyData.eqvAll, h1 h.1, h2 h.2]; rfl
  exact key w h
section
variable {X : Cx} {Z : WX} {k : Nat}
def dEq : D2 := fun a b S Q => okD (view S a) = true ∧ okD (view S b) = true ∧ Q (.bl (weq (view S a) (view S b))) S
def dNe : D2 := fun a b S Q => okD (view S a) = true ∧ okD (view S b) = true ∧ Q (.bl (!weq (view S a) (view S b))) S
theorem oc_eq (hr : Room k X.A) : OD X (compareOp .Eq) dEq := OpR.im (op_eqD hr.units) fun x y H Q ⟨w1, w2, S, Qd, r, r1, r2, ⟨d1, d2, q⟩, fi⟩ =>
  ⟨_, _, (view_dp r r1 d1).1, (view_dp r r2 d2).1, (view_dp r r1 d1).2, (view_dp r r2 d2).2, fi.one r (.bl _) q⟩
theorem oc_ne (hr : Room k X.A) : OD X (compareOp .NotEq) dNe := OpR.im (op_neD hr.units) fun x y H Q ⟨w1, w2, S, Qd, r, r1, r2, ⟨d1, d2, q⟩, fi⟩ =>
  ⟨_, _, (view_dp r r1 d1).1, (view_dp r r2 d2).1, (view_dp r r1 d1).2, (view_dp r r2 d2).2, fi.one r (.bl _) q⟩
def wval {κ : Type} [DecidableEq κ] (kvs : List (κ × W)) (k : κ) : Option W := (kvs.find? fun kv => decide (kv.1 = k)).map (·.2)
def wput {κ : Type} [DecidableEq κ] (kvs : List (κ × W)) (k : κ) (v : W) : List (κ × W) := if (kvs.any fun kv => decide (kv.1 = k)) = true then kvs.map (fun kv => if kv.1 = k then (kv.1, v) else kv) else kvs ++ [(k, v)]
def wkey : W → Option Key
  | .int i => some (.inl i)
  | .str x => some (.inr x)
  | _ => none
theorem wkey_rel {K : PySem.W.Frag} {S : Sto} {H : Hp} {w : W} {v : V} {k : Key} (r : RW K S H w v) (h : wkey w = some k) : v = kV k := by
  cases r <;> simp only [wkey, Option.some.injEq] at h <;> first | (subst h; rfl) | cases h
def inW (S : Sto) (a b : W) : Option Bool := match view S b with
  | .lst xs => if okD a && okD (.lst xs) then some (xs.any fun y => weq y a) else none
  | .tup xs => if okD a && okD (.tup xs) then some (xs.any fun y => weq y a) else none
  | .str z => match a with
    | .str x => match x.cps.toList with
      | [c] => some (decide (c ∈ z.cps.toList))
      | _ => none
    | _ => none
  | .dct ks ws => match wkey a with
    | some k => some (wval (ks.zip ws) k).isSome
    | none => none
  | _ => none
def dIn : D2 := fun a b S Q => match inW S a b with
  | some r => Q (.bl r) S
  | none => False
end
section
variable {X : Cx} {Z : WX} {k : Nat}
def dLt : D2 := fun a b S Q => match a, b with
  | .int i, .int j => Q (.bl (decide (i < j))) S
  | .str x, .str y => Q (.bl (decide (x.cps.toList < y.cps.toList))) S
  | _, _ => False
def dLe : D2 := fun a b S Q => match a, b with
  | .int i, .int j => Q (.bl (decide (i ≤ j))) S
  | .str x, .str y => Q (.bl (!decide (y.cps.toList < x.cps.toList))) S
  | _, _ => False
def dGt : D2 := fun a b S Q => match a, b with
  | .int i, .int j => Q (.bl (decide (j < i))) S
  | .str x, .str y => Q (.bl (decide (y.cps.toList < x.cps.toList))) S
  | _, _ => False
def dGe : D2 := fun a b S Q => match a, b with
  | .int i, .int j => Q (.bl (decide (j ≤ i))) S
  | .str x, .str y => Q (.bl (!decide (x.cps.toList < y.cps.toList))) S
  | _, _ => False
theorem oc_lt : OD X (compareOp .Lt) dLt := by
  intro pins s σ H x y v u Q I rx ry ⟨w1, w2, S, Qd, r, r1, r2, q, fi⟩
  unfold dLt at q
  split at q
  · cases r1; cases r2; exact op_lt pins s σ H _ _ v u Q I rx ry ⟨_, _, rfl, rfl, fi.one r (.bl _) q⟩
  · cases r1; cases r2; exact op_lt_str pins s σ H _ _ v u Q I rx ry ⟨_, _, rfl, rfl, fi.one r (.bl _) q⟩
  · exact q.elim
theorem oc_le : OD X (compareOp .LtE) dLe := by
  intro pins s σ H x y v u Q I rx ry ⟨w1, w2, S, Qd, r, r1, r2, q, fi⟩
  unfold dLe at q
  split at q
  · cases r1; cases r2; exact op_le pins s σ H _ _ v u Q I rx ry ⟨_, _, rfl, rfl, fi.one r (.bl _) q⟩
  · cases r1; cases r2; exact op_le_str pins s σ H _ _ v u Q I rx ry ⟨_, _, rfl, rfl, fi.one r (.bl _) q⟩
  · exact q.elim
theorem oc_gt : OD X (compareOp .Gt) dGt := by
  intro pins s σ H x y v u Q I rx ry ⟨w1, w2, S, Qd, r, r1, r2, q, fi⟩
  unfold dGt at q
  split at q
  · cases r1; cases r2; exact op_gt pins s σ H _ _ v u Q I rx ry ⟨_, _, rfl, rfl, fi.one r (.bl _) q⟩
  · cases r1; cases r2; exact op_gt_str pins s σ H _ _ v u Q I rx ry ⟨_, _, rfl, rfl, fi.one r (.bl _) q⟩
  · exact q.elim
theorem oc_ge : OD X (compareOp .GtE) dGe := by
  intro pins s σ H x y v u Q I rx ry ⟨w1, w2, S, Qd, r, r1, r2, q, fi⟩
  unfold dGe at q
  split at q
  · cases r1; cases r2; exact op_ge pins s σ H _ _ v u Q I rx ry ⟨_, _, rfl, rfl, fi.one r (.bl _) q⟩
  · cases r1; cases r2; exact op_ge_str pins s σ H _ _ v u Q I rx ry ⟨_, _, rfl, rfl, fi.one r (.bl _) q⟩
  · exact q.elim
def isN : W → Bool
  | .non => true
  | _ => false
def ζJ : D2 := fun a b S Q => match b with
  | .non => Q (.bl (isN a)) S
  | _ => False
def ζh : D2 := fun a b S Q => match b with
  | .non => Q (.bl (!isN a)) S
  | _ => False
theorem isN_rel {K : PySem.W.Frag} {S : Sto} {H : Hp} {w : W} {v : V} (r : RW K S H w v) : decide (v = .non) = isN w := by
  cases r <;> simp [isN]
theorem oc_is : OD X (compareOp .Is) ζJ := OpR.im op_isN fun x y H Q ⟨w1, w2, S, Qd, r, r1, r2, q, fi⟩ => by
  unfold ζJ at q
  split at q
  · cases r2; exact ⟨rfl, by rw [isN_rel r1]; exact fi.one r (.bl _) q⟩
  · exact q.elim
theorem oc_isnot : OD X (compareOp .IsNot) ζh := OpR.im op_notN fun x y H Q ⟨w1, w2, S, Qd, r, r1, r2, q, fi⟩ => by
  unfold ζh at q
  split at q
  · cases r2; exact ⟨rfl, by rw [isN_rel r1]; exact fi.one r (.bl _) q⟩
  · exact q.elim
end
def tru (S : Sto) (w : W) : Option Bool := match view S w with
  | .non => some false
  | .bl b => some b
  | .int i => some (i != 0)
  | .str x => some ((x.length : Int) != 0)
  | .lst xs => some (!xs.isEmpty)
  | .tup xs => some (!xs.isEmpty)
  | .dct ks _ => match w with
    | .ref _ => some (!ks.isEmpty)
    | _ => none
  | _ => none
theorem tru_rel {K : PySem.W.Frag} {S : Sto} {H : Hp} {w : W} {v : V} {b : Bool} (r : Rel K S H) (h : RW K S H w v) (e : tru S w = some b) : TruV K v H b := by
  unfold tru at e
  split at e
  · rename_i ev; cases e
    cases h <;> simp only [view] at ev <;> first | rfl | (split at ev <;> cases ev) | cases ev
  · rename_i b' ev; cases e
    cases h <;> simp only [view] at ev <;> first | (cases ev; rfl) | cases ev | (split at ev <;> cases ev)
  · rename_i i ev; cases e
    cases view_int h ev; rfl
  · rename_i x ev; cases e
    obtain ⟨rfl, ok⟩ := view_str h ev
    exact ⟨(sv_iff.mp ok).2, rfl⟩
  · rename_i xs ev; cases e
    obtain ⟨a, vs, rfl, h1, q⟩ := view_lst r h ev
    refine .inl ⟨vs, .inl (.inl h1), ?_⟩
    cases q <;> rfl
  · rename_i xs ev; cases e
    obtain ⟨a, vs, rfl, h1, q⟩ := view_tup h ev
    refine .inr (.inl ⟨vs, h1, ?_⟩)
    cases q <;> rfl
  · rename_i ks ws ev
    split at e
    case h_2 => cases e
    rename_i ad
    cases e
    cases h
    obtain ⟨gs, h1, q, el⟩ := view_dctR r ev
    refine .inr (.inr ⟨gs, h1, ?_⟩)
    cases ks with
    | nil => cases q; rfl
    | cons k ks => cases ws with
      | nil => cases el
      | cons w ws => cases q; rfl
  · cases e
def ζK (ta : DE') : DT' := fun ω S Q => ta ω S fun w S1 => match tru S1 w with
  | some b => Q b S1
  | none => False
def ζi (ta : DE') : DT' := fun ω S Q => ta ω S fun w S1 => match w with
  | .bl b => Q b S1
  | _ => False
section
variable {X : Cx} {Z : WX} {a b c : Expr} {ta tb tc : DE'} {pos : Pos} {rd rd' : D2} {t u : DT'} {rest : List Expr}
theorem dt_tru (ha : DE X Z a ta) (he : ∀ whole, isTrue a X.env whole = (do let v ← whole; standAt a.pos; holding [v] (truthy v)) := by intro _; rfl) : DT X Z a (ζK ta) := PT.im (pt_truth ha he) fun σ H Q ⟨ω, S, Qd, a, h, f⟩ => by
  refine ⟨ω, S, _, a, h, fun w S1 v H1 x1 r1 q1 h1 => ?_⟩
  split at h1
  · rename_i b e; exact ⟨b, tru_rel r1 q1 e, f b S1 H1 x1 r1 h1⟩
  · exact h1.elim
theorem uTest {K : PySem.W.Frag} {te : TE} (ht : ∀ σ H Q, uE K Z ta σ H Q → te σ H Q) {σ : L2.St} {H : Hp} {Q : Bool → Hp → Prop} (h : uT K Z (ζi ta) σ H Q) : tTest te σ H Q := by
  obtain ⟨ω, S, Qd, a, h, f⟩ := h
  refine ht _ _ _ ⟨ω, S, _, a, h, fun w S1 v H1 x1 r1 q1 h1 => ?_⟩
  split at h1
  · cases q1; exact ⟨_, rfl, f _ _ _ x1 r1 h1⟩
  · exact h1.elim
theorem dt_cmp {op : CmpOp} (ho : OD X (compareOp op) rd) (ha : DE X Z a ta) (hb : DE X Z b tb) (hm : behindInMarks op b = false := by first | exact nomark _ | rfl) : DT X Z (.Compare a [op] [b] pos) (ζi (dOp rd ta tb)) :=
  PT.im (pt_cmpR ho ha hb hm) fun _ _ _ h => uTest (fun _ _ _ => uOp) h
def ζb (rd rd' : D2) (ta tb tc : DE') : DE' := fun ω S Q => ta ω S fun x S1 => tb ω S1 fun y S2 => rd x y S2 fun z S3 => match z with
  | .bl true => tc ω S3 fun w S4 => rd' y w S4 Q
  | .bl false => Q (.bl false) S3
  | _ => False
theorem uChain {K : PySem.W.Frag} {σ : L2.St} {H : Hp} {Q : VK} (h : uE K Z (ζb rd rd' ta tb tc) σ H Q) : tChain (uR K rd) (uR K rd') (uE K Z ta) (uE K Z tb) (uE K Z tc) σ H Q := by
  obtain ⟨ω, S, Qd, a, h, f⟩ := h
  refine ⟨ω, S, _, a, h, fun w S1 v H1 x1 r1 q1 h1 => ?_⟩
  refine ⟨ω, S1, _, a.to x1 r1, h1, fun w2 S2 v2 H2 x2 r2 q2 h2 => ?_⟩
  refine ⟨w, w2, S2, _, r2, q1.mono x2, q2, h2, fun w3 S3 v3 H3 x3 r3 q3 h3 => ?_⟩
  split at h3
  · cases q3
    refine ⟨true, rfl, ?_⟩
    rw [if_pos rfl]
    refine ⟨ω, S3, _, a.to (x1.trans (x2.trans x3)) r3, h3, fun w4 S4 v4 H4 x4 r4 q4 h4 => ?_⟩
    exact ⟨w2, w4, S4, Qd, r4, q2.mono (x3.trans x4), q4, h4, fun w S' v H' x r q h => f w S' v H' (x1.trans (x2.trans (x3.trans (x4.trans x)))) r q h⟩
  · cases q3
    refine ⟨false, rfl, ?_⟩
    rw [if_neg Bool.false_ne_true]
    exact f _ _ _ _ (x1.trans (x2.trans x3)) r3 (.bl _) h3
  · exact h3.elim
theorem de_chain {op op' : CmpOp} (ho : OD X (compareOp op) rd) (ho' : OD X (compareOp op') rd') (ha : DE X Z a ta) (hb : DE X Z b tb) (hc : DE X Z c tc) (hm : lastMarks [op, op'] [b, c] = false := by with_unfolding_all rfl) :
    DE X Z (.Compare a [op, op'] [b, c] pos) (ζb rd rd' ta tb tc) := PE.im (pe_chain ho ho' ha hb hc hm) fun _ _ _ => uChain
def ζL (t u : DT') : DT' := fun ω S Q => t ω S fun c S1 => if c = true then u ω S1 Q else Q false S1
def dOr (t u : DT') : DT' := fun ω S Q => t ω S fun c S1 => if c = true then Q true S1 else u ω S1 Q
def ζM (t : DT') : DT' := fun ω S Q => t ω S fun c S1 => Q (!c) S1
theorem dw_and1 (ha : DT X Z a t) : DWt X Z (.BoolOp .And [a] pos) t := pw_and1 ha
theorem dw_or1 (ha : DT X Z a t) : DWt X Z (.BoolOp .Or [a] pos) t := pw_or1 ha
theorem dw_and (ha : DT X Z a t) (hb : DWt X Z (.BoolOp .And (b :: rest) pos) u) : DWt X Z (.BoolOp .And (a :: b :: rest) pos) (ζL t u) := PW.im (pw_and ha hb) fun σ H Q ⟨ω, S, Qd, a, h, f⟩ => by
  refine ⟨ω, S, _, a, h, fun b S1 H1 x1 r1 h1 => ?_⟩
  cases b with
  | true =>
    rw [if_pos rfl] at h1 ⊢
    exact ⟨ω, S1, Qd, a.to x1 r1, h1, fun b S2 H2 x2 => f b S2 H2 (x1.trans x2)⟩
  | false =>
    rw [if_neg Bool.false_ne_true] at h1 ⊢
    exact f _ _ _ x1 r1 h1
theorem dw_or (ha : DT X Z a t) (hb : DWt X Z (.BoolOp .Or (b :: rest) pos) u) : DWt X Z (.BoolOp .Or (a :: b :: rest) pos) (dOr t u) := PW.im (pw_or ha hb) fun σ H Q ⟨ω, S, Qd, a, h, f⟩ => by
  refine ⟨ω, S, _, a, h, fun b S1 H1 x1 r1 h1 => ?_⟩
  cases b with
  | false =>
    rw [if_neg Bool.false_ne_true] at h1 ⊢
    exact ⟨ω, S1, Qd, a.to x1 r1, h1, fun b S2 H2 x2 => f b S2 H2 (x1.trans x2)⟩
  | true =>
    rw [if_pos rfl] at h1 ⊢
    exact f _ _ _ x1 r1 h1
theorem dt_not (ha : DT X Z a t) : DT X Z (.UnaryOp .Not a pos) (ζM t) := PT.im (pt_not ha) fun σ H Q ⟨ω, S, Qd, a, h, f⟩ => ⟨ω, S, _, a, h, fun b S1 H1 x1 r1 h1 => f _ _ _ x1 r1 h1⟩
def ζj (ta tb : DE') : DE' := fun ω S Q => ta ω S fun x S1 => match tru S1 x with
  | some true => tb ω S1 Q
  | some false => Q x S1
  | none => False
def ζN (ta tb : DE') : DE' := fun ω S Q => ta ω S fun x S1 => match tru S1 x with
  | some true => Q x S1
  | some false => tb ω S1 Q
  | none => False
def ζk (ta : DE') : DE' := fun ω S Q => ta ω S fun x S1 => match tru S1 x with
  | some b => Q (.bl (!b)) S1
  | none => False
theorem de_one {op} (h : DE X Z a ta) : DE X Z (.BoolOp op [a] pos) ta := pe_one h
theorem de_and (ha : DE X Z a ta) (hb : DE X Z (.BoolOp .And (b :: rest) pos) tb) : DE X Z (.BoolOp .And (a :: b :: rest) pos) (ζj ta tb) := PE.im (pe_andT ha hb) fun σ H Q ⟨ω, S, Qd, a, h, f⟩ => by
  refine ⟨ω, S, _, a, h, fun w S1 v H1 x1 r1 q1 h1 => ?_⟩
  split at h1
  · rename_i e
    exact ⟨true, tru_rel r1 q1 e, by rw [if_pos rfl]; exact ⟨ω, S1, Qd, a.to x1 r1, h1, fun w S' v H' x r q h => f w S' v H' (x1.trans x) r q h⟩⟩
  · rename_i e
    exact ⟨false, tru_rel r1 q1 e, by rw [if_neg Bool.false_ne_true]; exact f _ _ _ _ x1 r1 q1 h1⟩
  · exact h1.elim
theorem de_or (ha : DE X Z a ta) (hb : DE X Z (.BoolOp .Or (b :: rest) pos) tb) : DE X Z (.BoolOp .Or (a :: b :: rest) pos) (ζN ta tb) := PE.im (pe_orT ha hb) fun σ H Q ⟨ω, S, Qd, a, h, f⟩ => by
  refine ⟨ω, S, _, a, h, fun w S1 v H1 x1 r1 q1 h1 => ?_⟩
  split at h1
  · rename_i e
    exact ⟨true, tru_rel r1 q1 e, by rw [if_pos rfl]; exact f _ _ _ _ x1 r1 q1 h1⟩
  · rename_i e
    exact ⟨false, tru_rel r1 q1 e, by rw [if_neg Bool.false_ne_true]; exact ⟨ω, S1, Qd, a.to x1 r1, h1, fun w S' v H' x r q h => f w S' v H' (x1.trans x) r q h⟩⟩
  · exact h1.elim
theorem de_not (ha : DE X Z a ta) : DE X Z (.UnaryOp .Not a pos) (ζk ta) := PE.im (pe_notT ha) fun σ H Q ⟨ω, S, Qd, a, h, f⟩ => by
  refine ⟨ω, S, _, a, h, fun w S1 v H1 x1 r1 q1 h1 => ?_⟩
  split at h1
  · rename_i b e; exact ⟨b, tru_rel r1 q1 e, f _ _ _ _ x1 r1 (.bl _) h1⟩
  · exact h1.elim
def dIf (t : DT') (ta tb : DE') : DE' := fun ω S Q => t ω S fun c S1 => if c = true then ta ω S1 Q else tb ω S1 Q
theorem de_if (hc : DT X Z c t) (ha : DE X Z a ta) (hb : DE X Z b tb) : DE X Z (.IfExp c a b pos) (dIf t ta tb) := PE.im (pe_ifExp hc ha hb) fun σ H Q ⟨ω, S, Qd, a, h, f⟩ => by
  refine ⟨ω, S, _, a, h, fun b S1 H1 x1 r1 h1 => ?_⟩
  cases b with
  | false =>
    rw [if_neg Bool.false_ne_true] at h1 ⊢
    exact ⟨ω, S1, Qd, a.to x1 r1, h1, fun w S' v H' x r q h => f w S' v H' (x1.trans x) r q h⟩
  | true =>
    rw [if_pos rfl] at h1 ⊢
    exact ⟨ω, S1, Qd, a.to x1 r1, h1, fun w S' v H' x r q h => f w S' v H' (x1.trans x) r q h⟩
end
def ζO : DA' := fun _ S Q => Q [] S
def ζl (ta : DE') (tr : DA') : DA' := fun ω S Q => ta ω S fun x S1 => tr ω S1 fun xs S2 => Q (x :: xs) S2
abbrev DC' := List W → Sto → WQ → Prop
def uC (K : PySem.W.Frag) (rd : DC') : List V → Hp → VK → Prop := fun xs H Q => ∃ ws S Qd, Rel K S H ∧ RWs K S H ws xs ∧ rd ws S Qd ∧ Fin K S H Qd Q
def dCB (rd : DC') (t : DA') : DE' := fun ω S Q => t ω S fun ws S1 => rd ws S1 Q
section
variable {X : Cx} {Z : WX} {e : Expr} {es : List Expr} {te : DE'} {t : DA'} {pos : Pos} {rd : DC'}
theorem da_nil : DA X Z [] ζO := PA.im pa_nil fun σ H Q ⟨ω, S, Qd, a, h, f⟩ => f _ _ _ _ Nx.refl a.rel .nil h
theorem uCons {K : PySem.W.Frag} {σ : L2.St} {H : Hp} {Q : List V → Hp → Prop} (h : uA K Z (ζl te t) σ H Q) : tCons (uE K Z te) (uA K Z t) σ H Q := by
  obtain ⟨ω, S, Qd, a, h, f⟩ := h
  refine ⟨ω, S, _, a, h, fun w S1 v H1 x1 r1 q1 h1 => ?_⟩
  exact ⟨ω, S1, _, a.to x1 r1, h1, fun ws S2 vs H2 x2 r2 q2 h2 => f _ _ _ _ (x1.trans x2) r2 (.cons (q1.mono x2) q2) h2⟩
theorem da_cons (ha : DE X Z e te) (hr : DA X Z es t) (hs : starEach (e :: es) X.env = (false, eval e X.env) :: starEach es X.env := by rfl) : DA X Z (e :: es) (ζl te t) := PA.im (pa_cons ha hr hs) fun _ _ _ => uCons
def ζP (t : DA') : DE' := fun ω S Q => t ω S fun ws S1 => ws.length ≤ 1000000 ∧ Q (.tup ws) S1
def ζQ (t : DA') : DE' := fun ω S Q => t ω S fun ws S1 => ws.length ≤ 1000000 ∧ Q (.lst ws) S1
def ζm (t : DA') : DE' := fun ω S Q => t ω S fun ws S1 => ws.length ≤ 1000000 ∧ ∀ p, S1 p = none → Q (.ref p) (up S1 p (.lst ws))
theorem de_tup {x1} (h : DA X Z es t) : DE X Z (.Tuple es x1 pos) (ζP t) := PE.im (pe_tup h) fun σ H Q ⟨ω, S, Qd, a, h, f⟩ => by
  refine ⟨ω, S, _, a, h, fun ws S1 vs H1 x1 r1 q1 h1 => ⟨by rw [← q1.len]; exact sz_of h1.1, fun p np => ?_⟩⟩
  exact f _ _ _ _ (x1.trans (Nx.new np)) (r1.new np) (.tup upd_same (r1.free np) (q1.mono (Nx.new np))) h1.2
theorem de_lst (h : DA X Z es t) : DE X Z (.List es pos) (ζQ t) := PE.im (pe_lst h) fun σ H Q ⟨ω, S, Qd, a, h, f⟩ => by
  refine ⟨ω, S, _, a, h, fun ws S1 vs H1 x1 r1 q1 h1 => ⟨by rw [← q1.len]; exact sz_of h1.1, fun p np => ?_⟩⟩
  exact f _ _ _ _ (x1.trans (Nx.new np)) (r1.new np) (.lst upd_same (r1.free np) (q1.mono (Nx.new np))) h1.2
theorem de_lstM (h : DA X Z es t) : DE X Z (.List es pos) (ζm t) := PE.im (pe_lst h) fun σ H Q ⟨ω, S, Qd, a, h, f⟩ => by
  refine ⟨ω, S, _, a, h, fun ws S1 vs H1 x1 r1 q1 h1 => ⟨by rw [← q1.len]; exact sz_of h1.1, fun p np => ?_⟩⟩
  exact f _ _ _ _ (x1.trans (Nx.newS np)) (r1.newS np (.lst upd_same (q1.mono (Nx.newS np)))) (.ref p) (h1.2 p (r1.free np))
abbrev CD (X : Cx) (f : Value) (rd : DC') : Prop := CallR X f (uC X.K rd)
theorem CallR.im {X : Cx} {f : Value} {r r' : List V → Hp → VK → Prop} (h : CallR X f r) (i : ∀ xs H Q, r' xs H Q → r xs H Q) : CallR X f r' := fun pins s σ H xs us Q I rx q => h pins s σ H xs us Q I rx (i _ _ _ q)
theorem uCB {K : PySem.W.Frag} {σ : L2.St} {H : Hp} {Q : VK} (h : uE K Z (dCB rd t) σ H Q) : tCB (uC K rd) (uA K Z t) σ H Q := by
  obtain ⟨ω, S, Qd, a, h, f⟩ := h
  exact ⟨ω, S, _, a, h, fun ws S1 vs H1 x1 r1 q1 h1 => ⟨ws, S1, Qd, r1, q1, h1, fun w S' v H' x r q h => f w S' v H' (x1.trans x) r q h⟩⟩
variable {x : Str} {p : Pos} {id : String}
theorem de_callB (hc : CD X (.builtin id) rd) (hm : X.mg x = none) (ha : DA X Z (e :: es) t) (hv : bootBuiltins x = some (.builtin id) := by decide +kernel) (hg : Gl X x := by rfl) (hn : x ≠ "__name__" := by decide) (hdb : (x == ("__debug__" : Str)) = false := by decide)
    (he : starEach (e :: es) X.env = (false, eval e X.env) :: starEach es X.env := by rfl) (hpl : (backTo pos (starEach es X.env)).any (·.1) = false := by rfl) : DE X Z (.Call (.Name x p) (e :: es) [] pos) (dCB rd t) := PE.im (pe_callB hc hg hm hv ha hn hdb he hpl) fun _ _ _ => uCB
theorem de_callTy (hc : CD X (.type id) rd) (hm : X.mg x = none) (ha : DA X Z (e :: es) t) (hv : bootBuiltins x = some (.type id) := by decide +kernel) (hg : Gl X x := by rfl) (hn : x ≠ "__name__" := by decide) (hdb : (x == ("__debug__" : Str)) = false := by decide)
    (he : starEach (e :: es) X.env = (false, eval e X.env) :: starEach es X.env := by rfl) (hpl : (backTo pos (starEach es X.env)).any (·.1) = false := by rfl) : DE X Z (.Call (.Name x p) (e :: es) [] pos) (dCB rd t) := PE.im (pe_callTy hc hg hm hv ha hn hdb he hpl) fun _ _ _ => uCB
end
section
variable {X : Cx} {Z : WX}
theorem RWs.one {K : PySem.W.Frag} {S : Sto} {H : Hp} {w : W} {vs : List V} (h : RWs K S H [w] vs) : ∃ v, vs = [v] ∧ RW K S H w v := by
  cases h with | cons h t => cases t; exact ⟨_, rfl, h⟩
theorem RWs.two {K : PySem.W.Frag} {S : Sto} {H : Hp} {w w' : W} {vs : List V} (h : RWs K S H [w, w'] vs) : ∃ v v', vs = [v, v'] ∧ RW K S H w v ∧ RW K S H w' v' := by
  cases h with | cons h t => cases t with | cons h' t => cases t; exact ⟨_, _, rfl, h, h'⟩
def ζR : DC' := fun ws S Q => match ws with
  | [w] => match view S w with
    | .lst xs => Q (.int xs.length) S
    | .tup xs => Q (.int xs.length) S
    | .scr ns => Q (.int ns.length) S
    | .str x => Q (.int x.length) S
    | .dct ks _ => Q (.int ks.length) S
    | _ => False
  | _ => False
theorem cd_len : CD X (.builtin "len") ζR := by
  intro pins s σ H xs us Q I rx ⟨ws, S, Qd, r, rs, q, fi⟩
  unfold ζR at q
  split at q
  · obtain ⟨v, rfl, r1⟩ := rs.one
    split at q
    · rename_i ys e
      obtain ⟨a, vs, rfl, h1, q1⟩ := view_lst r r1 e
      rw [q1.len] at q
      exact call_len_seq pins s σ H _ us Q I rx ⟨a, vs, rfl, .inl (.inl (.inl h1)), fi.one r (.int _) q⟩
    · rename_i ys e
      obtain ⟨a, vs, rfl, h1, q1⟩ := view_tup r1 e
      rw [q1.len] at q
      exact call_len_seq pins s σ H _ us Q I rx ⟨a, vs, rfl, .inr h1, fi.one r (.int _) q⟩
    · rename_i ys e
      obtain ⟨a, rfl, h1⟩ := view_scr r1 e
      exact call_len_seq pins s σ H _ us Q I rx ⟨a, _, rfl, .inl h1, fi.one r (.int _) (by rw [List.length_map]; exact q)⟩
    · rename_i ys e
      obtain ⟨rfl, ok⟩ := view_str r1 e
      exact call_len_str pins s σ H _ us Q I rx ⟨_, rfl, (sv_iff.mp ok).2, fi.one r (.int _) q⟩
    · rename_i ks ys e
      obtain ⟨a, gs, rfl, h1, q1, el⟩ := view_dct r r1 e
      have : gs.length = ks.length := by rw [← RWp.len q1, List.length_zip]; omega
      obtain ⟨u, rfl, ru⟩ := vals1 rx
      cases ru
      exact d_len I h1 fun t s' I' => ⟨.int gs.length, H, I', ⟨t, rfl⟩, fi.one r (.int _) (by rw [this]; exact q)⟩
    · exact q.elim
  · exact q.elim
def ζS : DC' := fun ws S Q => match ws with
  | [.int i] => Q (.int (if i < 0 then -i else i)) S
  | _ => False
theorem cd_abs : CD X (.builtin "abs") ζS := CallR.im call_abs fun xs H Q ⟨ws, S, Qd, r, rs, q, fi⟩ => by
  unfold ζS at q
  split at q
  · obtain ⟨v, rfl, r1⟩ := rs.one; cases r1; exact ⟨_, rfl, fi.one r (.int _) q⟩
  · exact q.elim
def ζn : DC' := fun ws S Q => match ws with
  | [.int i, .int j] => Q (.int (if j > i then j else i)) S
  | _ => False
theorem cd_max2 (hc : X.calm = true := by rfl) : CD X (.builtin "max") ζn := CallR.im (call_max2 hc) fun xs H Q ⟨ws, S, Qd, r, rs, q, fi⟩ => by
  unfold ζn at q
  split at q
  · obtain ⟨v, v', rfl, r1, r2⟩ := rs.two; cases r1; cases r2; exact ⟨_, _, rfl, fi.one r (.int _) q⟩
  · exact q.elim
def ζo : DC' := fun ws S Q => match ws with
  | [.int i, .int j] => Q (.int (if j < i then j else i)) S
  | _ => False
theorem cd_min2 (hc : X.calm = true := by rfl) : CD X (.builtin "min") ζo := CallR.im (call_min2 hc) fun xs H Q ⟨ws, S, Qd, r, rs, q, fi⟩ => by
  unfold ζo at q
  split at q
  · obtain ⟨v, v', rfl, r1, r2⟩ := rs.two; cases r1; cases r2; exact ⟨_, _, rfl, fi.one r (.int _) q⟩
  · exact q.elim
def bls : List W → Option (List Bool)
  | [] => some []
  | .bl b :: ws => (bls ws).map (b :: ·)
  | _ => none
theorem bls_eq : ∀ {ws : List W} {bs : List Bool}, bls ws = some bs → ws = bs.map W.bl
  | [], bs, h => by cases h; rfl
  | w :: ws, bs, h => by
    cases w <;> simp only [bls] at h <;> try cases h
    rename_i b
    cases e : bls ws with
    | none => rw [e] at h; cases h
    | some cs => rw [e] at h; cases h; rw [bls_eq e]; rfl
def ζT : DC' := fun ws S Q => match ws with
  | [w] => match view S w with
    | .lst xs => match bls xs with
      | some bs => Q (.bl (bs.all id)) S
      | none => False
    | _ => False
  | _ => False
theorem cd_all (hc : X.calm = true := by rfl) : CD X (.builtin "all") ζT := CallR.im (cr_all hc) fun xs H Q ⟨ws, S, Qd, r, rs, q, fi⟩ => by
  unfold ζT at q
  split at q
  · obtain ⟨v, rfl, r1⟩ := rs.one
    split at q
    · rename_i ys e
      obtain ⟨a, vs, rfl, h1, q1⟩ := view_lst r r1 e
      split at q
      · rename_i bs eb
        rw [bls_eq eb] at q1
        rw [q1.bls_inv] at h1
        exact ⟨a, bs, rfl, .inl (.inl h1), fi.one r (.bl _) q⟩
      · exact q.elim
    · exact q.elim
  · exact q.elim
def ζa : DC' := fun ws S Q => match ws with
  | [w] => match view S w with
    | .lst xs => Q (.lst xs) S
    | .tup xs => Q (.lst xs) S
    | _ => False
  | _ => False
def ζc : DC' := fun ws S Q => match ws with
  | [w] => match view S w with
    | .lst xs => Q (.tup xs) S
    | .tup xs => Q (.tup xs) S
    | _ => False
  | _ => False
theorem cd_list : CD X (.type "list") ζa := CallR.im call_list_of fun xs H Q ⟨ws, S, Qd, r, rs, q, fi⟩ => by
  unfold ζa at q
  split at q
  · obtain ⟨v, rfl, r1⟩ := rs.one
    split at q
    · rename_i ys e
      obtain ⟨a, vs, rfl, h1, q1⟩ := view_lst r r1 e
      exact ⟨a, vs, rfl, .inl (.inl (.inl h1)), fun p np => fi _ _ _ _ (Nx.new np) (r.new np) (.lst upd_same (r.free np) (q1.mono (Nx.new np))) q⟩
    · rename_i ys e
      obtain ⟨a, vs, rfl, h1, q1⟩ := view_tup r1 e
      exact ⟨a, vs, rfl, .inr h1, fun p np => fi _ _ _ _ (Nx.new np) (r.new np) (.lst upd_same (r.free np) (q1.mono (Nx.new np))) q⟩
    · exact q.elim
  · exact q.elim
theorem view_tup_self {K : PySem.W.Frag} {S : Sto} {H : Hp} {w : W} {v : V} {xs : List W} (h : RW K S H w v) (e : view S w = .tup xs) : RW K S H (.tup xs) v := by
  cases h <;> simp only [view] at e <;> try cases e
  case tup => exact .tup (by assumption) (by assumption) (by assumption)
  case tupK => exact .tupK (by assumption) (by assumption)
  case ref a => split at e <;> cases e
theorem cd_tuple : CD X (.type "tuple") ζc := CallR.im call_tuple_of fun xs H Q ⟨ws, S, Qd, r, rs, q, fi⟩ => by
  unfold ζc at q
  split at q
  · obtain ⟨v, rfl, r1⟩ := rs.one
    split at q
    · rename_i ys e
      obtain ⟨a, vs, rfl, h1, q1⟩ := view_lst r r1 e
      exact ⟨a, vs, rfl, .inl ⟨.inl (.inl h1), fun p np => fi _ _ _ _ (Nx.new np) (r.new np) (.tup upd_same (r.free np) (q1.mono (Nx.new np))) q⟩⟩
    · rename_i ys e
      have r2 := view_tup_self r1 e
      obtain ⟨a, vs, rfl, h1, q1⟩ := view_tup r1 e
      exact ⟨a, vs, rfl, .inr ⟨h1, fi.one r r2 q⟩⟩
    · exact q.elim
  · exact q.elim
end
def ζp : DS' := fun D ω S => D.nx ω S
def ζU (t u : DS') : DS' := fun D ω S => t { D with nx := u D } ω S
def ζq (te : DE') : DS' := fun D ω S => te ω S fun _ S1 => D.nx ω S1
def ζV (te : DE') : DS' := fun D ω S => te ω S D.rt
def ζW (c : DT') (t u : DS') : DS' := fun D ω S => c ω S fun b S1 => if b = true then t D ω S1 else u D ω S1
def ζX : DS' := fun D ω S => D.ct ω S
def ζY (i : Nat) (te : DE') : DS' := fun D ω S => te ω S fun w S1 => D.nx (ω.set i (some w)) S1
section
variable {X : Cx} {Z : WX} {st : Stmt} {rest : List Stmt} {t u : DS'} {e : Expr} {te : DE'} {pos : Pos}
theorem dss_nil : DSs X Z [] ζp := PSs.im pss_nil fun D σ H ⟨ω, S, Dd, a, h, f⟩ => f.nx _ _ _ _ Nx.refl a h
theorem ds_continue : DS X Z (.Continue pos) ζX := PS.im ps_continue fun D σ H ⟨ω, S, Dd, a, h, f⟩ => f.ct _ _ _ _ Nx.refl a h
theorem dss_one (h1 : DS X Z st t) : DSs X Z [st] t := pss_one h1
theorem dss_cons (h1 : DS X Z st t) (h2 : DSs X Z rest u) : DSs X Z (st :: rest) (ζU t u) := PSs.im (pss_cons h1 h2) fun D σ H ⟨ω, S, Dd, a, h, f⟩ =>
  ⟨ω, S, { Dd with nx := u Dd }, a, h, ⟨fun ω' S' σ' H' x a' h' => ⟨ω', S', Dd, a', h', f.to x⟩, f.rt, f.bk, f.ct⟩⟩
theorem ds_expr (he : DE X Z e te) (hs : swapsWith e none pos.line X.env = pure false := by rfl) : DS X Z (.Expr e pos) (ζq te) := PS.im (ps_expr he hs) fun D σ H ⟨ω, S, Dd, a, h, f⟩ =>
  ⟨ω, S, _, a, h, fun w S1 v H1 x1 r1 q1 h1 => f.nx _ _ _ _ x1 (a.to x1 r1) h1⟩
theorem ds_ret (he : DE X Z e te) : DS X Z (.Return (some e) pos) (ζV te) := PS.im (ps_ret he) fun D σ H ⟨ω, S, Dd, a, h, f⟩ => ⟨ω, S, _, a, h, f.rt⟩
theorem ds_if {c : Expr} {a b : List Stmt} {tc : DT'} (hc : DT X Z c tc) (ha : DSs X Z a t) (hb : DSs X Z b u) : DS X Z (.If c a b pos) (ζW tc t u) := PS.im (ps_if hc ha hb) fun D σ H ⟨ω, S, Dd, a, h, f⟩ => by
  refine ⟨ω, S, _, a, h, fun b S1 H1 x1 r1 h1 => ?_⟩
  cases b with
  | true => rw [if_pos rfl] at h1 ⊢; exact ⟨ω, S1, Dd, a.to x1 r1, h1, f.to x1⟩
  | false => rw [if_neg Bool.false_ne_true] at h1 ⊢; exact ⟨ω, S1, Dd, a.to x1 r1, h1, f.to x1⟩
theorem ds_never : DS X Z st (fun _ _ _ => False) := PS.im ps_never fun D σ H ⟨ω, S, Dd, a, h, f⟩ => h.elim
theorem At.set {K : PySem.W.Frag} {S : Sto} {H : Hp} {σ : L2.St} {ω : Om} {w : W} {v : V} (a : At K Z S H σ ω) (r : RW K S H w v) (i : Nat) : At K Z S H (σ.set i (some v)) (ω.set i (some w)) := ⟨a.rel, a.rs.set r i, a.fx⟩
theorem ds_set {i : Nat} {x : Str} {pos' : Pos} (hN : X.N.Nodup) (he : DE X Z e te) (hi : X.N[i]? = some x := by rfl) (hx : Loc X.env.scope x := by first | exact .inl rfl | exact .inr rfl) (hs : swapsWith e (some (.Name x pos')) pos.line X.env = pure false := by rfl)
    (hf : X.fn x = true ∨ X.env.scope.names.lookup x = some .local := by first | exact .inl rfl | exact .inr rfl | assumption) : DS X Z (.Assign [.Name x pos'] e pos) (ζY i te) := PS.im (ps_set hN hi hx he hs hf) fun D σ H ⟨ω, S, Dd, a, h, f⟩ =>
  ⟨ω, S, _, a, h, fun w S1 v H1 x1 r1 q1 h1 => f.nx _ _ _ _ x1 ((a.to x1 r1).set q1 i) h1⟩
end
inductive Tg where
  | nm (i : Nat)
  | tp (ts : List Tg)
mutual
def gOf (K : PySem.W.Frag) : Tg → TG
  | .nm i => gName i
  | .tp ts => gTup K ts.length (gsOf K ts)
def gsOf (K : PySem.W.Frag) : List Tg → TGs
  | [] => gNil
  | t :: ts => gCons (gOf K t) (gsOf K ts)
end
mutual
def ζt : Tg → W → Om → Option Om
  | .nm i, w, ω => some (ω.set i (some w))
  | .tp ts, .tup ws, ω => ζd ts ws ω
  | .tp _, _, _ => none
def ζd : List Tg → List W → Om → Option Om
  | [], [], ω => some ω
  | t :: ts, w :: ws, ω => match ζt t w ω with
    | some ω' => ζd ts ws ω'
    | none => none
  | _, _, _ => none
end
mutual
def tix : Tg → List Nat
  | .nm i => [i]
  | .tp ts => tixs ts
def tixs : List Tg → List Nat
  | [] => []
  | t :: ts => tix t ++ tixs ts
end
theorem wipe_set {σ : L2.St} {i : Nat} {x : Option V} : ∀ {vs : List Nat}, i ∈ vs → wipe (σ.set i x) vs = wipe σ vs
  | v :: vs, h => by
    unfold wipe
    by_cases hm : i ∈ vs
    · rw [wipe_set hm]
    · have e : i = v := by
        rcases List.mem_cons.mp h with h | h
        · exact h
        · exact absurd h hm
      subst e
      clear h
      have : ∀ (us : List Nat), i ∉ us → wipe (σ.set i x) us = (wipe σ us).set i x := by
        intro us
        induction us with
        | nil => intro _; rfl
        | cons u us ih =>
          intro hu
          unfold wipe
          rw [ih (fun z => hu (List.mem_cons_of_mem _ z)), List.set_comm]
          exact fun e => hu (by rw [e]; exact List.mem_cons_self ..)
      rw [this vs hm, List.set_set]
section
variable {K : PySem.W.Frag} {S : Sto} {H : Hp}
mutual
theorem tbind_ok : ∀ {t : Tg} {w : W} {v : V} {σ : L2.St} {ω ω' : Om}, ζt t w ω = some ω' → At K Z S H σ ω → RW K S H w v →
    ∃ σ', At K Z S H σ' ω' ∧ (∀ vs, (∀ i ∈ tix t, i ∈ vs) → wipe σ' vs = wipe σ vs) ∧ ∀ Q : L2.St → Hp → Prop, Q σ' H → gOf K t v σ H Q
  | .nm i, w, v, σ, ω, ω', h, a, r => by
    cases h
    exact ⟨_, a.set r i, fun vs hv => wipe_set (hv i (List.mem_singleton.mpr rfl)), fun Q q => q⟩
  | .tp ts, w, v, σ, ω, ω', h, a, r => by
    cases w with
    | tup ws =>
      have h' : ζd ts ws ω = some ω' := h
      obtain ⟨ad, vs, rfl, sq, rs⟩ := view_tup (xs := ws) r rfl
      obtain ⟨σ', a', hw, hq⟩ := tbinds_ok h' a rs
      refine ⟨σ', a', hw, fun Q q => ⟨ad, vs, rfl, sq, ?_, hq Q q⟩⟩
      rw [← rs.len]
      exact tbinds_len h'
    | _ => cases h
theorem tbinds_ok : ∀ {ts : List Tg} {ws : List W} {us : List V} {σ : L2.St} {ω ω' : Om}, ζd ts ws ω = some ω' → At K Z S H σ ω → RWs K S H ws us →
    ∃ σ', At K Z S H σ' ω' ∧ (∀ vs, (∀ i ∈ tixs ts, i ∈ vs) → wipe σ' vs = wipe σ vs) ∧ ∀ Q : L2.St → Hp → Prop, Q σ' H → gsOf K ts us σ H Q
  | [], ws, us, σ, ω, ω', h, a, r => by
    cases ws with
    | nil =>
      cases h
      cases r
      exact ⟨σ, a, fun _ _ => rfl, fun Q q => ⟨rfl, q⟩⟩
    | cons w ws => cases h
  | t :: ts, ws, us, σ, ω, ω', h, a, r => by
    cases ws with
    | nil => cases h
    | cons w ws =>
      cases r with
      | cons r rs =>
        unfold ζd at h
        split at h
        · rename_i ω1 e1
          obtain ⟨σ1, a1, w1, q1⟩ := tbind_ok e1 a r
          obtain ⟨σ2, a2, w2, q2⟩ := tbinds_ok h a1 rs
          refine ⟨σ2, a2, fun vs hv => ?_, fun Q q => ⟨_, _, rfl, q1 _ (q2 Q q)⟩⟩
          rw [w2 vs fun i hi => hv i (List.mem_append_right _ hi), w1 vs fun i hi => hv i (List.mem_append_left _ hi)]
        · cases h
theorem tbinds_len : ∀ {ts : List Tg} {ws : List W} {ω ω' : Om}, ζd ts ws ω = some ω' → ws.length = ts.length
  | [], ws, ω, ω', h => by
    cases ws with
    | nil => rfl
    | cons w ws => cases h
  | t :: ts, ws, ω, ω', h => by
    cases ws with
    | nil => cases h
    | cons w ws =>
      unfold ζd at h
      split at h
      · exact congrArg Nat.succ (tbinds_len h)
      · cases h
end
end
def ζr (T : Tg) (te : DE') : DS' := fun D ω S => te ω S fun w S1 => match ζt T w ω with
  | some ω' => D.nx ω' S1
  | none => False
section
variable {X : Cx} {Z : WX} {e tg : Expr} {te : DE'} {pos : Pos} {T : Tg}
theorem dg_nm {i : Nat} {x : Str} (hN : X.N.Nodup) (hi : X.N[i]? = some x := by rfl) (hx : Loc X.env.scope x := by first | exact .inl rfl | exact .inr rfl) (hf : X.fn x = true ∨ X.env.scope.names.lookup x = some .local := by first | exact .inl rfl | exact .inr rfl | assumption) : PG X (.Name x pos) (gOf X.K (.nm i)) := pg_name hN hi hx hf
theorem dgs_nil : PGs X [] (gsOf X.K []) := pgs_nil
theorem dgs_cons {es : List Expr} {ts : List Tg} (h1 : PG X e (gOf X.K T)) (h2 : PGs X es (gsOf X.K ts)) (hs : (assignEach (e :: es) X.env).map (·.2) = assign e X.env :: (assignEach es X.env).map (·.2) := by rfl) : PGs X (e :: es) (gsOf X.K (T :: ts)) := pgs_cons h1 h2 hs
theorem dg_tp {es : List Expr} {k : Nat} {ts : List Tg} (h : PGs X es (gsOf X.K ts)) (hc : X.calm = true := by rfl) (hn : (assignEach es X.env).length = ts.length := by rfl) (hst : (assignEach es X.env).findIdx? (·.1) = none := by rfl) : PG X (.Tuple es k pos) (gOf X.K (.tp ts)) := pg_tup hc h hn hst
theorem ds_asgT (he : DE X Z e te) (hg : PG X tg (gOf X.K T)) (hs : swapsWithSole [tg] e pos.line X.env = pure false := by rfl) (hw : swappedStores [tg] e X.env = pure none := by rfl) (h1 : (assignEach [tg] X.env).map (·.2) = [assign tg X.env] := by rfl) :
    DS X Z (.Assign [tg] e pos) (ζr T te) := PS.im (ps_asg he hg hs hw h1) fun D σ H ⟨ω, S, Dd, a, h, f⟩ => by
  refine ⟨ω, S, _, a, h, fun w S1 v H1 x1 r1 q1 h1 => ?_⟩
  split at h1
  · rename_i ω' e'
    obtain ⟨σ', a', _, hq⟩ := tbind_ok e' (a.to x1 r1) q1
    exact hq _ (f.nx _ _ _ _ x1 a' h1)
  · exact h1.elim
end
structure Src (K : PySem.W.Frag) (S0 : Sto) (H0 : Hp) (J : It) (xs : List W) (ok : Sto → Prop) : Prop where
  go : ∀ i S H, Nx S0 H0 S H → Rel K S H → ok S → i < xs.length → J.go i H
  yld : ∀ i S H x H', Nx S0 H0 S H → Rel K S H → ok S → i < xs.length → J.yld i H x H' → ∃ w, xs[i]? = some w ∧ Nx S H S H' ∧ Rel K S H' ∧ RW K S H' w x
  stop : ∀ i S H, Nx S0 H0 S H → Rel K S H → ok S → i = xs.length → J.stop i H
abbrev DI' := Om → Sto → (List W → (Sto → Prop) → Sto → Prop) → Prop
def uI (K : PySem.W.Frag) (Z : WX) (di : DI') : TI := fun σ H R => ∃ (ω : Om) (S : Sto) (Qd : List W → (Sto → Prop) → Sto → Prop), At K Z S H σ ω ∧ di ω S Qd ∧ ∀ xs ok S' H' J, Nx S H S' H' → Rel K S' H' → Src K S' H' J xs ok → Qd xs ok S' → R J H'
abbrev DI (X : Cx) (Z : WX) (tg iter : Expr) (di : DI') : Prop := PI X tg iter (uI X.K Z di)
theorem PI.im {X : Cx} {tg e : Expr} {t t' : TI} (h : PI X tg e t) (i : ∀ σ H R, t' σ H R → t σ H R) : PI X tg e t' := ⟨fun pins s σ H R I q => h.run pins s σ H R I (i σ H R q)⟩
def seqW (S : Sto) (w : W) : Option (List W) := match view S w with
  | .lst xs => some xs
  | .tup xs => some xs
  | .scr ns => some (ns.map W.int)
  | .str x => some (x.cps.toList.map fun c => W.str ⟨#[c]⟩)
  | _ => none
def ζA (te : DE') : DI' := fun ω S Q => te ω S fun w S1 => match seqW S1 w with
  | some xs => Q xs (fun S' => seqW S' w = some xs) S1
  | none => False
section
variable {X : Cx} {Z : WX} {tg l : Expr} {te : DE'}
def iAny (K : PySem.W.Frag) (te : TE) : TI := fun σ H R => te σ H fun x H1 => (∃ a xs, x = .ref a ∧ SqL K H1 a xs ∧ R (Itl K a) H1) ∨ (∃ a xs, x = .ref a ∧ SqT K H1 a xs ∧ R (Itt K a) H1) ∨ ∃ z, x = .str z ∧ R (Its z) H1
theorem pi_any {te : TE} (hl : PE X l te) : PI X tg l (iAny X.K te) := by
  refine ⟨fun pins s σ H R I h => ?_⟩
  refine thn (hl.run pins s σ H _ I h) fun v s1 ⟨x, H1, I1, r1, q1⟩ => ?_
  rcases q1 with ⟨a, xs, ex, hq, q⟩ | ⟨a, xs, ex, hq, q⟩ | ⟨z, ex, q⟩
  · subst ex
    cases r1
    obtain ⟨its, rv, p, hz⟩ := I1.list hq
    refine wpAny_pyIter_list p.isList ⟨s1.heap.objs.size, [s1.heap.objs.size], _, _, H1, rfl, I1.kept (t' := s1.toks) fun b o e => Heap.get?_push_of_some _ e, turn_list a _, ⟨_, Heap.get?_push_size _ rfl, rfl, rfl⟩, fun b hb => ?_, q⟩
    obtain rfl : b = s1.heap.objs.size := by simpa using hb
    exact I1.fpOk (Nat.le_refl _) (I1.hok.fresh (Nat.le_refl _))
  · subst ex
    cases r1
    obtain ⟨its, rv, p, hz⟩ := I1.tuple hq
    refine wpAny_pyIter_tuple (show s1.heap.IsTuple a its.toArray from p) ⟨s1.heap.objs.size, [s1.heap.objs.size], _, _, H1, rfl, I1.kept (t' := s1.toks) fun b o e => Heap.get?_push_of_some _ e, turn_tuple a _, ⟨_, Heap.get?_push_size _ rfl, rfl, rfl⟩, fun b hb => ?_, q⟩
    obtain rfl : b = s1.heap.objs.size := by simpa using hb
    exact I1.fpOk (Nat.le_refl _) (I1.hok.fresh (Nat.le_refl _))
  · subst ex
    obtain ⟨t, rfl⟩ := r1
    cases ha : z.cps.all (· < 128)
    · exact wpAny_pyIter_wide ha (pi_one (tk := s1.toks) I1 _ (turn_str _ z t "str_iterator" (.inr rfl)) ⟨_, Heap.get?_push_size _ rfl, rfl, rfl⟩ q)
    · exact wpAny_pyIter_ascii ha (pi_one (tk := s1.toks) I1 _ (turn_str _ z t "str_ascii_iterator" (.inl rfl)) ⟨_, Heap.get?_push_size _ rfl, rfl, rfl⟩ q)
end
theorem src_l {K : PySem.W.Frag} {S0 : Sto} {H0 : Hp} {a : Addr} {xs : List W} {ok : Sto → Prop} (h : ∀ S H, Nx S0 H0 S H → Rel K S H → ok S → ∃ vs, SqL K H a vs ∧ RWs K S H xs vs) : Src K S0 H0 (Itl K a) xs ok := by
  refine ⟨fun i S H x r o hi => ?_, fun i S H v H' x r o hi y => ?_, fun i S H x r o hi => ?_⟩
  · obtain ⟨vs, sq, rs⟩ := h S H x r o
    have hl := rs.len
    exact ⟨vs, vs[i], sq, by simp [show i < vs.length by omega]⟩
  · obtain ⟨vs, sq, rs⟩ := h S H x r o
    obtain ⟨e, y⟩ := y
    subst e
    obtain ⟨w, ew, rw'⟩ := rs.get' (y vs sq)
    exact ⟨w, ew, Nx.refl, r, rw'⟩
  · obtain ⟨vs, sq, rs⟩ := h S H x r o
    exact ⟨vs, sq, by rw [← rs.len, hi]; exact Nat.le_refl _⟩
theorem src_t {K : PySem.W.Frag} {S0 : Sto} {H0 : Hp} {a : Addr} {xs : List W} {ok : Sto → Prop} (h : ∀ S H, Nx S0 H0 S H → Rel K S H → ok S → ∃ vs, SqT K H a vs ∧ RWs K S H xs vs) : Src K S0 H0 (Itt K a) xs ok := by
  refine ⟨fun i S H x r o hi => ?_, fun i S H v H' x r o hi y => ?_, fun i S H x r o hi => ?_⟩
  · obtain ⟨vs, sq, rs⟩ := h S H x r o
    have hl := rs.len
    exact ⟨vs, vs[i], sq, by simp [show i < vs.length by omega]⟩
  · obtain ⟨vs, sq, rs⟩ := h S H x r o
    obtain ⟨e, y⟩ := y
    subst e
    obtain ⟨w, ew, rw'⟩ := rs.get' (y vs sq)
    exact ⟨w, ew, Nx.refl, r, rw'⟩
  · obtain ⟨vs, sq, rs⟩ := h S H x r o
    exact ⟨vs, sq, by rw [← rs.len, hi]; exact Nat.le_refl _⟩
theorem sv_sign {z : Str} {c : Nat} (h : sv z) (hc : c ∈ z.cps.toList) : sv ⟨#[c]⟩ := by
  rw [sv_iff] at h ⊢
  exact ⟨fun d hd => by simp at hd; rw [hd]; exact h.1 c hc, by show 1 ≤ sizeLine; decide⟩
theorem src_s {K : PySem.W.Frag} {S0 : Sto} {H0 : Hp} {z : Str} {ok : Sto → Prop} (h : sv z) : Src K S0 H0 (Its z) (z.cps.toList.map fun c => W.str ⟨#[c]⟩) ok := by
  have hl : (z.cps.toList.map fun c => W.str ⟨#[c]⟩).length = z.cps.size := by rw [List.length_map, Array.length_toList]
  refine ⟨fun i S H x r o hi => by rw [hl] at hi; exact hi, fun i S H v H' x r o hi y => ?_, fun i S H x r o hi => by rw [hi, hl]; exact Nat.le_refl _⟩
  obtain ⟨e, c, hc, rfl⟩ := y
  subst e
  have hc' : z.cps.toList[i]? = some c := by simpa using hc
  exact ⟨.str ⟨#[c]⟩, by rw [List.getElem?_map, hc']; rfl, Nx.refl, r, .str _ (sv_sign h (List.mem_of_getElem? hc'))⟩
theorem seqW_src {K : PySem.W.Frag} {S0 : Sto} {H0 : Hp} {w : W} {v : V} {xs : List W} (r : Rel K S0 H0) (h : RW K S0 H0 w v) (e : seqW S0 w = some xs) :
    (∃ a vs, v = .ref a ∧ SqL K H0 a vs ∧ RWs K S0 H0 xs vs ∧ ∀ S H, Nx S0 H0 S H → Rel K S H → seqW S w = some xs → ∃ us, SqL K H a us ∧ RWs K S H xs us) ∨
    (∃ a vs, v = .ref a ∧ SqT K H0 a vs ∧ RWs K S0 H0 xs vs ∧ ∀ S H, Nx S0 H0 S H → Rel K S H → seqW S w = some xs → ∃ us, SqT K H a us ∧ RWs K S H xs us) ∨
    ∃ z, v = .str z ∧ sv z ∧ xs = z.cps.toList.map fun c => W.str ⟨#[c]⟩ := by
  cases w with
  | lst ys =>
    obtain rfl : ys = xs := Option.some.inj e
    obtain ⟨a, vs, rfl, h1, q⟩ := view_lst (xs := ys) r h rfl
    refine .inl ⟨a, vs, rfl, .inl (.inl h1), q, fun S H x r' _ => ?_⟩
    obtain ⟨b, us, eb, h2, q2⟩ := view_lst (xs := ys) r' (h.mono x) rfl
    cases eb
    exact ⟨us, .inl (.inl h2), q2⟩
  | tup ys =>
    obtain rfl : ys = xs := Option.some.inj e
    obtain ⟨a, vs, rfl, h1, q⟩ := view_tup (xs := ys) h rfl
    refine .inr (.inl ⟨a, vs, rfl, h1, q, fun S H x r' _ => ?_⟩)
    obtain ⟨b, us, eb, h2, q2⟩ := view_tup (xs := ys) (h.mono x) rfl
    cases eb
    exact ⟨us, h2, q2⟩
  | scr ns =>
    cases e
    obtain ⟨a, rfl, h1⟩ := view_scr (ns := ns) h rfl
    refine .inl ⟨a, _, rfl, h1, RWs.ints ns, fun S H x r' _ => ?_⟩
    obtain ⟨b, eb, h2⟩ := view_scr (ns := ns) (h.mono x) rfl
    cases eb
    exact ⟨_, h2, RWs.ints ns⟩
  | str z =>
    cases e
    obtain ⟨rfl, ok⟩ := view_str (x := z) h rfl
    exact .inr (.inr ⟨z, rfl, ok, rfl⟩)
  | ref a =>
    have key : ∀ S, seqW S (.ref a) = some xs → S a = some (.lst xs) := fun S e => by
      cases hs : S a with
      | none => simp [seqW, view, hs] at e
      | some o =>
        cases o with
        | lst ys => simp [seqW, view, hs] at e; rw [e]
        | _ => simp [seqW, view, hs] at e
    cases h
    have get : ∀ S H, Rel K S H → seqW S (.ref a) = some xs → ∃ us, SqL K H a us ∧ RWs K S H xs us := fun S H r e => by
      cases r _ _ (key S e) with
      | lst h q => exact ⟨_, .inl (.inl h), q⟩
    obtain ⟨vs, sq, q⟩ := get S0 H0 r e
    exact .inl ⟨a, vs, rfl, sq, q, fun S H _ r' e' => get S H r' e'⟩
  | _ => cases e
theorem lst_src {K : PySem.W.Frag} {S0 : Sto} {H0 : Hp} {w : W} {v : V} {xs : List W} (r : Rel K S0 H0) (h : RW K S0 H0 w v) (e : view S0 w = .lst xs) :
    ∃ a vs, v = .ref a ∧ SqL K H0 a vs ∧ ∀ S H, Nx S0 H0 S H → Rel K S H → seqW S w = some xs → ∃ us, SqL K H a us ∧ RWs K S H xs us := by
  obtain ⟨a, vs, rfl, h1, q⟩ := view_lst r h e
  refine ⟨a, vs, rfl, .inl (.inl h1), fun S H x r' e' => ?_⟩
  have e2 : view S w = .lst xs := by
    cases w with
    | lst ys => exact e
    | ref b =>
      cases hs : S b with
      | none => simp [seqW, view, hs] at e'
      | some o =>
        cases o with
        | lst ys => simp [seqW, view, hs] at e'; simp [view, hs, e']
        | _ => simp [seqW, view, hs] at e'
    | _ => cases e
  obtain ⟨b, us, eb, h2, q2⟩ := view_lst r' (h.mono x) e2
  cases eb
  exact ⟨us, .inl (.inl h2), q2⟩
theorem tup_src {K : PySem.W.Frag} {S0 : Sto} {H0 : Hp} {w : W} {v : V} {xs : List W} (h : RW K S0 H0 w v) (e : view S0 w = .tup xs) :
    ∃ a vs, v = .ref a ∧ SqT K H0 a vs ∧ ∀ S H, Nx S0 H0 S H → ∃ us, SqT K H a us ∧ RWs K S H xs us := by
  obtain ⟨a, vs, rfl, h1, q⟩ := view_tup h e
  have h' := view_tup_self h e
  refine ⟨a, vs, rfl, h1, fun S H x => ?_⟩
  obtain ⟨b, us, eb, h2, q2⟩ := view_tup (xs := xs) (h'.mono x) rfl
  cases eb
  exact ⟨us, h2, q2⟩
section
variable {X : Cx} {Z : WX} {tg l : Expr} {te : DE'}
theorem di_seq (hl : DE X Z l te) : DI X Z tg l (ζA te) := PI.im (pi_any hl) fun σ H R ⟨ω, S, Qd, a, h, f⟩ => by
  refine ⟨ω, S, _, a, h, fun w S1 v H1 x1 r1 q1 h1 => ?_⟩
  split at h1
  · rename_i xs e
    rcases seqW_src r1 q1 e with ⟨b, vs, rfl, sq, _, hh⟩ | ⟨b, vs, rfl, sq, _, hh⟩ | ⟨z, rfl, ok, rfl⟩
    · exact .inl ⟨b, vs, rfl, sq, f _ _ _ _ _ x1 r1 (src_l hh) h1⟩
    · exact .inr (.inl ⟨b, vs, rfl, sq, f _ _ _ _ _ x1 r1 (src_t hh) h1⟩)
    · exact .inr (.inr ⟨z, rfl, f _ _ _ _ _ x1 r1 (src_s ok) h1⟩)
  · exact h1.elim
def irange (lo : Int) (n : Nat) : List W := (List.range n).map fun (i : Nat) => W.int (lo + i)
def ζx (t : DA') : DI' := fun ω S Q => t ω S fun ws S1 => match ws with
  | [.int j] => (-(2 ^ 62) ≤ j ∧ j < 2 ^ 62) ∧ Q (irange 0 j.toNat) (fun _ => True) S1
  | _ => False
def ζy (t : DA') : DI' := fun ω S Q => t ω S fun ws S1 => match ws with
  | [.int i, .int j] => (-(2 ^ 62) ≤ i ∧ i < 2 ^ 62 ∧ -(2 ^ 62) ≤ j ∧ j < 2 ^ 62) ∧ Q (irange i (j - i).toNat) (fun _ => True) S1
  | _ => False
theorem src_r {K : PySem.W.Frag} {S0 : Sto} {H0 : Hp} {lo : Int} {n : Nat} : Src K S0 H0 (Itr lo n) (irange lo n) (fun _ => True) := by
  have hl : (irange lo n).length = n := by unfold irange; rw [List.length_map, List.length_range]
  refine ⟨fun i S H x r o hi => by rw [hl] at hi; exact hi, fun i S H v H' x r o hi y => ?_, fun i S H x r o hi => by rw [hi, hl]; exact Nat.le_refl _⟩
  obtain ⟨e, rfl⟩ := y
  subst e
  rw [hl] at hi
  refine ⟨.int (lo + i), ?_, Nx.refl, r, .int _⟩
  unfold irange
  rw [List.getElem?_map, List.getElem?_range hi]
  rfl
theorem di_range1 {a : Expr} {t : DA'} {p pos : Pos} (hm : X.mg "range" = none) (ha : DA X Z [a] t) (hg : Gl X "range" := by rfl) (hs : starEach [a] X.env = [(false, eval a X.env)] := by rfl) : DI X Z tg (.Call (.Name "range" p) [a] [] pos) (ζx t) := PI.im (pi_range1 hg hm ha hs) fun σ H R ⟨ω, S, Qd, a, h, f⟩ => by
  refine ⟨ω, S, _, a, h, fun ws S1 vs H1 x1 r1 q1 h1 => ?_⟩
  split at h1
  · obtain ⟨v, rfl, q⟩ := q1.one
    cases q
    exact ⟨_, rfl, h1.1.1, h1.1.2, f _ _ _ _ _ x1 r1 src_r h1.2⟩
  · exact h1.elim
theorem di_range2 {a b : Expr} {t : DA'} {p pos : Pos} (hm : X.mg "range" = none) (ha : DA X Z [a, b] t) (hg : Gl X "range" := by rfl) (hs : starEach [a, b] X.env = [(false, eval a X.env), (false, eval b X.env)] := by rfl) (hs2 : starEach [b] X.env = [(false, eval b X.env)] := by rfl) :
    DI X Z tg (.Call (.Name "range" p) [a, b] [] pos) (ζy t) := PI.im (pi_range2 hg hm ha hs hs2) fun σ H R ⟨ω, S, Qd, a, h, f⟩ => by
  refine ⟨ω, S, _, a, h, fun ws S1 vs H1 x1 r1 q1 h1 => ?_⟩
  split at h1
  · obtain ⟨v, v', rfl, q, q'⟩ := q1.two
    cases q; cases q'
    exact ⟨_, _, rfl, h1.1, f _ _ _ _ _ x1 r1 src_r h1.2⟩
  · exact h1.elim
def ienum (xs : List W) : List W := (List.range xs.length).zip xs |>.map fun p => W.tup [.int (p.1 : Nat), p.2]
theorem ienum_len (xs : List W) : (ienum xs).length = xs.length := by unfold ienum; simp
theorem ienum_at {xs : List W} {i : Nat} {w : W} (h : xs[i]? = some w) : (ienum xs)[i]? = some (.tup [.int (i : Nat), w]) := by
  unfold ienum
  have hi : i < xs.length := (List.getElem?_eq_some_iff.mp h).1
  have e : ((List.range xs.length).zip xs)[i]? = some (i, w) := List.getElem?_zip_eq_some.mpr ⟨List.getElem?_range hi, h⟩
  rw [List.getElem?_map, e]
  rfl
theorem Rel.newT {K : PySem.W.Frag} {S : Sto} {H : Hp} {a : Addr} {ws : List W} {vs : List V} (r : Rel K S H) (n : H a = none) (q : RWs K S H ws vs) : RW K S (upd H a (.tup vs)) (.tup ws) (.ref a) := .tup upd_same (r.free n) (q.mono (Nx.new n))
theorem src_e {K : PySem.W.Frag} {S0 : Sto} {H0 : Hp} {a : Addr} {xs : List W} {ok : Sto → Prop} (h : ∀ S H, Nx S0 H0 S H → Rel K S H → ok S → ∃ vs, SqL K H a vs ∧ RWs K S H xs vs) : Src K S0 H0 (Ite K a) (ienum xs) ok := by
  refine ⟨fun i S H x r o hi => ?_, fun i S H v H' x r o hi y => ?_, fun i S H x r o hi => ?_⟩
  · obtain ⟨vs, sq, rs⟩ := h S H x r o
    have hl := rs.len
    rw [ienum_len] at hi
    exact ⟨vs, vs[i], sq, by simp [show i < vs.length by omega]⟩
  · obtain ⟨vs, sq, rs⟩ := h S H x r o
    obtain ⟨T, x', rfl, hT, rfl, y⟩ := y
    obtain ⟨w, ew, rw'⟩ := rs.get' (y vs sq)
    exact ⟨_, ienum_at ew, Nx.new hT, r.new hT, r.newT hT (.cons (.int _) (.cons rw' .nil))⟩
  · obtain ⟨vs, sq, rs⟩ := h S H x r o
    exact ⟨vs, sq, by rw [← rs.len, hi, ienum_len]; exact Nat.le_refl _⟩
end
def dFor (di : DI') (T : Tg) (tb : DS') : DS' := fun D ω S => di ω S fun xs ok S1 => ∃ P : Nat → Om → Sto → Prop, P 0 ω S1 ∧ (∀ i ω' S', P i ω' S' → ok S') ∧
  (∀ i w ω' S', xs[i]? = some w → P i ω' S' → ∃ ω2, ζt T w ω' = some ω2 ∧ tb { D with nx := P (i + 1), ct := P (i + 1), bk := D.nx } ω2 S') ∧ ∀ ω' S', P xs.length ω' S' → D.nx ω' S'
section
variable {X : Cx} {Z : WX} {tg iter : Expr} {body : List Stmt} {di : DI'} {T : Tg} {tb : DS'} {pos : Pos}
theorem ds_for (hp : PassesOwn (model X.prog X.w) X.A X.env X.xe) (hi : DI X Z tg iter di) (hg : PG X tg (gOf X.K T)) (hb : DSs X Z body tb) (hc : X.calm = true := by rfl) (hs : ∀ x, foldedSetIterable iter X.env x = pure x := by intro _; rfl) :
    DS X Z (.For tg iter body [] pos) (dFor di T tb) := PS.im (ps_for hp hc hi hg hb hs) fun D σ H ⟨ω, S, Dd, a, h, f⟩ => by
  refine ⟨ω, S, _, a, h, fun xs ok S1 H1 J x1 r1 src ⟨P, p0, pk, ps, pe⟩ => ?_⟩
  refine ⟨fun i m σ' H' => m = xs.length - i ∧ i ≤ xs.length ∧ ∃ ω' S', At X.K Z S' H' σ' ω' ∧ Nx S1 H1 S' H' ∧ P i ω' S', ⟨xs.length, by simp, Nat.zero_le _, ω, S1, a.to x1 r1, Nx.refl, p0⟩, ?_⟩
  rintro i m σ' H' ⟨rfl, hi, ω', S', a', x', p⟩
  by_cases hlt : i < xs.length
  · refine .inr ⟨src.go i S' H' x' a'.rel (pk _ _ _ p) hlt, fun σ2 H2 => ∃ ω2 S2, At X.K Z S2 H2 σ2 ω2 ∧ Nx S1 H1 S2 H2 ∧ P (i + 1) ω2 S2, fun σ2 H2 ⟨ω2, S2, a2, x2, p2⟩ => ⟨xs.length - (i + 1), by omega, rfl, hlt, ω2, S2, a2, x2, p2⟩, fun v H2 y => ?_⟩
    obtain ⟨w, ew, x2, r2, q2⟩ := src.yld i S' H' v H2 x' a'.rel (pk _ _ _ p) hlt y
    obtain ⟨ω2, eb, hb⟩ := ps i w ω' S' ew p
    obtain ⟨σ3, a3, _, hq⟩ := tbind_ok eb (a'.to x2 r2) q2
    refine hq _ ⟨ω2, S', _, a3, hb, ⟨fun ω4 S4 σ4 H4 x4 a4 p4 => ⟨ω4, S4, a4, x'.trans (x2.trans x4), p4⟩, (f.to (x1.trans (x'.trans x2))).rt, fun ω4 S4 σ4 H4 x4 a4 p4 => f.nx _ _ _ _ (x1.trans (x'.trans (x2.trans x4))) a4 p4, fun ω4 S4 σ4 H4 x4 a4 p4 => ⟨ω4, S4, a4, x'.trans (x2.trans x4), p4⟩⟩⟩
  · have e : i = xs.length := by omega
    subst e
    exact .inl ⟨src.stop _ S' H' x' a'.rel (pk _ _ _ p) rfl, f.nx _ _ _ _ (x1.trans x') a' (pe _ _ p)⟩
end
def wps (ω : List (Option W)) : List Nat → List (Option W)
  | [] => ω
  | v :: vs => (wps ω vs).set v none
def wp (ω : Om) (vs : List Nat) : Om := ⟨wps ω.s vs, XF⟩
theorem At.wipe {K : PySem.W.Frag} {S : Sto} {H : Hp} {σ : L2.St} {ω : Om} (a : At K Z S H σ ω) (vs : List Nat) : At K Z0 S H (L2.wipe σ vs) (wp ω vs) := by
  refine ⟨a.rel, ?_, .zero⟩
  show RS K S H (L2.wipe σ vs) (wps ω.s vs)
  have := a.rs
  clear a
  induction vs with
  | nil => exact this
  | cons v vs ih =>
    refine ⟨by rw [L2.wipe, wps, List.length_set, List.length_set]; exact ih.len, fun i w e => ?_⟩
    unfold wps at e
    unfold L2.wipe
    rw [List.getElem?_set] at e
    by_cases hv : v = i
    · rw [if_pos hv] at e
      split at e <;> cases e
    · rw [if_neg hv] at e
      rw [List.getElem?_set_ne hv]
      exact ih.at' i w e
theorem Rel.frz {K : PySem.W.Frag} {S : Sto} {H : Hp} {p : Addr} {ws : List W} (r : Rel K S H) (h : S p = some (.lst ws)) : Nx S H (del S p) H ∧ Rel K (del S p) H ∧ RW K (del S p) H (.lst ws) (.ref p) := by
  have x : Nx S H (del S p) H := ⟨fun _ _ h _ => h, fun b o _ n => by
    by_cases e : b = p
    · subst e; exact del_same
    · rw [del_ne e]; exact n⟩
  refine ⟨x, fun b o hb => ?_, ?_⟩
  · have hn : b ≠ p := fun e => by subst e; rw [del_same] at hb; cases hb
    rw [del_ne hn] at hb
    refine (r b o hb).mono x rfl fun d hd => ?_
    rw [del_ne fun e => by subst e; rw [h] at hd; cases hd]
    exact hd
  · cases r _ _ h with
    | lst h1 q => exact .lst h1 del_same (q.mono x)
def dLc (di : DI') (T : Tg) (tt : DT') (te : DE') (own : List Nat) : DE' := fun ω S Q => di ω S fun xs ok S1 => ∀ p, S1 p = none → ∃ P : Nat → List W → Sto → Prop, P 0 [] (up S1 p (.lst [])) ∧
  (∀ i acc S', P i acc S' → ok S' ∧ S' p = some (.lst acc)) ∧
  (∀ i w acc S', xs[i]? = some w → P i acc S' → ∃ ω2, ζt T w (wp ω own) = some ω2 ∧ tt ω2 S' fun b S3 => if b = true then te ω2 S3 fun v S4 => ∃ acc', S4 p = some (.lst acc') ∧ acc'.length < 1000000 ∧ P (i + 1) (acc' ++ [v]) (up S4 p (.lst (acc' ++ [v]))) else ∃ acc', P (i + 1) acc' S3) ∧
  ∀ acc S', P xs.length acc S' → Q (.lst acc) (del S' p)
def dYes : DT' := fun _ S Q => Q true S
section
variable {X : Cx} {Z : WX} {tg iter elt : Expr} {ifs : List Expr} {di : DI'} {T : Tg} {tt : DT'} {te : DE'} {pos : Pos} {scope : Scope} {own : List (Str × Nat)}
abbrev DTs (X : Cx) (Z : WX) (ifs : List Expr) (t : DT') : Prop := PTs X ifs (uT X.K Z t)
theorem dts_nil : DTs X Z [] dYes := ⟨fun pins s σ H Q I ⟨ω, S, Qd, a, h, f⟩ => (pts_nil (X := X)).run pins s σ H Q I (f _ _ _ Nx.refl a.rel h)⟩
theorem dts_one {c : Expr} {t : DT'} (h : DT X Z c t) : DTs X Z [c] t := pts_one h
theorem uLc {K : PySem.W.Frag} {vs : List Nat} (hT : ∀ i ∈ tix T, i ∈ vs) {σ : L2.St} {H : Hp} {Q : VK} (h : uE K Z (dLc di T tt te vs) σ H Q) : tLc (uI K Z di) (gOf K T) (uT K Z0 tt) (uE K Z0 te) vs σ H Q := by
  obtain ⟨ω, S, Qd, a, h, f⟩ := h
  refine ⟨ω, S, _, a, h, fun xs ok S1 H1 J x1 r1 src hp => fun D nD => ?_⟩
  obtain ⟨P, p0, pk, ps, pe⟩ := hp D (r1.free nD)
  have aw := (a.to x1 r1).wipe vs
  have r2 : Rel K (up S1 D (.lst [])) (upd H1 D (.lst [])) := r1.newS nD (.lst upd_same .nil)
  refine ⟨fun i m H' => m = xs.length - i ∧ i ≤ xs.length ∧ ∃ acc S', Rel K S' H' ∧ Nx S1 H1 S' H' ∧ P i acc S', ⟨xs.length, by simp, Nat.zero_le _, [], _, r2, Nx.newS nD, p0⟩, ?_⟩
  rintro i m H' ⟨rfl, hi, acc, S', r', x', p⟩
  by_cases hlt : i < xs.length
  · refine .inr ⟨src.go i S' H' x' r' (pk _ _ _ p).1 hlt, fun H2 => ∃ acc S2, Rel K S2 H2 ∧ Nx S1 H1 S2 H2 ∧ P (i + 1) acc S2, fun H2 ⟨acc2, S2, r2, x2, p2⟩ => ⟨xs.length - (i + 1), by omega, rfl, hlt, acc2, S2, r2, x2, p2⟩, fun v H2 y => ?_⟩
    obtain ⟨w, ew, x2, r2, q2⟩ := src.yld i S' H' v H2 x' r' (pk _ _ _ p).1 hlt y
    obtain ⟨ω2, eb, hb⟩ := ps i w acc S' ew p
    obtain ⟨σ3, a3, hw, hq⟩ := tbind_ok eb (aw.to (x'.trans x2) r2) q2
    refine hq _ ⟨?_, ω2, S', _, a3, hb, fun b S3 H3 x3 r3 h3 => ?_⟩
    · rw [hw vs hT]
      have : ∀ (σ : L2.St) (us : List Nat), (∀ i ∈ us, i ∈ vs) → L2.wipe (L2.wipe σ us) vs = L2.wipe σ vs := by
        intro σ us
        induction us with
        | nil => intro _; rfl
        | cons u us ih =>
          intro hu
          show L2.wipe ((L2.wipe σ us).set u none) vs = _
          rw [wipe_set (hu u (List.mem_cons_self ..))]
          exact ih fun i hi => hu i (List.mem_cons_of_mem _ hi)
      exact this σ vs fun _ h => h
    · cases b with
      | true =>
        rw [if_pos rfl] at h3 ⊢
        refine ⟨ω2, S3, _, a3.to x3 r3, h3, fun w4 S4 v4 H4 x4 r4 q4 h4 => ?_⟩
        obtain ⟨acc', hs, hl, p5⟩ := h4
        cases r4 _ _ hs with
        | @lst _ vs' hH rs =>
          refine ⟨vs', hH, by rw [← rs.len]; exact sz_lt hl, acc' ++ [w4], _, r4.wr hs (fun _ z => by cases z) (.lst upd_same ((rs.app (.cons q4 .nil)).mono (Nx.wr hs))), x'.trans (x2.trans (x3.trans (x4.trans (Nx.wr hs)))), p5⟩
      | false =>
        rw [if_neg Bool.false_ne_true] at h3 ⊢
        obtain ⟨acc', p5⟩ := h3
        exact ⟨acc', S3, r3, x'.trans (x2.trans x3), p5⟩
  · have e : i = xs.length := by omega
    subst e
    obtain ⟨ok', hs⟩ := pk _ _ _ p
    obtain ⟨xf, rf, qf⟩ := r'.frz hs
    exact .inl ⟨src.stop _ S' H' x' r' ok' rfl, f _ _ _ _ (x1.trans (x'.trans xf)) rf qf (pe _ _ p)⟩
theorem de_lc (hN : X.N.Nodup) (hi : DI X Z tg iter di) (ok : BlkOk X.N X.env.scope scope own)
    (hg : ∀ (s : Shared) (H : Hp) (C : Addr) (cl : List (Str × Addr)) (fp : List Addr), PG (X.blk s H scope (compEnvC scope cl C X.env) fp) tg (gOf X.K T)) (ht : ∀ (s : Shared) (H : Hp) (C : Addr) (cl : List (Str × Addr)) (fp : List Addr), DTs (X.blk s H scope (compEnvC scope cl C X.env) fp) Z0 ifs tt)
    (he : ∀ (s : Shared) (H : Hp) (C : Addr) (cl : List (Str × Addr)) (fp : List Addr), DE (X.blk s H scope (compEnvC scope cl C X.env) fp) Z0 elt te) (hT : ∀ i ∈ tix T, i ∈ own.map (·.2) := by decide) (hc : X.calm = true := by rfl) (hs : ∀ x, foldedSetIterable iter X.env x = pure x := by intro _; rfl) :
    DE X Z (.ListComp elt [⟨tg, iter, ifs, 0⟩] scope pos) (dLc di T tt te (own.map (·.2))) := PE.im (pe_lc hc hN hi ok hg ht he hs) fun _ _ _ => uLc hT
theorem ds_setLc {i : Nat} {y : Str} {py spos : Pos} (hN : X.N.Nodup) (hi : DI X Z tg iter di) (ok : BlkOk X.N X.env.scope scope own)
    (hg : ∀ (s : Shared) (H : Hp) (C : Addr) (cl : List (Str × Addr)) (fp : List Addr), PG (X.blk s H scope (compEnvC scope cl C X.env) fp) tg (gOf X.K T)) (ht : ∀ (s : Shared) (H : Hp) (C : Addr) (cl : List (Str × Addr)) (fp : List Addr), DTs (X.blk s H scope (compEnvC scope cl C X.env) fp) Z0 ifs tt)
    (he : ∀ (s : Shared) (H : Hp) (C : Addr) (cl : List (Str × Addr)) (fp : List Addr), DE (X.blk s H scope (compEnvC scope cl C X.env) fp) Z0 elt te) (hsw : swapsWith (.ListComp elt [⟨tg, iter, ifs, 0⟩] scope pos) (some (.Name y py)) spos.line X.env = pure true) (hT : ∀ i ∈ tix T, i ∈ own.map (·.2) := by decide) (hy : X.N[i]? = some y := by rfl) (hyl : X.env.scope.names.lookup y = some .local := by rfl) (hc : X.calm = true := by rfl) (hs : ∀ x, foldedSetIterable iter X.env x = pure x := by intro _; rfl) :
    DS X Z (.Assign [.Name y py] (.ListComp elt [⟨tg, iter, ifs, 0⟩] scope pos) spos) (ζY i (dLc di T tt te (own.map (·.2)))) := PS.im (ps_setLc hc hN hy hyl hsw hi ok hg ht he hs) fun D σ H ⟨ω, S, Dd, a, h, f⟩ =>
  uLc hT ⟨ω, S, _, a, h, fun w S1 v H1 x1 r1 q1 h1 => f.nx _ _ _ _ x1 ((a.to x1 r1).set q1 i) h1⟩
end
abbrev XW := Value → Option (List (Str × W)) → Sto → Prop
abbrev DSp := List W → Sto → WQ → XW → Prop
def FinX (K : PySem.W.Frag) (S : Sto) (H : Hp) (Ed : XW) (E : XK) : Prop := ∀ c fs S' H' d, Nx S H S' H' → Rel K S' H' → Xr K S' H' fs d → Ed c fs S' → E c d H'
def X0 : XW := fun _ _ _ => False
theorem FinX.zero {K : PySem.W.Frag} {S : Sto} {H : Hp} {E : XK} : FinX K S H X0 E := fun _ _ _ _ _ _ _ _ h => h.elim
def uSp (K : PySem.W.Frag) (dsp : DSp) : Sp := fun vs H Q E => ∃ ws S Qd Ed, Rel K S H ∧ RWs K S H ws vs ∧ dsp ws S Qd Ed ∧ Fin K S H Qd Q ∧ FinX K S H Ed E
def ζg (N : List Str) (ws : List W) : List (Option W) := ws.map some ++ List.replicate (N.length - ws.length) none
theorem RS.start {K : PySem.W.Frag} {S : Sto} {H : Hp} {N : List Str} {ws : List W} {vs : List V} (rs : RWs K S H ws vs) : RS K S H (start N vs) (ζg N ws) := by
  refine ⟨by unfold L2.start ζg; simp [rs.len], fun i w e => ?_⟩
  unfold ζg at e
  unfold L2.start
  have hl := rs.len
  by_cases hi : i < ws.length
  · rw [List.getElem?_append_left (by rw [List.length_map]; exact hi), List.getElem?_map] at e
    rw [List.getElem?_append_left (by rw [List.length_map]; omega), List.getElem?_map]
    cases h : ws[i]? with
    | none => rw [h] at e; cases e
    | some w' =>
      rw [h] at e
      cases e
      obtain ⟨v, ev, rv⟩ := rs.get h
      exact ⟨v, by rw [ev]; rfl, rv⟩
  · rw [List.getElem?_append_right (by rw [List.length_map]; omega)] at e
    have := List.mem_of_getElem? e
    rw [List.mem_replicate] at this
    cases this.2
section
variable {P : Program} {w : World} {K : PySem.W.Frag} {mg : Str → Option Value} {base : Heap}
theorem Fun.okD {x qual : Str} {st : Stmt} {f : Addr} {fd : FuncData} {N ps : List Str} {k : Nat} {dsp : DSp} (F : Fun K x qual st f fd) (sc : FnScope N ps (defScope st)) (td : DS')
    (hb : ∀ (cdv : Value) (A : Around) (outer : List Env) (s : Shared) (H : Hp) (E : XK), Room k (A.deeper (envOfC qual (defScope st) s.heap.objs.size f cdv)) → DSs (cxOf CX0 P w K mg base N qual (defScope st) f cdv A outer s H E).nox Z0 (defBody st) td)
    (len : ∀ ws S Q E, dsp ws S Q E → ws.length = ps.length) (hd : ∀ ws S Q E, dsp ws S Q E → td { nx := fun _ S' => Q .non S', rt := Q } ⟨ζg N ws, XF⟩ S) : FnOk P w K mg base CX0 (k + 1) f fd ps (uSp K dsp) := by
  refine F.ok sc (fun vs H Q E ⟨ws, S, Qd, Ed, r, rs, h, _⟩ => by rw [← rs.len]; exact len _ _ _ _ h) fun cdv A outer s H vs Q E hr ⟨ws, S, Qd, Ed, r, rs, h, f, fx⟩ => ⟨_, hb cdv A outer s H E hr, ?_⟩
  exact ⟨⟨ζg N ws, XF⟩, S, _, ⟨r, RS.start rs, .zero⟩, hd ws S Qd Ed h, ⟨fun ω' S' σ' H' x a q => f _ _ _ _ x a.rel .non q, f, fun _ _ _ _ _ _ q => q.elim, fun _ _ _ _ _ _ q => q.elim⟩⟩
def CalD (P : Program) (w : World) (K : PySem.W.Frag) (mg : Str → Option Value) (base : Heap) (k : Nat) (x : Str) (dsp : DSp) : Prop :=
  ∃ (f : Addr) (fd : FuncData) (ps : List Str), FnOk P w K mg base CX0 k f fd ps (uSp K dsp) ∧ mg x = some (.ref f) ∧ PySem.W.keepIn K (.ref f) = true ∧ Binds K fd ps []
def ζu (dsp : DSp) (t : DA') : DE' := fun ω S Q => t ω S fun ws S1 => dsp ws S1 Q X0
theorem uCall {K : PySem.W.Frag} {Z : WX} {dsp : DSp} {t : DA'} {E : XK} {σ : L2.St} {H : Hp} {Q : VK} (h : uE K Z (ζu dsp t) σ H Q) : tCall (uSp K dsp) [] E (uA K Z t) σ H Q := by
  obtain ⟨ω, S, Qd, a, h, f⟩ := h
  refine ⟨ω, S, _, a, h, fun ws S1 vs H1 x1 r1 q1 h1 => ?_⟩
  show uSp K dsp (vs ++ []) H1 Q E
  rw [List.append_nil]
  exact ⟨ws, S1, Qd, X0, r1, q1, h1, fun w S' v H' x r q h => f w S' v H' (x1.trans x) r q h, .zero⟩
theorem de_call {X : Cx} {Z : WX} {k j : Nat} {x : Str} {dsp : DSp} {p pos : Pos} {e : Expr} {es : List Expr} {t : DA'} (c : CalD X.prog X.w X.K X.mg X.base k x dsp) (hr : Room j X.A) (ha : DA X Z (e :: es) t) (hk : k ≤ j := by decide) (hg : Gl X x := by rfl)
    (hdb : (x == ("__debug__" : Str)) = false := by decide) (he : starEach (e :: es) X.env = (false, eval e X.env) :: starEach es X.env := by rfl) (hpl : (backTo pos (starEach es X.env)).any (·.1) = false := by rfl) :
    DE X Z (.Call (.Name x p) (e :: es) [] pos) (ζu dsp t) := by
  obtain ⟨f, fd, ps, F, hm, kp, b⟩ := c
  exact PE.im (pe_call F (hr.mono hk) hg hm kp b .nil pass0 ha hdb he hpl) fun _ _ _ => uCall
end
def SqB (b : Bool) (K : PySem.W.Frag) (H : Hp) (a : Addr) (xs : List V) : Prop := if b then SqT K H a xs else SqL K H a xs
def ItB (b : Bool) (h : Heap) (it a : Addr) (i : Nat) : Prop := if b then h.IsTupleIter it a i else h.IsListIter it a i
def DaB (b : Bool) (h : Heap) (a : Addr) (items : Array Value) : Prop := if b then h.IsTuple a items else h.IsList a items
def obB (b : Bool) (a : Addr) : Obj := if b then { cls := .type "tuple_iterator", data := .fields #[.ref a, .int 0 0] } else { cls := .type "list_iterator", data := .fields #[.ref a, .int 0 0] }
theorem dr_B {prog : Program} {w : World} {A : Around} (b : Bool) (hh : A.handled = none) (it a : Addr) (hne : a ≠ it) (items : Array Value) :
    Draws prog w A it [it, a] items.size (fun i v => items[i]? = some v) (fun i h => ItB b h it a i ∧ DaB b h a items) := by
  cases b
  · exact Draws.list hh it a hne items
  · exact Draws.tuple hh it a hne items
theorem bg_B (b : Bool) (a : Addr) (items : Array Value) : Begins (.ref a) (obB b a) fun h => DaB b h a items := by
  cases b
  · exact begins_list a items
  · exact begins_tuple a items
theorem it_B {b : Bool} {h : Heap} {it a : Addr} (e : h.get? it = some (obB b a)) : ItB b h it a 0 := by
  cases b
  · exact ⟨_, e, rfl, rfl⟩
  · exact ⟨_, e, rfl, rfl⟩
theorem ItB.obj {b : Bool} {h : Heap} {it a : Addr} {i : Nat} (st : ItB b h it a i) : ∃ o, h.get? it = some o ∧ ∀ v, o.data ≠ .cell v := by
  cases b
  · obtain ⟨o, e, _, d⟩ := st
    exact ⟨o, e, fun v z => by rw [d] at z; cases z⟩
  · obtain ⟨o, e, _, d⟩ := st
    exact ⟨o, e, fun v z => by rw [d] at z; cases z⟩
theorem ItB.keep {b : Bool} {h h' : Heap} {it a : Addr} {i : Nat} (st : ItB b h it a i) (k : ∀ o, h.get? it = some o → h'.get? it = some o) : ItB b h' it a i := by
  cases b
  · exact Heap.IsListIter.at st k
  · exact Heap.IsTupleIter.at st k
section
variable {X : Cx} {pins : List (Addr × Obj)} {σ : L2.St} {H : Hp} {s : Shared} {a : Addr} {b : Bool} {xs ys : List V}
theorem sq_B (I : Inv X pins σ H s) (h : SqB b X.K H a xs) : ∃ its : List Value, Vals xs its ∧ DaB b s.heap a its.toArray := by
  cases b
  · obtain ⟨its, r, p, _⟩ := I.list h
    exact ⟨its, r, p.isList⟩
  · obtain ⟨its, r, p, _⟩ := I.tuple h
    exact ⟨its, r, p⟩
theorem sq_Bi (I : Inv X pins σ H s) (h : SqB b X.K H a xs) (h' : SqB b X.K H a ys) : xs = ys := by
  cases b
  · exact I.list_inj h h'
  · exact I.tuple_inj h h'
end
def IteT (K : PySem.W.Frag) (a : Addr) : It where
  go := fun i H => ∃ (xs : List V) (x : V), SqT K H a xs ∧ xs[i]? = some x
  yld := fun i H v H' => ∃ T x, v = .ref T ∧ H T = none ∧ H' = upd H T (.tup [.int (i : Nat), x]) ∧ ∀ xs, SqT K H a xs → xs[i]? = some x
  stop := fun i H => ∃ xs : List V, SqT K H a xs ∧ xs.length = i
theorem turn_enT {P : Program} {w : World} {K : PySem.W.Frag} {elts : List Expr} {kk : Nat} {tpos : Pos} (a e it : Addr) :
    Turn P w K (.Tuple elts kk tpos) (IteT K a) [e, it] e (fun i h => (∃ old, IsEnum h e it ((i : Nat) : Int) old) ∧ h.IsTupleIter it a i ∧ e ≠ it ∧ a ≠ it ∧ e ≠ a) where
  mem := List.mem_cons_self ..
  obj := fun i h ⟨⟨old, he⟩, ⟨o, ho, _, hd⟩, _⟩ b hb => by
    rcases List.mem_cons.mp hb with z | hb
    · subst z; exact ⟨_, he, fun _ q => nomatch q⟩
    · cases List.mem_singleton.mp hb
      exact ⟨o, ho, fun v q => by rw [hd] at q; cases q⟩
  keep := fun i h h' ⟨⟨old, he⟩, hi, ns⟩ k => ⟨⟨old, k e (List.mem_cons_self ..) _ he⟩, hi.at fun o q => k it (List.mem_cons_of_mem _ (List.mem_cons_self ..)) o q, ns⟩
  item := fun X hP hw hK hc i pins s σ H E I hf ⟨⟨old, he⟩, hit, hne, hai, hea⟩ ⟨xs, x, hq, hx⟩ => by
    subst hP hw hK
    obtain ⟨its, rv, p, _⟩ := I.tuple hq
    obtain ⟨u, hu, ru⟩ := rv.get hx
    have hlt : i < its.toArray.size := by
      rw [List.size_toArray]
      exact (List.getElem?_eq_some_iff.mp hu).1
    refine wpAny_pyNext_enum_itemD (Draws.tuple (A := X.A.in1) (show X.A.in1.handled = none from I.ok.hd hc) it a hai its.toArray) he ⟨hit, p⟩ hlt hne (fun z => ?_) fun y h' tk py ho st' hT hz hk => ?_
    · rcases List.mem_cons.mp z with z | z
      · exact hne z
      · exact hea (List.mem_singleton.mp z)
    obtain rfl : y = u := by
      have : its[i]? = some y := by simpa using py
      rw [hu] at this
      exact (Option.some.inj this).symm
    refine ⟨_, rfl, wpAny_letOwnedTupleGo_enum (s := { s with heap := h', toks := tk + 1 }) ho fun h2 he2 sb => ?_⟩
    have el : e < s.heap.objs.size := Heap.lt_size he
    have il : it < s.heap.objs.size := let ⟨_, q, _⟩ := hit; Heap.lt_size q
    have hT2 := (sb.2 _ (Nat.ne_of_gt el)).trans hT
    have new : ObjOk X.prog X.w (upd H s.heap.objs.size (.tup [.int (i : Nat), x])) h2 s.heap.objs.size (.tup [.int (i : Nat), x]) :=
      ⟨by show 2 ≤ sizeLine; decide, [.int i tk, y], .cons ⟨_, rfl⟩ (.cons ru .nil), ⟨_, hT2, rfl, _, rfl⟩⟩
    have J := I.turnedNew (t' := tk + 1) (ch := [e, it]) (fun b ob hb q => (sb.2 b fun z => hb (by simp [z])).trans (hk b ob (fun z => hb (by simp [z])) (fun z => hb (by simp [z])) q)) hf (Nat.le_refl _) new
    have ec : ((i + 1 : Nat) : Int) = (i : Int) + 1 := by omega
    refine ⟨.ref s.heap.objs.size, _, J, rfl, ⟨_, x, rfl, I.hok.fresh (Nat.le_refl _), rfl, fun zs hz' => by rw [I.tuple_inj hz' hq]; exact hx⟩, ⟨⟨y, by rw [ec]; exact he2⟩, st'.1.at fun o q => (sb.2 it (Ne.symm hne)).trans q, hne, hai, hea⟩, fun b hb => ?_⟩
    have hb' : b < s.heap.objs.size := by
      rcases List.mem_cons.mp hb with z | z
      · rw [z]; exact el
      · rw [List.mem_singleton.mp z]; exact il
    rw [upd_ne (Nat.ne_of_lt hb')]
    exact (hf b hb).1
  done := fun X hP hw hK hc i pins s σ H E I hf ⟨⟨old, he⟩, hit, hne, hai, hea⟩ ⟨xs, hq, hx⟩ => by
    subst hP hw hK
    obtain ⟨its, rv, p, _⟩ := I.tuple hq
    obtain ⟨f0, f1, f2, f3, f4, f5⟩ := hf it (List.mem_cons_of_mem _ (List.mem_cons_self ..))
    have hl : i = its.toArray.size := by rw [List.size_toArray, ← rv.length]; exact hx.symm
    exact wpAny_pyNext_enum_endD (Draws.tuple (A := X.A.in1) (show X.A.in1.handled = none from I.ok.hd hc) it a hai its.toArray) he ⟨hl ▸ hit, p⟩ fun h' eb => ⟨rfl, I.turned (t' := s.toks) (fun b o hb q => eb b o hb q) f0 f1 f3 f4 f5⟩
  self := fun A i s Q E ⟨⟨_, he⟩, _⟩ h => wpAny_pyIter_enum he h
set_option maxHeartbeats 1000000 in
theorem meets_en1 {v : Value} {o : Obj} {H : Heap → Prop} (B : Begins v o H) :
    Meets (Builtin.«enumerate.__new__» ⟨[.type "enumerate", v], []⟩) (fun _ R s => H s.heap ∧
      R (.ok (.ret (.ref (s.heap.push o).objs.size))) { s with heap := (s.heap.push o).push { cls := .type "enumerate", data := .fields #[.none, .bool false, .ref s.heap.objs.size, rawInt 0, .none, .none] } }) :=
  .of_wp fun prog w A R s ⟨h1, h⟩ => by
    obtain ⟨hp, g, d, tk, os⟩ := s
    have hsub := sub_enumerate
    have q1 : ∀ {A' : Around} {E : Value → Shared → Prop} {Q : Value → Shared → Prop}, Q (.ref hp.objs.size) ⟨hp.push o, g, d, tk, os⟩ → wpAny (model prog w) A' (pyIter v) Q E ⟨hp, g, d, tk, os⟩ := fun q => B.iter prog w _ _ ⟨hp, g, d, tk, os⟩ _ h1 q
    wp_walk using q1
    refine wpAny_stack_any fun st => wpAny_pure ?_
    split
    · rename_i c _ _ _ _ _
      cases (c == Value.type "enumerate") <;> (wp_walk using q1; exact ⟨_, rfl, h⟩)
    · wp_walk using q1
      exact ⟨_, rfl, h⟩
theorem call_en1 {prog : Program} {w : World} {A : Around} {E : Value → Shared → Prop} {s : Shared} {v : Value} {o : Obj} {H : Heap → Prop} {Q : Value → Shared → Prop} (B : Begins v o H) (h1 : H s.heap)
    (h : ∀ h', IsEnum h' (s.heap.objs.size + 1) s.heap.objs.size 0 .none → h'.get? s.heap.objs.size = some o → (∀ b o, s.heap.get? b = some o → h'.get? b = some o) → Q (.ref (s.heap.objs.size + 1)) { s with heap := h' }) :
    wpAny (model prog w) A (call (.type "enumerate") [v]) Q E s := by
  refine callType_new F.called_enumerate (by decide) (F.typeCall_enumerate_1 _) (F.newCall_enumerate_1 _) (fun obj => F.args_object_init_2 obj _) F.entry_enumerate_new (meets_en1 B) ⟨h1, ?_⟩
  have hz : (s.heap.push o).objs.size = s.heap.objs.size + 1 := Heap.size_push ..
  show _ ∧ _
  rw [hz]
  have he : IsEnum ((s.heap.push o).push { cls := .type "enumerate", data := .fields #[.none, .bool false, .ref s.heap.objs.size, rawInt 0, .none, .none] }) (s.heap.objs.size + 1) s.heap.objs.size 0 .none := by
    have q := Heap.get?_push_size (s.heap.push o) (o := { cls := .type "enumerate", data := .fields #[.none, .bool false, .ref s.heap.objs.size, rawInt 0, .none, .none] }) rfl
    rwa [hz] at q
  exact ⟨⟨_, he, rfl⟩, h _ he (Heap.get?_push_of_some _ (Heap.get?_push_size _ B.free)) fun b o x => Heap.get?_push_of_some _ (Heap.get?_push_of_some _ x)⟩
def iEnA (K : PySem.W.Frag) (ta : TA) : TI := fun σ H R => ta σ H fun vs H1 => ∃ a xs, vs = [.ref a] ∧ ((SqL K H1 a xs ∧ R (Ite K a) H1) ∨ (SqT K H1 a xs ∧ R (IteT K a) H1))
theorem pi_enA {X : Cx} {e : Expr} {ta : TA} {p pos tpos : Pos} {elts : List Expr} {kk : Nat} (hg : Gl X "enumerate") (hm : X.mg "enumerate" = none) (ha : PA X [e] ta) (hs : starEach [e] X.env = [(false, eval e X.env)] := by rfl) :
    PI X (.Tuple elts kk tpos) (.Call (.Name "enumerate" p) [e] [] pos) (iEnA X.K ta) := by
  refine ⟨fun pins s σ H R I h => Call_ (ld_blt I hg hm boot_enumerate (PyProof.Rows.callWith_type1 (thn (ha.run pos pins s σ H _ I h) fun us s1 ⟨vs, H1, I1, r1, a, xs, ex, q⟩ => ?_) hs rfl))⟩
  subst ex
  cases r1 with
  | cons r rr =>
    cases rr
    cases r
    have two : ∀ b ∈ [s1.heap.objs.size + 1, s1.heap.objs.size], FpOk X pins H1 b := fun b hb => by
      have hle : s1.heap.objs.size ≤ b := by
        rcases List.mem_cons.mp hb with z | z
        · rw [z]; exact Nat.le_succ _
        · rw [List.mem_singleton.mp z]; exact Nat.le_refl _
      exact I1.fpOk hle (I1.hok.fresh hle)
    rcases q with ⟨hq, q⟩ | ⟨hq, q⟩
    · obtain ⟨its, rv, p', _⟩ := I1.list hq
      refine call_en1 (begins_list a its.toArray) p'.isList fun h' he hi hk => wpAny_pyIter_enum he ?_
      exact ⟨s1.heap.objs.size + 1, [s1.heap.objs.size + 1, s1.heap.objs.size], _, _, H1, rfl, I1.kept (t' := s1.toks) hk, turn_enum a _ _, ⟨⟨_, he⟩, ⟨_, hi, rfl, rfl⟩, Nat.succ_ne_self _⟩, two, q⟩
    · obtain ⟨its, rv, p', _⟩ := I1.tuple hq
      have la : a < s1.heap.objs.size := let ⟨_, z, _⟩ := p'; Heap.lt_size z
      refine call_en1 (begins_tuple a its.toArray) p' fun h' he hi hk => wpAny_pyIter_enum he ?_
      exact ⟨s1.heap.objs.size + 1, [s1.heap.objs.size + 1, s1.heap.objs.size], _, _, H1, rfl, I1.kept (t' := s1.toks) hk, turn_enT a _ _, ⟨⟨_, he⟩, ⟨_, hi, rfl, rfl⟩, Nat.succ_ne_self _, Nat.ne_of_lt la, Nat.ne_of_gt (Nat.lt_succ_of_lt la)⟩, two, q⟩
def ζz (t : DA') : DI' := fun ω S Q => t ω S fun ws S1 => match ws with
  | [w] => match view S1 w with
    | .lst xs => Q (ienum xs) (fun S' => seqW S' w = some xs) S1
    | .tup xs => Q (ienum xs) (fun _ => True) S1
    | _ => False
  | _ => False
theorem src_eT {K : PySem.W.Frag} {S0 : Sto} {H0 : Hp} {a : Addr} {xs : List W} (h : ∀ S H, Nx S0 H0 S H → ∃ vs, SqT K H a vs ∧ RWs K S H xs vs) : Src K S0 H0 (IteT K a) (ienum xs) (fun _ => True) := by
  refine ⟨fun i S H x r o hi => ?_, fun i S H v H' x r o hi y => ?_, fun i S H x r o hi => ?_⟩
  · obtain ⟨vs, sq, rs⟩ := h S H x
    have hl := rs.len
    rw [ienum_len] at hi
    exact ⟨vs, vs[i], sq, by simp [show i < vs.length by omega]⟩
  · obtain ⟨vs, sq, rs⟩ := h S H x
    obtain ⟨T, x', rfl, hT, rfl, y⟩ := y
    obtain ⟨w, ew, rw'⟩ := rs.get' (y vs sq)
    exact ⟨_, ienum_at ew, Nx.new hT, r.new hT, r.newT hT (.cons (.int _) (.cons rw' .nil))⟩
  · obtain ⟨vs, sq, rs⟩ := h S H x
    exact ⟨vs, sq, by rw [hi, ienum_len, rs.len]⟩
theorem di_enA {X : Cx} {Z : WX} {e : Expr} {t : DA'} {p pos tpos : Pos} {elts : List Expr} {kk : Nat} (hm : X.mg "enumerate" = none) (ha : DA X Z [e] t) (hg : Gl X "enumerate" := by rfl) (hs : starEach [e] X.env = [(false, eval e X.env)] := by rfl) :
    DI X Z (.Tuple elts kk tpos) (.Call (.Name "enumerate" p) [e] [] pos) (ζz t) := PI.im (pi_enA hg hm ha hs) fun σ H R ⟨ω, S, Qd, a, h, f⟩ => by
  refine ⟨ω, S, _, a, h, fun ws S1 vs H1 x1 r1 q1 h1 => ?_⟩
  split at h1
  · obtain ⟨v, rfl, q⟩ := q1.one
    split at h1
    · rename_i xs e
      obtain ⟨b, vs, rfl, sq, hh⟩ := lst_src r1 q e
      exact ⟨b, vs, rfl, .inl ⟨sq, f _ _ _ _ _ x1 r1 (src_e hh) h1⟩⟩
    · rename_i xs e
      obtain ⟨b, vs, rfl, sq, hh⟩ := tup_src q e
      exact ⟨b, vs, rfl, .inr ⟨sq, f _ _ _ _ _ x1 r1 (src_eT hh) h1⟩⟩
    · exact h1.elim
  · exact h1.elim
def ItzB (K : PySem.W.Frag) (c1 c2 : Bool) (a b : Addr) : It where
  go := fun i H => ∃ (xs ys : List V) (x y : V), SqB c1 K H a xs ∧ SqB c2 K H b ys ∧ xs[i]? = some x ∧ ys[i]? = some y
  yld := fun i H v H' => ∃ T x y, v = .ref T ∧ H T = none ∧ H' = upd H T (.tup [x, y]) ∧ (∀ xs, SqB c1 K H a xs → xs[i]? = some x) ∧ ∀ ys, SqB c2 K H b ys → ys[i]? = some y
  stop := fun i H => ∃ xs ys : List V, SqB c1 K H a xs ∧ SqB c2 K H b ys ∧ i = min xs.length ys.length
theorem turn_zB {P : Program} {w : World} {K : PySem.W.Frag} {elts : List Expr} {kk : Nat} {tpos : Pos} {c1 c2 : Bool} {a b z TI TO i1 i2 : Addr} (D : ZipSep2 z TI TO i1 i2 [i1, a] [i2, b]) (ha : a ≠ i1) (hb : b ≠ i2) :
    Turn P w K (.Tuple elts kk tpos) (ItzB K c1 c2 a b) [z, TI, TO, i1, i2] z (fun i h => IsZip h z TI TO .none ∧ IsTupOf2 h TI (.ref i1) (.ref i2) ∧ (∃ x y, IsTupOf2 h TO x y) ∧ ItB c1 h i1 a i ∧ ItB c2 h i2 b i) where
  mem := List.mem_cons_self ..
  obj := fun i h ⟨hz, hTI, ⟨x, y, hTO⟩, h1, h2⟩ c hc => by
    have hc' : c = z ∨ c = TI ∨ c = TO ∨ c = i1 ∨ c = i2 := by simpa using hc
    rcases hc' with q | q | q | q | q <;> subst q
    · exact ⟨_, hz, fun _ q => nomatch q⟩
    · exact ⟨_, hTI, fun _ q => nomatch q⟩
    · exact ⟨_, hTO, fun _ q => nomatch q⟩
    · exact h1.obj
    · exact h2.obj
  keep := fun i h h' ⟨hz, hTI, ⟨x, y, hTO⟩, h1, h2⟩ k => ⟨k z (by simp) _ hz, k TI (by simp) _ hTI, ⟨x, y, k TO (by simp) _ hTO⟩, h1.keep fun o q => k i1 (by simp) o q, h2.keep fun o q => k i2 (by simp) o q⟩
  item := fun X hP hw hK hc i pins s σ H E I hf ⟨hz, hTI, ⟨a1, a2, hTO⟩, h1, h2⟩ ⟨xs, ys, x, y, hx, hy, ex, ey⟩ => by
    subst hP hw hK
    obtain ⟨its, rv, p1⟩ := sq_B I hx
    obtain ⟨jts, rw', p2⟩ := sq_B I hy
    obtain ⟨u, hu, ru⟩ := rv.get ex
    obtain ⟨v, hv, rv'⟩ := rw'.get ey
    have l1 : i < its.toArray.size := by rw [List.size_toArray]; exact (List.getElem?_eq_some_iff.mp hu).1
    have l2 : i < jts.toArray.size := by rw [List.size_toArray]; exact (List.getElem?_eq_some_iff.mp hv).1
    refine wpAny_pyNext_zipD2_item D (dr_B (A := X.A.in1) c1 (show X.A.in1.handled = none from I.ok.hd hc) i1 a ha its.toArray) (dr_B (A := X.A.in1) c2 (show X.A.in1.handled = none from I.ok.hd hc) i2 b hb jts.toArray) hz hTI hTO ⟨h1, p1⟩ ⟨h2, p2⟩ l1 l2 fun u' v' h' tk y1 y2 b1 b2 d1 d2 b5 b6 hk => ?_
    obtain rfl : u = u' := by
      have q : its[i]? = some u' := by simpa using y1
      rw [hu] at q
      exact Option.some.inj q
    obtain rfl : v = v' := by
      have q : jts[i]? = some v' := by simpa using y2
      rw [hv] at q
      exact Option.some.inj q
    have lz : z < s.heap.objs.size := Heap.lt_size hz
    have lT : TI < s.heap.objs.size := Heap.lt_size hTI
    have lO : TO < s.heap.objs.size := Heap.lt_size hTO
    have li1 : i1 < s.heap.objs.size := let ⟨_, q, _⟩ := h1.obj; Heap.lt_size q
    have li2 : i2 < s.heap.objs.size := let ⟨_, q, _⟩ := h2.obj; Heap.lt_size q
    refine ⟨_, rfl, wpAny_letOwnedTupleGo_zip (s := { s with heap := h', toks := tk }) b1 fun h3 hz3 sb => ?_⟩
    have hT2 := (sb.2 _ (Nat.ne_of_gt lz)).trans b5
    have new : ObjOk X.prog X.w (upd H s.heap.objs.size (.tup [x, y])) h3 s.heap.objs.size (.tup [x, y]) :=
      ⟨by show 2 ≤ sizeLine; decide, [u, v], .cons ru (.cons rv' .nil), ⟨_, hT2, rfl, _, rfl⟩⟩
    have J := I.turnedNew (t' := tk) (ch := [z, TI, TO, i1, i2]) (fun c ob hc q => (sb.2 c fun e => hc (by simp [e])).trans (hk c ob (fun e => hc (by simp [e])) (fun e => hc (by simp [e])) (fun e => hc (by simp [e])) (fun e => hc (by simp [e])) q)) hf (Nat.le_refl _) new
    refine ⟨.ref s.heap.objs.size, _, J, rfl, ⟨_, x, y, rfl, I.hok.fresh (Nat.le_refl _), rfl, fun zs q => by rw [sq_Bi I q hx]; exact ex, fun zs q => by rw [sq_Bi I q hy]; exact ey⟩,
      ⟨hz3, (sb.2 TI D.TIz).trans (hk _ _ D.TIz D.TITO D.TIi1 D.TIi2 hTI), ⟨_, _, (sb.2 TO D.TOz).trans b2⟩, d1.1.keep fun o q => (sb.2 i1 fun e => D.zf1 (by rw [← e]; exact List.mem_cons_self ..)).trans q, d2.1.keep fun o q => (sb.2 i2 fun e => D.zf2 (by rw [← e]; exact List.mem_cons_self ..)).trans q⟩, fun c hc => ?_⟩
    have hc' : c = z ∨ c = TI ∨ c = TO ∨ c = i1 ∨ c = i2 := by simpa using hc
    have lc : c < s.heap.objs.size := by
      rcases hc' with q | q | q | q | q <;> rw [q] <;> assumption
    rw [upd_ne (Nat.ne_of_lt lc)]
    exact (hf c hc).1
  done := fun X hP hw hK hc i pins s σ H E I hf ⟨hz, hTI, ⟨a1, a2, hTO⟩, h1, h2⟩ ⟨xs, ys, hx, hy, hi⟩ => by
    subst hP hw hK
    obtain ⟨its, rv, p1⟩ := sq_B I hx
    obtain ⟨jts, rw', p2⟩ := sq_B I hy
    have e1 := rv.length
    have e2 := rw'.length
    have s1 : its.toArray.size = its.length := List.size_toArray ..
    have s2 : jts.toArray.size = jts.length := List.size_toArray ..
    exact wpAny_pyNext_zipD2_end D (dr_B (A := X.A.in1) c1 (show X.A.in1.handled = none from I.ok.hd hc) i1 a ha its.toArray) (dr_B (A := X.A.in1) c2 (show X.A.in1.handled = none from I.ok.hd hc) i2 b hb jts.toArray) hz hTI hTO ⟨h1, p1⟩ ⟨h2, p2⟩ (by omega) (by omega) (by omega) fun h' tk hk => ⟨rfl, I.turnedL (t' := tk) (ch := [z, TI, TO, i1, i2]) (fun c o hb q =>
      hk c o (fun e => hb (by simp [e])) (fun e => hb (by simp [e])) (fun e => hb (by simp [e])) (fun e => hb (by simp [e])) q) hf⟩
  self := fun A i s Q E st h => wpAny_pyIter_zip st.1 h
def iZB (K : PySem.W.Frag) (ta : TA) : TI := fun σ H R => ta σ H fun vs H1 => ∃ c1 c2 a b xs ys, vs = [.ref a, .ref b] ∧ SqB c1 K H1 a xs ∧ SqB c2 K H1 b ys ∧ R (ItzB K c1 c2 a b) H1
theorem pi_zB {X : Cx} {e e2 : Expr} {ta : TA} {p pos tpos : Pos} {elts : List Expr} {kk : Nat} (hg : Gl X "zip") (hm : X.mg "zip" = none) (ha : PA X [e, e2] ta)
    (hs : starEach [e, e2] X.env = (false, eval e X.env) :: starEach [e2] X.env := by rfl) (hpl : (backTo pos (starEach [e2] X.env)).any (·.1) = false := by rfl) :
    PI X (.Tuple elts kk tpos) (.Call (.Name "zip" p) [e, e2] [] pos) (iZB X.K ta) := by
  refine ⟨fun pins s σ H R I h => Call_ (ld_blt I hg hm PyProof.Rows.boot_zip (PyProof.Rows.callWith_type1 (thn (ha.run pos pins s σ H _ I h) fun us s1 ⟨vs, H1, I1, r1, c1, c2, a, b, xs, ys, ex, hx, hy, q⟩ => ?_) hs hpl))⟩
  subst ex
  cases r1 with
  | cons r rr =>
    cases rr with
    | cons r' rr =>
      cases rr
      cases r
      cases r'
      obtain ⟨its, rv, p1⟩ := sq_B I1 hx
      obtain ⟨jts, rw', p2⟩ := sq_B I1 hy
      have lt : ∀ {c : Bool} {d : Addr} {js : Array Value}, DaB c s1.heap d js → d < s1.heap.objs.size := fun {c d js} q => by
        cases c
        · obtain ⟨o, z, _⟩ := q; exact Heap.lt_size z
        · obtain ⟨o, z, _⟩ := q; exact Heap.lt_size z
      have la := lt p1
      have lb := lt p2
      refine zip_begins2 (bg_B c1 a its.toArray) (bg_B c2 b jts.toArray) p1 p2 fun h' hz hTI hTO h1 h2 hsz hk => wpAny_pyIter_zip hz ?_
      refine ⟨s1.heap.objs.size + 4, [s1.heap.objs.size + 4, s1.heap.objs.size + 2, s1.heap.objs.size + 3, s1.heap.objs.size, s1.heap.objs.size + 1], _, _, H1, rfl, I1.kept (t' := s1.toks) hk,
        turn_zB (zip_sep2 (fun c hc => by rw [List.mem_singleton.mp hc]; exact la) fun c hc => by rw [List.mem_singleton.mp hc]; exact lb) (Nat.ne_of_lt la) (Nat.ne_of_lt (Nat.lt_succ_of_lt lb)), ⟨hz, hTI, ⟨_, _, hTO⟩, it_B h1, it_B h2⟩, fun c hcm => ?_, q⟩
      have e' : c = s1.heap.objs.size + 4 ∨ c = s1.heap.objs.size + 2 ∨ c = s1.heap.objs.size + 3 ∨ c = s1.heap.objs.size ∨ c = s1.heap.objs.size + 1 := by simpa using hcm
      have hle : s1.heap.objs.size ≤ c := by
        rcases e' with z | z | z | z | z <;> rw [z] <;> first | exact Nat.le_refl _ | exact Nat.le_add_right _ _
      exact I1.fpOk hle (I1.hok.fresh hle)
def izip (xs ys : List W) : List W := (xs.zip ys).map fun p => W.tup [p.1, p.2]
def sq2 (S : Sto) (w : W) : Option (List W) := match view S w with
  | .lst xs => some xs
  | .tup xs => some xs
  | _ => none
def ξe (t : DA') : DI' := fun ω S Q => t ω S fun ws S1 => match ws with
  | [w1, w2] => match sq2 S1 w1, sq2 S1 w2 with
    | some xs, some ys => Q (izip xs ys) (fun S' => sq2 S' w1 = some xs ∧ sq2 S' w2 = some ys) S1
    | _, _ => False
  | _ => False
theorem sq2_src {K : PySem.W.Frag} {S0 : Sto} {H0 : Hp} {w : W} {v : V} {xs : List W} (r : Rel K S0 H0) (h : RW K S0 H0 w v) (e : sq2 S0 w = some xs) :
    ∃ (c : Bool) (a : Addr) (vs : List V), v = .ref a ∧ SqB c K H0 a vs ∧ ∀ S H, Nx S0 H0 S H → Rel K S H → sq2 S w = some xs → ∃ us, SqB c K H a us ∧ RWs K S H xs us := by
  have key : ∀ S, sq2 S w = some xs → seqW S w = some xs := fun S e => by
    unfold sq2 at e
    unfold seqW
    split at e
    · rename_i q; rw [q]; exact e
    · rename_i q; rw [q]; exact e
    · cases e
  unfold sq2 at e
  split at e
  · rename_i ys ev
    cases e
    obtain ⟨a, vs, rfl, sq, hh⟩ := lst_src r h ev
    exact ⟨false, a, vs, rfl, sq, fun S H x r' e' => hh S H x r' (key S e')⟩
  · rename_i ys ev
    cases e
    obtain ⟨a, vs, rfl, sq, hh⟩ := tup_src h ev
    exact ⟨true, a, vs, rfl, sq, fun S H x _ _ => hh S H x⟩
  · cases e
theorem di_zip {X : Cx} {Z : WX} {e e2 : Expr} {t : DA'} {p pos tpos : Pos} {elts : List Expr} {kk : Nat} (hm : X.mg "zip" = none) (ha : DA X Z [e, e2] t) (hg : Gl X "zip" := by rfl)
    (hs : starEach [e, e2] X.env = (false, eval e X.env) :: starEach [e2] X.env := by rfl) (hpl : (backTo pos (starEach [e2] X.env)).any (·.1) = false := by rfl) :
    DI X Z (.Tuple elts kk tpos) (.Call (.Name "zip" p) [e, e2] [] pos) (ξe t) := PI.im (pi_zB hg hm ha hs hpl) fun σ H R ⟨ω, S, Qd, a, h, f⟩ => by
  refine ⟨ω, S, _, a, h, fun ws S1 vs H1 x1 r1 q1 h1 => ?_⟩
  split at h1
  · obtain ⟨v, v', rfl, q, q'⟩ := q1.two
    split at h1
    · rename_i xs ys e1 e2
      obtain ⟨c1, b1, us1, rfl, s1, hh1⟩ := sq2_src r1 q e1
      obtain ⟨c2, b2, us2, rfl, s2, hh2⟩ := sq2_src r1 q' e2
      have hl : (izip xs ys).length = min xs.length ys.length := by unfold izip; rw [List.length_map, List.length_zip]
      refine ⟨c1, c2, b1, b2, us1, us2, rfl, s1, s2, f _ _ _ _ _ x1 r1 ⟨fun i S H x r o hi => ?_, fun i S H v H' x r o hi y => ?_, fun i S H x r o hi => ?_⟩ h1⟩
      · obtain ⟨vs, sq, rs⟩ := hh1 S H x r o.1
        obtain ⟨us, sq', rs'⟩ := hh2 S H x r o.2
        have h1 := rs.len
        have h2 := rs'.len
        exact ⟨vs, us, vs[i], us[i], sq, sq', by simp [show i < vs.length by omega], by simp [show i < us.length by omega]⟩
      · obtain ⟨vs, sq, rs⟩ := hh1 S H x r o.1
        obtain ⟨us, sq', rs'⟩ := hh2 S H x r o.2
        obtain ⟨T, xv, yv, rfl, hT, rfl, y1, y2⟩ := y
        obtain ⟨w1, e1, q1⟩ := rs.get' (y1 vs sq)
        obtain ⟨w2, e2, q2⟩ := rs'.get' (y2 us sq')
        refine ⟨.tup [w1, w2], ?_, Nx.new hT, r.new hT, r.newT hT (.cons q1 (.cons q2 .nil))⟩
        have ez : (xs.zip ys)[i]? = some (w1, w2) := List.getElem?_zip_eq_some.mpr ⟨e1, e2⟩
        unfold izip
        rw [List.getElem?_map, ez]
        rfl
      · obtain ⟨vs, sq, rs⟩ := hh1 S H x r o.1
        obtain ⟨us, sq', rs'⟩ := hh2 S H x r o.2
        exact ⟨vs, us, sq, sq', by rw [hi, hl, rs.len, rs'.len]⟩
    · exact h1.elim
  · exact h1.elim
theorem RWs.atI {K : PySem.W.Frag} {S : Sto} {H : Hp} {ws : List W} {vs : List V} {i : Int} {w : W} (r : RWs K S H ws vs) (h : L2.atI ws i = some w) : ∃ v, L2.atI vs i = some v ∧ RW K S H w v := by
  unfold L2.atI at h ⊢
  rw [← r.len]
  cases e : ixN ws.length i with
  | none => rw [e] at h; cases h
  | some j => rw [e] at h; exact r.get h
def dIx : D2 := fun a b S Q => match view S a, b with
  | .lst xs, .int i => match L2.atI xs i with
    | some w => Q w S
    | none => False
  | .tup xs, .int i => match L2.atI xs i with
    | some w => Q w S
    | none => False
  | .scr ns, .int i => match L2.atI ns i with
    | some n => Q (.int n) S
    | none => False
  | .str z, .int i => match L2.atI z.cps.toList i with
    | some c => Q (.str ⟨#[c]⟩) S
    | none => False
  | _, _ => False
theorem atI_map {α β : Type} (f : α → β) (xs : List α) (i : Int) : L2.atI (xs.map f) i = (L2.atI xs i).map f := by
  unfold L2.atI
  rw [List.length_map]
  cases ixN xs.length i with
  | none => rfl
  | some j => show (xs.map f)[j]? = (xs[j]?).map f; rw [List.getElem?_map]
theorem atI_mem {α : Type} {xs : List α} {i : Int} {v : α} (h : L2.atI xs i = some v) : v ∈ xs := by
  obtain ⟨j, _, h2, _⟩ := atI_get h
  exact List.mem_of_getElem? h2
section
variable {X : Cx} {Z : WX}
theorem ix_any : IxR X (uR X.K dIx) := by
  intro value slice pins s σ H x y v u Q I rx ry ⟨w1, w2, S, Qd, r, r1, r2, q, fi⟩ hs
  unfold dIx at q
  split at q
  · rename_i xs i e1
    cases r2
    obtain ⟨a, vs, rfl, h1, s1⟩ := view_lst r r1 e1
    split at q
    · rename_i w ew
      obtain ⟨z, ez, rz⟩ := s1.atI ew
      exact ix_list value slice pins s σ H _ _ v u Q I rx ry ⟨a, vs, i, z, rfl, rfl, .inl (.inl h1), ez, fi.one r rz q⟩ hs
    · exact q.elim
  · rename_i xs i e1
    cases r2
    obtain ⟨a, vs, rfl, h1, s1⟩ := view_tup r1 e1
    split at q
    · rename_i w ew
      obtain ⟨z, ez, rz⟩ := s1.atI ew
      exact ix_tup value slice pins s σ H _ _ v u Q I rx ry ⟨a, vs, i, z, rfl, rfl, h1, ez, fi.one r rz q⟩ hs
    · exact q.elim
  · rename_i ns i e1
    cases r2
    obtain ⟨a, rfl, h1⟩ := view_scr r1 e1
    split at q
    · rename_i n en
      exact ix_list value slice pins s σ H _ _ v u Q I rx ry ⟨a, _, i, .int n, rfl, rfl, h1, by rw [atI_map, en]; rfl, fi.one r (.int n) q⟩ hs
    · exact q.elim
  · rename_i z i e1
    cases r2
    obtain ⟨rfl, ok⟩ := view_str r1 e1
    split at q
    · rename_i c ec
      exact ix_str value slice pins s σ H _ _ v u Q I rx ry ⟨z, i, c, rfl, rfl, (sv_iff.mp ok).2, ec, fi.one r (.str _ (sv_sign ok (atI_mem ec))) q⟩ hs
    · exact q.elim
  · exact q.elim
theorem de_ix {a b : Expr} {ta tb : DE'} {pos : Pos} (ha : DE X Z a ta) (hb : DE X Z b tb) (hs : PlainIx b := by intro _ _; rfl) : DE X Z (.Subscript a b pos) (dOp dIx ta tb) := PE.im (pe_ix ix_any ha hb hs) fun _ _ _ => uOp
abbrev DO' := Om → Sto → (Option Int → Sto → Prop) → Prop
def uO (K : PySem.W.Frag) (Z : WX) (td : DO') : TO := fun σ H Q => ∃ (ω : Om) (S : Sto) (Qd : Option Int → Sto → Prop), At K Z S H σ ω ∧ td ω S Qd ∧ ∀ o S' H', Nx S H S' H' → Rel K S' H' → Qd o S' → Q o H'
abbrev DPo (X : Cx) (Z : WX) (e : Option Expr) (t : DO') : Prop := PO X e (uO X.K Z t)
def dNo : DO' := fun _ S Q => Q none S
def ζv (te : DE') : DO' := fun ω S Q => te ω S fun w S1 => match w with
  | .int i => Q (some i) S1
  | _ => False
theorem do_none : DPo X Z none dNo := ⟨fun pins s σ H Q I ⟨ω, S, Qd, a, h, f⟩ => (po_none (X := X)).run pins s σ H Q I (f _ _ _ Nx.refl a.rel h)⟩
theorem do_some {e : Expr} {te : DE'} (h : DE X Z e te) : DPo X Z (some e) (ζv te) := ⟨fun pins s σ H Q I ⟨ω, S, Qd, a, q, f⟩ => (po_some h).run pins s σ H Q I ⟨ω, S, _, a, q, fun w S1 v H1 x1 r1 q1 h1 => by
  split at h1
  · cases q1; exact ⟨_, rfl, f _ _ _ x1 r1 h1⟩
  · exact h1.elim⟩⟩
def cut {α : Type} (xs : List α) (lo hi : Option Int) : List α := (xs.drop (HT.sIx xs.length 0 lo)).take (HT.sIx xs.length xs.length hi - HT.sIx xs.length 0 lo)
def ζZ (w : W) (lo hi : Option Int) (S : Sto) (Q : WQ) : Prop := match view S w with
  | .lst xs => Q (.lst (cut xs lo hi)) S
  | .tup xs => Q (.tup (cut xs lo hi)) S
  | .str z => Q (.str (cutS z lo hi)) S
  | _ => False
def dSl (te : DE') (tl th : DO') : DE' := fun ω S Q => te ω S fun w S1 => tl ω S1 fun lo S2 => th ω S2 fun hi S3 => ζZ w lo hi S3 Q
theorem RWs.cut {K : PySem.W.Frag} {S : Sto} {H : Hp} {ws : List W} {vs : List V} (r : RWs K S H ws vs) (lo hi : Option Int) : RWs K S H (DL.cut ws lo hi) (cutV vs lo hi) := by
  unfold DL.cut cutV
  rw [r.len]
  exact (r.drop _).take _
theorem sv_cut {z : Str} {lo hi : Option Int} (h : sv z) : sv (cutS z lo hi) := by
  rw [sv_iff] at h ⊢
  refine ⟨fun c hc => h.1 c ?_, Nat.le_trans (cutS_length z lo hi) h.2⟩
  have e : (cutS z lo hi).cps.toList = (z.cps.toList.drop (HT.sIx z.length 0 lo)).take (HT.sIx z.length z.length hi - HT.sIx z.length 0 lo) := rfl
  rw [e] at hc
  exact List.mem_of_mem_drop (List.mem_of_mem_take hc)
def uSl (K : PySem.W.Frag) : V → Option Int → Option Int → Hp → VK → Prop := fun x lo hi H Q => ∃ w S Qd, Rel K S H ∧ RW K S H w x ∧ ζZ w lo hi S Qd ∧ Fin K S H Qd Q
theorem sl_any : SlR X (uSl X.K) := by
  intro pins s σ H x v vl vu lo hi sl Q I rx hs pl pu ⟨w, S, Qd, r, r1, q, fi⟩
  unfold ζZ at q
  split at q
  · rename_i xs e1
    obtain ⟨a, vs, rfl, h1, s1⟩ := view_lst r r1 e1
    exact sl_list pins s σ H _ v vl vu lo hi sl Q I rx hs pl pu ⟨a, vs, rfl, .inl (.inl h1), fun p np => fi _ _ _ _ (Nx.new np) (r.new np) (.lst upd_same (r.free np) ((s1.cut lo hi).mono (Nx.new np))) q⟩
  · rename_i xs e1
    have rt := view_tup_self r1 e1
    obtain ⟨a, vs, rfl, h1, s1⟩ := view_tup r1 e1
    refine sl_tupA pins s σ H _ v vl vu lo hi sl Q I rx hs pl pu ⟨a, vs, rfl, h1, fun ⟨z1, z2⟩ => ?_, fun _ p np => fi _ _ _ _ (Nx.new np) (r.new np) (.tup upd_same (r.free np) ((s1.cut lo hi).mono (Nx.new np))) q⟩
    refine fi.one r rt ?_
    have e : cut xs lo hi = xs := by
      unfold cut
      rw [s1.len, z1, z2, List.drop_zero, Nat.sub_zero, ← s1.len, List.take_length]
    rw [← e]
    exact q
  · rename_i z e1
    obtain ⟨rfl, ok⟩ := view_str r1 e1
    exact sl_str pins s σ H _ v vl vu lo hi sl Q I rx hs pl pu ⟨z, rfl, (sv_iff.mp ok).2, fi.one r (.str _ (sv_cut ok)) q⟩
  · exact q.elim
theorem de_sl {e : Expr} {lo hi : Option Expr} {te : DE'} {tl th : DO'} {p2 pos : Pos} (he : DE X Z e te) (hl : DPo X Z lo tl) (hu : DPo X Z hi th) : DE X Z (.Subscript e (.Slice lo hi none p2) pos) (dSl te tl th) := PE.im (pe_slice sl_any he hl hu) fun σ H Q ⟨ω, S, Qd, a, h, f⟩ => by
  refine ⟨ω, S, _, a, h, fun w S1 v H1 x1 r1 q1 h1 => ?_⟩
  refine ⟨ω, S1, _, a.to x1 r1, h1, fun lo S2 H2 x2 r2 h2 => ?_⟩
  refine ⟨ω, S2, _, a.to (x1.trans x2) r2, h2, fun hi S3 H3 x3 r3 h3 => ?_⟩
  exact ⟨w, S3, Qd, r3, q1.mono (x2.trans x3), h3, fun w S' v H' x r q h => f w S' v H' (x1.trans (x2.trans (x3.trans x))) r q h⟩
end
abbrev DM' := W → List W → Sto → WQ → Prop
def isL (S : Sto) (w : W) : Bool := match view S w with
  | .lst _ => true
  | _ => false
def dBM (rd : DM') (to : DE') (t : DA') : DE' := fun ω S Q => to ω S fun w S1 => isL S1 w = true ∧ t ω S1 fun ws S2 => rd w ws S2 Q
def uM (K : PySem.W.Frag) (rd : DM') : V → List V → Hp → VK → Prop := fun x xs H Q => ∃ w ws S Qd, Rel K S H ∧ RW K S H w x ∧ RWs K S H ws xs ∧ rd w ws S Qd ∧ Fin K S H Qd Q
section
variable {X : Cx} {Z : WX} {o e : Expr} {es : List Expr} {to : DE'} {t : DA'} {name : Str} {apos cpos : Pos} {id : String} {rd : DM'}
theorem isL_ty {K : PySem.W.Frag} {S : Sto} {H : Hp} {w : W} {v : V} (r : Rel K S H) (h : RW K S H w v) (e : isL S w = true) : tyV K "list" v H := by
  unfold isL at e
  split at e
  · rename_i xs ev
    obtain ⟨a, vs, rfl, h1, _⟩ := view_lst r h ev
    exact .inl ⟨rfl, vs, .inl (.inl h1)⟩
  · cases e
theorem de_bm (slot : Slot "list" name id) (hty : typeOf (.builtin id) = pure (.type "method_descriptor")) (hm : MtR X id (uM X.K rd)) (ho : DE X Z o to) (ha : DA X Z (e :: es) t)
    (hbase : attributeBase o name X.env (eval o X.env) = eval o X.env := by rfl)
    (hfew : ((backTo cpos (starEach (e :: es) X.env)).all (fun x => !x.1) && (backToKw cpos (keywordEach [] X.env)).all (fun x => x.1.isSome) && decide ((e :: es).length + ([] : List Keyword).length + (if ([] : List Keyword).isEmpty then 0 else 1) < 30)) = true := by rfl)
    (hline : (apos.endLine == cpos.line) = true := by rfl) (hs : starEach (e :: es) X.env = (false, eval e X.env) :: starEach es X.env := by rfl) (hplain : (backTo cpos (starEach es X.env)).any (·.1) = false := by rfl) :
    DE X Z (.Call (.Attribute o name apos) (e :: es) [] cpos) (dBM rd to t) := PE.im (pe_bm PySem.F.plainAttrs_list slot hty hm ho ha hbase hfew hline hs hplain) fun σ H Q ⟨ω, S, Qd, a, h, f⟩ => by
  refine ⟨ω, S, _, a, h, fun w S1 v H1 x1 r1 q1 ⟨il, h1⟩ => ⟨isL_ty r1 q1 il, ω, S1, _, a.to x1 r1, h1, fun ws S2 vs H2 x2 r2 q2 h2 => ?_⟩⟩
  exact ⟨w, ws, S2, Qd, r2, q1.mono x2, q2, h2, fun w S' v H' x r q h => f w S' v H' (x1.trans (x2.trans x)) r q h⟩
def ξa : DM' := fun w ws S Q => match w, ws with
  | .ref a, [y] => match S a with
    | some (.lst xs) => xs.length < 1000000 ∧ Q .non (up S a (.lst (xs ++ [y])))
    | _ => False
  | _, _ => False
theorem mt_app : MtR X "list.append" (uM X.K ξa) := fun pins s σ H x xs v us Q I rx rs ⟨w, ws, S, Qd, r, r1, r2, q, fi⟩ => by
  refine mt_append pins s σ H x xs v us Q I rx rs ?_
  unfold ξa at q
  split at q
  · cases r1
    obtain ⟨z, rfl, rz⟩ := r2.one
    split at q
    · rename_i a ys hs
      cases r _ _ hs with
      | @lst _ vs h1 q1 => exact ⟨_, vs, z, rfl, rfl, h1, by rw [← q1.len]; exact sz_lt q.1, fi _ _ _ _ (Nx.wr hs) (r.wr hs (fun _ e => nomatch e) (.lst upd_same ((q1.app (.cons rz .nil)).mono (Nx.wr hs)))) .non q.2⟩
    · exact q.elim
  · exact q.elim
theorem de_append (ho : DE X Z o to) (ha : DA X Z [e] t) (hbase : attributeBase o "append" X.env (eval o X.env) = eval o X.env := by rfl)
    (hfew : ((backTo cpos (starEach [e] X.env)).all (fun x => !x.1) && (backToKw cpos (keywordEach [] X.env)).all (fun x => x.1.isSome) && decide (([e] : List Expr).length + ([] : List Keyword).length + (if ([] : List Keyword).isEmpty then 0 else 1) < 30)) = true := by rfl)
    (hline : (apos.endLine == cpos.line) = true := by rfl) (hs : starEach [e] X.env = (false, eval e X.env) :: starEach [] X.env := by rfl) (hplain : (backTo cpos (starEach [] X.env)).any (·.1) = false := by rfl) :
    DE X Z (.Call (.Attribute o "append" apos) [e] [] cpos) (dBM ξa to t) := de_bm PySem.F.slot_list_append PySem.F.type_list_append mt_app ho ha hbase hfew hline hs hplain
def ξb : DM' := fun w ws S Q => match w, ws with
  | .ref a, [y] => match S a, view S y with
    | some (.lst xs), .lst ys => xs.length + ys.length ≤ 1000000 ∧ Q .non (up S a (.lst (xs ++ ys)))
    | _, _ => False
  | _, _ => False
theorem mt_ext : MtR X "list.extend" (uM X.K ξb) := fun pins s σ H x xs v us Q I rx rs ⟨w, ws, S, Qd, r, r1, r2, q, fi⟩ => by
  refine mt_extend pins s σ H x xs v us Q I rx rs ?_
  unfold ξb at q
  split at q
  · cases r1
    obtain ⟨z, rfl, rz⟩ := r2.one
    split at q
    · rename_i a _ ys zs hs hv
      obtain ⟨b, us', rfl, h2, q2⟩ := view_lst r rz hv
      cases r _ _ hs with
      | @lst _ vs h1 q1 => exact ⟨_, b, vs, us', rfl, rfl, h1, h2, by rw [← q1.len, ← q2.len]; exact sz_of q.1, fi _ _ _ _ (Nx.wr hs) (r.wr hs (fun _ e => nomatch e) (.lst upd_same ((q1.app q2).mono (Nx.wr hs)))) .non q.2⟩
    · exact q.elim
  · exact q.elim
theorem de_extend (ho : DE X Z o to) (ha : DA X Z [e] t) (hbase : attributeBase o "extend" X.env (eval o X.env) = eval o X.env := by rfl)
    (hfew : ((backTo cpos (starEach [e] X.env)).all (fun x => !x.1) && (backToKw cpos (keywordEach [] X.env)).all (fun x => x.1.isSome) && decide (([e] : List Expr).length + ([] : List Keyword).length + (if ([] : List Keyword).isEmpty then 0 else 1) < 30)) = true := by rfl)
    (hline : (apos.endLine == cpos.line) = true := by rfl) (hs : starEach [e] X.env = (false, eval e X.env) :: starEach [] X.env := by rfl) (hplain : (backTo cpos (starEach [] X.env)).any (·.1) = false := by rfl) :
    DE X Z (.Call (.Attribute o "extend" apos) [e] [] cpos) (dBM ξb to t) := de_bm PySem.F.slot_list_extend PySem.F.type_list_extend mt_ext ho ha hbase hfew hline hs hplain
def ζf (to ti te : DE') : DS' := fun D ω S => te ω S fun v S1 => to ω S1 fun w S2 => ti ω S2 fun i S3 => match w, i with
  | .ref a, .int k => match S3 a with
    | some (.lst xs) => match ixN xs.length k with
      | some j => D.nx ω (up S3 a (.lst (xs.set j v)))
      | none => False
    | _ => False
  | _, _ => False
theorem ds_setIx {i : Expr} {ti te : DE'} {p' pos : Pos} (ho : DE X Z o to) (hi : DE X Z i ti) (he : DE X Z e te) (hs : swapsWithSole [.Subscript o i p'] e pos.line X.env = pure false := by rfl) (hw : swappedStores [.Subscript o i p'] e X.env = pure none := by rfl)
    (h1 : (assignEach [.Subscript o i p'] X.env).map (·.2) = [assign (.Subscript o i p') X.env] := by rfl)
    (ha : ∀ v, assign (.Subscript o i p') X.env v = (do
      let ov ← holding [v] (eval o X.env)
      let iv ← holding [v, ov] (eval i X.env)
      standAt p'
      holding [v, ov, iv] (setItem ov iv v)
      release [v, ov, iv] []) := by intro _; rfl) : DS X Z (.Assign [.Subscript o i p'] e pos) (ζf to ti te) := PS.im (ps_asg he (pg_sub ho hi set_list ha) hs hw h1) fun D σ H ⟨ω, S, Dd, a, h, f⟩ => by
  refine ⟨ω, S, _, a, h, fun v S1 y H1 x1 r1 q1 h1 => ?_⟩
  refine ⟨ω, S1, _, a.to x1 r1, h1, fun w S2 z H2 x2 r2 q2 h2 => ?_⟩
  refine ⟨ω, S2, _, a.to (x1.trans x2) r2, h2, fun i S3 z3 H3 x3 r3 q3 h3 => ?_⟩
  split at h3
  · cases q2; cases q3
    split at h3
    · rename_i hs
      split at h3
      · rename_i j ej
        cases r3 _ _ hs with
        | @lst _ vs hH rs =>
          exact ⟨_, vs, _, j, rfl, rfl, hH, by rw [← rs.len]; exact ej, f.nx _ _ _ _ (x1.trans (x2.trans (x3.trans (Nx.wr hs)))) (a.to (x1.trans (x2.trans (x3.trans (Nx.wr hs)))) (r3.wr hs (fun _ e => nomatch e) (.lst upd_same ((rs.set (q1.mono (x2.trans x3)) j).mono (Nx.wr hs))))) h3⟩
      · exact h3.elim
    · exact h3.elim
  · exact h3.elim
end
inductive Ty where | int | bool | str | tup | lst
def Ty.nm : Ty → String
  | .int => "int" | .bool => "bool" | .str => "str" | .tup => "tuple" | .lst => "list"
def isi (S : Sto) : Ty → W → Option Bool
  | .int, w => match view S w with
    | .int _ => some true | .bl _ => some true | .non => some false | .str _ => some false | .tup _ => some false | .lst _ => some false | _ => none
  | .bool, w => match view S w with
    | .int _ => some false | .bl _ => some true | .non => some false | .str _ => some false | .tup _ => some false | .lst _ => some false | _ => none
  | .str, w => match view S w with
    | .int _ => some false | .bl _ => some false | .non => some false | .str _ => some true | .tup _ => some false | .lst _ => some false | _ => none
  | .tup, w => match view S w with
    | .int _ => some false | .bl _ => some false | .non => some false | .str _ => some false | .tup _ => some true | .lst _ => some false | _ => none
  | .lst, w => match view S w with
    | .int _ => some false | .bl _ => some false | .non => some false | .str _ => some false | .tup _ => some false | .lst _ => some true | _ => none
def dIs (T : Ty) : W → Sto → WQ → Prop := fun w S Q => match isi S T w with
  | some b => Q (.bl b) S
  | none => False
theorem ty_of {K : PySem.W.Frag} {S : Sto} {H : Hp} {w : W} {v : V} (r : Rel K S H) (h : RW K S H w v) : match view S w with
    | .int _ => TyX K H v (.type "int") | .bl _ => TyX K H v (.type "bool") | .non => TyX K H v (.type "NoneType") | .str _ => TyX K H v (.type "str") | .tup _ => TyX K H v (.type "tuple") | .lst _ => TyX K H v (.type "list") | _ => True := by
  cases e : view S w with
  | int i => obtain rfl := view_int h e; exact .base (.int i)
  | str x => obtain ⟨rfl, _⟩ := view_str h e; exact .base (.str x)
  | lst xs => obtain ⟨a, vs, rfl, h1, _⟩ := view_lst r h e; exact .base (.lst h1)
  | tup xs =>
    obtain ⟨a, vs, rfl, h1, _⟩ := view_tup h e
    rcases h1 with (h1 | ⟨o, h1⟩) | ⟨o, its, n, h1, hc, _⟩
    · exact .base (.tup h1)
    · exact .fTuple h1
    · exact .kTuple h1 hc
  | bl b => cases h <;> simp only [view] at e <;> first | (cases e; exact .base (.bl _)) | cases e | (split at e <;> cases e)
  | non => cases h <;> simp only [view] at e <;> first | (cases e; exact .base .non) | exact .base .non | cases e | (split at e <;> cases e)
  | _ => trivial
theorem kit1 {K : PySem.W.Frag} {t n : String} {b : Bool} (h : kitB t n = some b) : PySem.W.kitOne K (.type t) (.type n) = some b := kit_ty h
section
variable {X : Cx} {Z : WX}
theorem de_isi (T : Ty) {a : Expr} {ta : DE'} {x : Str} {p p2 pos : Pos} (ha : DE X Z a ta) (hm : X.mg "isinstance" = none) (hx : X.mg x = none) (hv : bootBuiltins x = some (.type T.nm) := by decide +kernel) (hg : Gl X "isinstance" := by rfl) (hgx : Gl X x := by rfl) (hn : x ≠ "__name__" := by decide) (hd : (x == ("__debug__" : Str)) = false := by decide)
    (he : starEach [a, .Name x p2] X.env = (false, eval a X.env) :: starEach [.Name x p2] X.env := by rfl) (he2 : starEach [.Name x p2] X.env = (false, eval (.Name x p2) X.env) :: starEach [] X.env := by rfl) (hpl : (backTo pos (starEach [.Name x p2] X.env)).any (·.1) = false := by rfl) :
    DE X Z (.Call (.Name "isinstance" p) [a, .Name x p2] [] pos) (dUn (dIs T) ta) :=
  PE.im (pe_callB (id := "isinstance") call_isi hg hm (by decide +kernel) (pa_cons ha (pa_cons (pe_bltn (v := .ty T.nm) hgx hx hv rfl hn hd) pa_nil he2) he) (by decide) (by decide) he hpl) fun σ H Q ⟨ω, S, Qd, a, h, f⟩ => by
    refine ⟨ω, S, _, a, h, fun w S1 v H1 x1 r1 q1 h1 => ?_⟩
    show rIsi X.K [v, .ty T.nm] H1 Q
    have ty := ty_of r1 q1
    unfold dIs at h1
    split at h1
    · rename_i b eb
      have key : ∀ t : String, TyX X.K H1 v (.type t) → kitB t T.nm = some b → rIsi X.K [v, .ty T.nm] H1 Q := fun t ht hk => ⟨v, _, _, _, b, rfl, .ty _, ht, kit1 hk, f _ _ _ _ x1 r1 (.bl _) h1⟩
      cases T <;> simp only [isi] at eb <;> cases e : view S1 w <;> rw [e] at eb ty <;> simp only at eb ty <;> first | cases eb | skip
      all_goals first | exact key _ ty (by decide +kernel) | exact (nomatch eb)
    · exact h1.elim
end
end DL
namespace My
open PySem PySem.Spec PyProof.Rows L2 PySem.W
section
variable {X : Cx} {pins : List (Addr × Obj)} {σ : L2.St} {H : Hp} {s : Shared}
end
section
variable {prog : Program} {w : World} {A : Around} {E : Value → Shared → Prop} {s : Shared}
end
end My
namespace DL
open PySem PySem.Spec PyProof.Rows L2 TL
section
variable {prog : Program} {w : World} {A : Around} {E : Value → Shared → Prop} {s : Shared}
end
section
variable {X : Cx} {Z : WX}
end
end DL
namespace DL
open PySem PySem.Spec PyProof.Rows L2
inductive Frz : W → Sto → W → Sto → Prop
  | same {w : W} {S : Sto} : Frz w S w S
  | lst {p : Addr} {S : Sto} {xs : List W} (h : S p = some (.lst xs)) : Frz (.ref p) S (.lst xs) (del S p)
  | dct {p : Addr} {S : Sto} {kvs : List (Key × W)} (h : S p = some (.dK kvs)) : Frz (.ref p) S (.dct (kvs.map (·.1)) (kvs.map (·.2))) (del S p)
  | tup {p : Addr} {S : Sto} {xs : List W} (h : S p = some (.tup xs)) : Frz (.ref p) S (.tup xs) (del S p)
  | ins {p C dx : Addr} {S : Sto} {fs : List (Str × W)} (h : S p = some (.ins C dx fs)) : Frz (.ref p) S (.ins C (fs.map (·.1)) (fs.map (·.2))) (del (del S p) dx)
  | drop {w : W} {S : Sto} {p : Addr} {o : WO} (h : S p = some o) (hn : ∀ x, o ≠ .own x) : Frz w S w (del S p)
  | dropI {w : W} {p C dx : Addr} {S : Sto} {fs : List (Str × W)} (h : S p = some (.ins C dx fs)) : Frz w S w (del (del S p) dx)
  | trans {w w' w'' : W} {S S' S'' : Sto} (a : Frz w S w' S') (b : Frz w' S' w'' S'') : Frz w S w'' S''
  | gen {w w' : W} {S S' : Sto} (h : ∀ (K : PySem.W.Frag) (H : Hp) (v : V), Rel K S H → RW K S H w v → Nx S H S' H ∧ Rel K S' H ∧ RW K S' H w' v) : Frz w S w' S'
section
variable {K : PySem.W.Frag} {S S' : Sto} {H : Hp} {w w' : W} {v : V}
theorem zip_prodV {κ : Type} : ∀ kvs : List (κ × V), (kvs.map (·.1)).zip (kvs.map (·.2)) = kvs
  | [] => rfl
  | (k, w) :: t => by rw [List.map_cons, List.map_cons, List.zip_cons_cons, zip_prodV t]
theorem Frz.ok (f : Frz w S w' S') (r : Rel K S H) (q : RW K S H w v) : Nx S H S' H ∧ Rel K S' H ∧ RW K S' H w' v := by
  induction f with
  | same => exact ⟨Nx.refl, r, q⟩
  | @lst p S xs h =>
    cases q
    cases r _ _ h with
    | lst h1 q1 => exact ⟨Nx.forget, r.forget h (fun _ e => nomatch e), .lst h1 del_same (q1.mono Nx.forget)⟩
  | @dct p S kvs h =>
    cases q
    cases r _ _ h with
    | @dK _ gs h1 q1 =>
      refine ⟨Nx.forget, r.forget h (fun _ e => nomatch e), ?_⟩
      have e : kvs.map (·.1) = gs.map (·.1) := RWp.fst q1
      rw [e]
      exact .dct (.inl (by rw [zip_prodV]; exact h1)) del_same (by simp) ((RWp.snd q1).mono Nx.forget)
  | @tup p S xs h =>
    cases q
    cases r _ _ h with
    | tup h1 q1 => exact ⟨Nx.forget, r.forget h (fun _ e => nomatch e), .tup h1 del_same (q1.mono Nx.forget)⟩
  | @ins p C dx S fs h =>
    cases q
    cases r _ _ h with
    | @ins _ _ _ gs h1 m q1 =>
      have hne : dx ≠ p := fun e => by subst e; rw [h] at m; cases m
      have x1 : Nx S H (del S p) H := Nx.forget
      have x2 : Nx S H (del (del S p) dx) H := x1.trans Nx.forget
      have hd : H dx = some (.own p) := by
        cases r _ _ m with
        | own q => exact q
      refine ⟨x2, fun b u hb => ?_, ?_⟩
      · have n1 : b ≠ dx := fun e => by subst e; rw [del_same] at hb; cases hb
        rw [del_ne n1] at hb
        have n2 : b ≠ p := fun e => by subst e; rw [del_same] at hb; cases hb
        rw [del_ne n2] at hb
        refine (r b u hb).mono x2 rfl fun d hd' => ?_
        have n3 : d ≠ dx := fun e => by subst e; rw [m] at hd'; cases hd'; exact n2 rfl
        have n4 : d ≠ p := fun e => by subst e; rw [h] at hd'; cases hd'
        rw [del_ne n3, del_ne n4]
        exact hd'
      · have e : fs.map (·.1) = gs.map (·.1) := RWp.fst q1
        rw [e]
        exact .ins (dx := dx) (by rw [zip_prodV]; exact h1) hd (by rw [del_ne (Ne.symm hne), del_same]) del_same (by simp) ((RWp.snd q1).mono x2)
  | drop h hn => exact ⟨Nx.forget, r.forget h hn, q.mono Nx.forget⟩
  | @dropI w p C dx S fs h =>
    cases r _ _ h with
    | @ins _ _ _ gs h1 m q1 =>
      have hne : dx ≠ p := fun e => by subst e; rw [h] at m; cases m
      have x1 : Nx S H (del S p) H := Nx.forget
      have x2 : Nx S H (del (del S p) dx) H := x1.trans Nx.forget
      refine ⟨x2, fun b u hb => ?_, q.mono x2⟩
      have n1 : b ≠ dx := fun e => by subst e; rw [del_same] at hb; cases hb
      rw [del_ne n1] at hb
      have n2 : b ≠ p := fun e => by subst e; rw [del_same] at hb; cases hb
      rw [del_ne n2] at hb
      refine (r b u hb).mono x2 rfl fun d hd' => ?_
      have n3 : d ≠ dx := fun e => by subst e; rw [m] at hd'; cases hd'; exact n2 rfl
      have n4 : d ≠ p := fun e => by subst e; rw [h] at hd'; cases hd'
      rw [del_ne n3, del_ne n4]
      exact hd'
  | trans a b iha ihb =>
    obtain ⟨x1, r1, q1⟩ := iha r q
    obtain ⟨x2, r2, q2⟩ := ihb r1 q1
    exact ⟨x1.trans x2, r2, q2⟩
  | gen h => exact h _ _ _ r q
end
def frzQ (Q : WQ) : WQ := fun w S => ∃ w' S', Frz w S w' S' ∧ Q w' S'
theorem frzQ.mk {Q : WQ} {w : W} {S : Sto} (h : Q w S) : frzQ Q w S := ⟨w, S, .same, h⟩
theorem Fin.frz {K : PySem.W.Frag} {S : Sto} {H : Hp} {Qd : WQ} {Q : VK} (f : Fin K S H Qd Q) : Fin K S H (frzQ Qd) Q := fun w S1 v H1 x r q ⟨w', S2, fz, h⟩ => by
  obtain ⟨x2, r2, q2⟩ := fz.ok r q
  exact f w' S2 v H1 (x.trans x2) r2 q2 h
def ξc (te : DE') : DE' := fun ω S Q => te ω S (frzQ Q)
theorem de_frz {X : Cx} {Z : WX} {e : Expr} {te : DE'} (h : DE X Z e te) : DE X Z e (ξc te) := PE.im h fun σ H Q ⟨ω, S, Qd, a, q, f⟩ => ⟨ω, S, frzQ Qd, a, q, f.frz⟩
section
variable {P : Program} {w : World} {K : PySem.W.Frag} {mg : Str → Option Value} {base : Heap}
theorem Fun.okF {x qual : Str} {st : Stmt} {f : Addr} {fd : FuncData} {N ps : List Str} {k : Nat} {dsp : DSp} (F : Fun K x qual st f fd) (sc : FnScope N ps (defScope st)) (td : DS')
    (hb : ∀ (cdv : Value) (A : Around) (outer : List Env) (s : Shared) (H : Hp) (E : XK), Room k (A.deeper (envOfC qual (defScope st) s.heap.objs.size f cdv)) → DSs (cxOf CX0 P w K mg base N qual (defScope st) f cdv A outer s H E).nox Z0 (defBody st) td)
    (len : ∀ ws S Q E, dsp ws S Q E → ws.length = ps.length) (hd : ∀ ws S Q E, dsp ws S Q E → td { nx := fun _ S' => frzQ Q .non S', rt := frzQ Q } ⟨ζg N ws, XF⟩ S) : FnOk P w K mg base CX0 (k + 1) f fd ps (uSp K dsp) := by
  refine F.ok sc (fun vs H Q E ⟨ws, S, Qd, Ed, r, rs, h, _⟩ => by rw [← rs.len]; exact len _ _ _ _ h) fun cdv A outer s H vs Q E hr ⟨ws, S, Qd, Ed, r, rs, h, f, fx⟩ => ⟨_, hb cdv A outer s H E hr, ?_⟩
  exact ⟨⟨ζg N ws, XF⟩, S, _, ⟨r, RS.start rs, .zero⟩, hd ws S Qd Ed h, ⟨fun ω' S' σ' H' x a q => f.frz _ _ _ _ x a.rel .non q, f.frz, fun _ _ _ _ _ _ q => q.elim, fun _ _ _ _ _ _ q => q.elim⟩⟩
end
theorem wput_rel {κ : Type} [DecidableEq κ] {K : PySem.W.Frag} {S : Sto} {H : Hp} {kvs : List (κ × W)} {gs : List (κ × V)} (r : RWp K S H kvs gs) (k : κ) {w : W} {v : V} (q : RW K S H w v) : RWp K S H (wput kvs k w) (putK gs k v) := by
  have e : (kvs.any fun kv => decide (kv.1 = k)) = (gs.any fun kv => decide (kv.1 = k)) := by
    have h := r.fst
    have h1 : (kvs.any fun kv => decide (kv.1 = k)) = ((kvs.map (·.1)).any fun x => decide (x = k)) := by rw [List.any_map]; rfl
    have h2 : (gs.any fun kv => decide (kv.1 = k)) = ((gs.map (·.1)).any fun x => decide (x = k)) := by rw [List.any_map]; rfl
    rw [h1, h2, h]
  unfold wput putK
  rw [e]
  split
  · rename_i hc
    clear e hc
    induction r with
    | nil => exact .nil
    | @cons p u kvs gs h t ih =>
      refine .cons ?_ ih
      obtain ⟨p1, p2⟩ := p
      obtain ⟨u1, u2⟩ := u
      obtain ⟨h1, h2⟩ := h
      simp only at h1 h2
      subst h1
      by_cases c : p1 = k
      · show (if p1 = k then (p1, w) else (p1, p2)).1 = (if p1 = k then (p1, v) else (p1, u2)).1 ∧ RW K S H (if p1 = k then (p1, w) else (p1, p2)).2 (if p1 = k then (p1, v) else (p1, u2)).2
        rw [if_pos c, if_pos c]; exact ⟨rfl, q⟩
      · show (if p1 = k then (p1, w) else (p1, p2)).1 = (if p1 = k then (p1, v) else (p1, u2)).1 ∧ RW K S H (if p1 = k then (p1, w) else (p1, p2)).2 (if p1 = k then (p1, v) else (p1, u2)).2
        rw [if_neg c, if_neg c]; exact ⟨rfl, h2⟩
  · rename_i hc
    clear e hc
    induction r with
    | nil => exact .cons ⟨rfl, q⟩ .nil
    | cons h t ih => exact .cons h ih
def dNewK : DE' := fun _ S Q => ∀ p, S p = none → Q (.ref p) (up S p (.dK []))
section
variable {X : Cx} {Z : WX} {o i e : Expr} {to ti te : DE'} {pos p' : Pos} {k : Nat}
theorem de_dnewK : DE X Z (.Dict [] [] pos) dNewK := PE.im pe_dnewK fun σ H Q ⟨ω, S, Qd, a, h, f⟩ p np => f _ _ _ _ (Nx.newS np) (a.rel.newS np (.dK upd_same .nil)) (.ref p) (h p (a.rel.free np))
end
def wputF (f : Str) (v : W) : List (Str × W) → List (Str × W)
  | [] => [(f, v)]
  | (g, x) :: r => if g = f then (g, v) :: r else (g, x) :: wputF f v r
theorem wputF_rel {K : PySem.W.Frag} {S : Sto} {H : Hp} {f : Str} {w : W} {v : V} (q : RW K S H w v) {fs : List (Str × W)} {gs : List (Str × V)} (r : RWp K S H fs gs) : RWp K S H (wputF f w fs) (putF f v gs) := by
  induction r with
  | nil => exact .cons ⟨rfl, q⟩ .nil
  | @cons p u fs gs h t ih =>
    obtain ⟨p1, p2⟩ := p
    obtain ⟨u1, u2⟩ := u
    obtain ⟨h1, h2⟩ := h
    simp only at h1 h2
    subst h1
    by_cases c : p1 = f
    · rw [wputF, putF, if_pos c, if_pos c]; exact .cons ⟨rfl, q⟩ t
    · rw [wputF, putF, if_neg c, if_neg c]; exact .cons ⟨rfl, h2⟩ ih
def fget (S : Sto) (C : Addr) (f : Str) : W → Option W
  | .ins C' ns ws => if C' = C then (ns.zip ws).lookup f else none
  | .ref a => match S a with
    | some (.ins C' dx fs) => if C' = C then fs.lookup f else none
    | _ => none
  | _ => none
theorem fget_rel {K : PySem.W.Frag} {S : Sto} {H : Hp} {C : Addr} {f : Str} {w u : W} {v : V} (r : Rel K S H) (q : RW K S H w v) (h : fget S C f w = some u) : ∃ a dx gs z, v = .ref a ∧ H a = some (.ins C dx gs) ∧ gs.lookup f = some z ∧ RW K S H u z := by
  cases q <;> simp only [fget] at h <;> try cases h
  case ins a C' dx ns ws vs hH n m hl e q1 =>
    split at h
    · rename_i hc
      subst hc
      obtain ⟨z, ez, rz⟩ := RWp.look (RWp.zip (by assumption) (by assumption)) h
      exact ⟨_, _, _, z, rfl, by assumption, ez, rz⟩
    · cases h
  case ref a =>
    split at h
    · rename_i C' dx fs hs
      split at h
      · rename_i hc
        subst hc
        cases r _ _ hs with
        | @ins _ _ _ gs h1 m q1 =>
          obtain ⟨z, ez, rz⟩ := RWp.look q1 h
          exact ⟨_, _, _, z, rfl, h1, ez, rz⟩
      · cases h
    · cases h
def ξd (C : Addr) (f : Str) (ta : DE') : DE' := fun ω S Q => ta ω S fun w S1 => match fget S1 C f w with
  | some v => Q v S1
  | none => False
def ζw (C : Addr) (f : Str) (ta tv : DE') : DS' := fun D ω S => tv ω S fun y S1 => ta ω S1 fun x S2 => match x with
  | .ref a => match S2 a with
    | some (.ins C' dx fs) => C' = C ∧ fs.length < 1000 ∧ D.nx ω (up S2 a (.ins C dx (wputF f y fs)))
    | _ => False
  | _ => False
def dMake (C : Addr) (dsp : DSp) (t : DA') : DE' := fun ω S Q => t ω S fun ws S1 => ∀ x dx, S1 x = none → S1 dx = none → dx ≠ x →
  dsp (.ref x :: ws) (up (up S1 dx (.own x)) x (.ins C dx [])) (fun v S2 => v = .non ∧ Q (.ref x) S2) X0
section
variable {X : Cx} {Z : WX} {o e : Expr} {es : List Expr} {ta tv : DE'} {t : DA'} {C : Addr} {f x : Str} {pos p p' : Pos} {k j : Nat} {dsp : DSp}
theorem de_fld (c : Cls X.K C) (n : NoAttr X.K C f) (he : DE X Z e ta) (hb : attributeBase e f X.env (eval e X.env) = eval e X.env := by rfl) : DE X Z (.Attribute e f pos) (ξd C f ta) := PE.im (pe_fld he hb) fun σ H Q ⟨ω, S, Qd, a, h, fi⟩ => by
  refine ⟨ω, S, _, a, h, fun w S1 v H1 x1 r1 q1 h1 => ?_⟩
  split at h1
  · rename_i u eu
    obtain ⟨b, dx, gs, z, rfl, hb, hl, rz⟩ := fget_rel r1 q1 eu
    exact ⟨b, C, dx, gs, z, rfl, hb, c, n, hl, fi _ _ _ _ x1 r1 rz h1⟩
  · exact h1.elim
theorem ds_fld (c : Cls X.K C) (n : NoAttr X.K C f) (ha : DE X Z o ta) (hv : DE X Z e tv) (hs : swapsWith e (some (.Attribute o f p')) pos.line X.env = pure false := by rfl) : DS X Z (.Assign [.Attribute o f p'] e pos) (ζw C f ta tv) := PS.im (ps_fld ha hv hs) fun D σ H ⟨ω, S, Dd, a, h, fi⟩ => by
  refine ⟨ω, S, _, a, h, fun y S1 v H1 x1 r1 q1 h1 => ?_⟩
  refine ⟨ω, S1, _, a.to x1 r1, h1, fun w S2 z H2 x2 r2 q2 h2 => ?_⟩
  split at h2
  · cases q2
    split at h2
    · rename_i C' dx fs hs
      obtain ⟨rfl, hl, h2⟩ := h2
      cases r2 _ _ hs with
      | @ins _ _ _ gs hH m rs =>
        have l : fs.length = gs.length := RWp.len rs
        refine ⟨_, _, dx, gs, rfl, hH, c, n, by rw [← l]; exact hl, fi.nx _ _ _ _ (x1.trans (x2.trans (Nx.wr hs))) (a.to (x1.trans (x2.trans (Nx.wr hs))) (r2.wr hs (fun _ e => nomatch e) (.ins upd_same ?_ (RWp.mono (Nx.wr hs) (wputF_rel (q1.mono x2) rs))))) h2⟩
        rw [up_ne fun e => by subst e; rw [hs] at m; cases m]
        exact m
    · exact h2.elim
  · exact h2.elim
theorem Rel.made {K : PySem.W.Frag} {S : Sto} {H : Hp} {x dx : Addr} (r : Rel K S H) (nx : H x = none) (nd : H dx = none) (hne : dx ≠ x) : Nx S H (up (up S dx (.own x)) x (.ins C dx [])) (upd (upd H dx (.own x)) x (.ins C dx [])) ∧ Rel K (up (up S dx (.own x)) x (.ins C dx [])) (upd (upd H dx (.own x)) x (.ins C dx [])) := by
  have r1 : Rel K (up S dx (.own x)) (upd H dx (.own x)) := r.newS nd (.own upd_same)
  have n2 : upd H dx (.own x) x = none := by rw [upd_ne (Ne.symm hne)]; exact nx
  exact ⟨(Nx.newS nd).trans (Nx.newS n2), r1.newS n2 (.ins upd_same (by rw [up_ne hne, up_same]) .nil)⟩
theorem de_make {g : Addr} {fd : FuncData} {ps : List Str} (M : Mk X.K C g) (F : FnOk X.prog X.w X.K X.mg X.base CX0 k g fd ps (uSp X.K dsp)) (hm : X.mg x = some (.ref C)) (hb : Binds X.K fd ps []) (hr : Room j X.A) (ha : DA X Z (e :: es) t) (hk : k + 1 ≤ j := by decide) (hg : Gl X x := by rfl)
    (hdb : (x == ("__debug__" : Str)) = false := by decide) (he : starEach (e :: es) X.env = (false, eval e X.env) :: starEach es X.env := by rfl) (hpl : (backTo pos (starEach es X.env)).any (·.1) = false := by rfl) :
    DE X Z (.Call (.Name x p) (e :: es) [] pos) (dMake C dsp t) := PE.im (pe_make M F (hr.mono hk) hg hm hb .nil pass0 ha hdb he hpl) fun σ H Q ⟨ω, S, Qd, a, h, fi⟩ => by
  refine ⟨ω, S, _, a, h, fun ws S1 vs H1 x1 r1 q1 h1 => fun x dx nx nd hne => ?_⟩
  obtain ⟨xm, rm⟩ := Rel.made (C := C) r1 nx nd hne
  show uSp X.K dsp (.ref x :: (vs ++ [])) _ _ _
  rw [List.append_nil]
  exact ⟨.ref x :: ws, _, _, X0, rm, .cons (.ref x) (q1.mono xm), h1 x dx (r1.free nx) (r1.free nd) hne, fun w S' v H' x r q ⟨e, h⟩ => by
    subst e
    cases q
    exact ⟨rfl, fi _ S' _ H' (x1.trans (xm.trans x)) r (.ref _) h⟩, .zero⟩
end
section
variable {X : Cx} {Z : WX} {d : Addr} {tab : List (Str × W)}
end
def ζs (i j : Nat) (t : DA') : DS' := fun D ω S => t ω S fun ws S1 => match ws with
  | [v, w] => D.nx ((ω.set i (some v)).set j (some w)) S1
  | _ => False
section
variable {X : Cx} {Z : WX}
theorem ds_par2 {i j : Nat} {x y : Str} {a b : Expr} {t : DA'} {px py pt pos : Pos} {kt k2 pt2} (hN : X.N.Nodup) (ha : DA X Z [a, b] t) (hi : X.N[i]? = some x := by rfl) (hj : X.N[j]? = some y := by rfl) (hij : i ≠ j := by decide)
    (hx : X.env.scope.names.lookup x = some .local := by rfl) (hy : X.env.scope.names.lookup y = some .local := by rfl) (hc : X.calm = true := by rfl)
    (hw : swappedStores [.Tuple [.Name x px, .Name y py] kt pt] (.Tuple [a, b] k2 pt2) X.env = pure (some [x, y]) := by rfl)
    (hs : swapsWithSole [.Tuple [.Name x px, .Name y py] kt pt] (.Tuple [a, b] k2 pt2) pos.line X.env = pure false := by rfl) :
    DS X Z (.Assign [.Tuple [.Name x px, .Name y py] kt pt] (.Tuple [a, b] k2 pt2) pos) (ζs i j t) := PS.im (ps_par hc hN hi hj hij hx hy ha hw hs) fun D σ H ⟨ω, S, Dd, a, h, f⟩ => by
  refine ⟨ω, S, _, a, h, fun ws S1 vs H1 x1 r1 q1 h1 => ?_⟩
  split at h1
  · obtain ⟨v, w, rfl, rv, rw'⟩ := q1.two
    exact ⟨v, w, rfl, f.nx _ _ _ _ x1 (((a.to x1 r1).set rv i).set rw' j) h1⟩
  · exact h1.elim
end
def wmerge (kvs more : List (Key × W)) : List (Key × W) := more.foldl (fun acc kv => wput acc kv.1 kv.2) kvs
section
variable {X : Cx} {Z : WX}
theorem wmerge_rel {K : PySem.W.Frag} {S : Sto} {H : Hp} {more : List (Key × W)} {ms : List (Key × V)} (r : RWp K S H more ms) : ∀ {kvs : List (Key × W)} {gs : List (Key × V)}, RWp K S H kvs gs → RWp K S H (wmerge kvs more) (mergeK gs ms) := by
  induction r with
  | nil => intro kvs gs q; exact q
  | @cons p q ps qs h t ih =>
    intro kvs gs r0
    obtain ⟨p1, p2⟩ := p
    obtain ⟨q1, q2⟩ := q
    obtain ⟨h1, h2⟩ := h
    simp only at h1 h2
    subst h1
    exact ih (wput_rel r0 p1 h2)
end
theorem view_c_non {S : Sto} : view S .non = .non := rfl
theorem view_c_bl {S : Sto} {b : Bool} : view S (.bl b) = (.bl b) := rfl
theorem view_c_int {S : Sto} {i : Int} : view S (.int i) = (.int i) := rfl
theorem view_c_str {S : Sto} {x : Str} : view S (.str x) = (.str x) := rfl
theorem view_c_tup {S : Sto} {xs : List W} : view S (.tup xs) = (.tup xs) := rfl
theorem view_c_lst {S : Sto} {xs : List W} : view S (.lst xs) = (.lst xs) := rfl
theorem view_c_scr {S : Sto} {ns : List Int} : view S (.scr ns) = (.scr ns) := rfl
theorem view_c_dct {S : Sto} {ks : List Key} {ws : List W} : view S (.dct ks ws) = (.dct ks ws) := rfl
theorem view_c_ins {S : Sto} {C : Addr} {ns : List Str} {ws : List W} : view S (.ins C ns ws) = (.ins C ns ws) := rfl
theorem wkey_int {i : Int} : wkey (.int i) = some (.inl i) := rfl
theorem wkey_str {x : Str} : wkey (.str x) = some (.inr x) := rfl
theorem atI_n {α : Type} {xs : List α} {j : Nat} (h : j < xs.length) : L2.atI xs (j : Int) = xs[j]? := by
  unfold L2.atI L2.ixN
  have h1 : ¬ ((j : Int) < 0) := by omega
  have h2 : ((j : Int) < (xs.length : Int)) := by omega
  simp [h1, h2]
theorem atI_0 {α : Type} {x : α} {xs : List α} : L2.atI (x :: xs) 0 = some x := (atI_n (j := 0) (by simp)).trans rfl
theorem atI_1 {α : Type} {x y : α} {xs : List α} : L2.atI (x :: y :: xs) 1 = some y := (atI_n (j := 1) (by simp)).trans rfl
theorem atI_2 {α : Type} {x y z : α} {xs : List α} : L2.atI (x :: y :: z :: xs) 2 = some z := (atI_n (j := 2) (by simp)).trans rfl
theorem atI_3 {α : Type} {x y z w : α} {xs : List α} : L2.atI (x :: y :: z :: w :: xs) 3 = some w := (atI_n (j := 3) (by simp)).trans rfl
theorem tru_non {S : Sto} : tru S .non = some false := rfl
theorem isi_int_non {S : Sto} : isi S .int .non = some false := rfl
theorem isi_bool_non {S : Sto} : isi S .bool .non = some false := rfl
theorem isi_str_non {S : Sto} : isi S .str .non = some false := rfl
theorem isi_tup_non {S : Sto} : isi S .tup .non = some false := rfl
theorem isi_lst_non {S : Sto} : isi S .lst .non = some false := rfl
theorem tru_bl {S : Sto} {b : Bool} : tru S (.bl b) = some b := rfl
theorem isi_int_bl {S : Sto} {b : Bool} : isi S .int (.bl b) = some true := rfl
theorem isi_bool_bl {S : Sto} {b : Bool} : isi S .bool (.bl b) = some true := rfl
theorem isi_str_bl {S : Sto} {b : Bool} : isi S .str (.bl b) = some false := rfl
theorem isi_tup_bl {S : Sto} {b : Bool} : isi S .tup (.bl b) = some false := rfl
theorem isi_lst_bl {S : Sto} {b : Bool} : isi S .lst (.bl b) = some false := rfl
theorem tru_int {S : Sto} {i : Int} : tru S (.int i) = some (i != 0) := rfl
theorem isi_int_int {S : Sto} {i : Int} : isi S .int (.int i) = some true := rfl
theorem isi_bool_int {S : Sto} {i : Int} : isi S .bool (.int i) = some false := rfl
theorem isi_str_int {S : Sto} {i : Int} : isi S .str (.int i) = some false := rfl
theorem isi_tup_int {S : Sto} {i : Int} : isi S .tup (.int i) = some false := rfl
theorem isi_lst_int {S : Sto} {i : Int} : isi S .lst (.int i) = some false := rfl
theorem tru_str {S : Sto} {x : Str} : tru S (.str x) = some ((x.length : Int) != 0) := rfl
theorem isi_int_str {S : Sto} {x : Str} : isi S .int (.str x) = some false := rfl
theorem isi_bool_str {S : Sto} {x : Str} : isi S .bool (.str x) = some false := rfl
theorem isi_str_str {S : Sto} {x : Str} : isi S .str (.str x) = some true := rfl
theorem isi_tup_str {S : Sto} {x : Str} : isi S .tup (.str x) = some false := rfl
theorem isi_lst_str {S : Sto} {x : Str} : isi S .lst (.str x) = some false := rfl
theorem tru_tup {S : Sto} {xs : List W} : tru S (.tup xs) = some (!xs.isEmpty) := rfl
theorem isi_int_tup {S : Sto} {xs : List W} : isi S .int (.tup xs) = some false := rfl
theorem isi_bool_tup {S : Sto} {xs : List W} : isi S .bool (.tup xs) = some false := rfl
theorem isi_str_tup {S : Sto} {xs : List W} : isi S .str (.tup xs) = some false := rfl
theorem isi_tup_tup {S : Sto} {xs : List W} : isi S .tup (.tup xs) = some true := rfl
theorem isi_lst_tup {S : Sto} {xs : List W} : isi S .lst (.tup xs) = some false := rfl
theorem tru_lst {S : Sto} {xs : List W} : tru S (.lst xs) = some (!xs.isEmpty) := rfl
theorem isi_int_lst {S : Sto} {xs : List W} : isi S .int (.lst xs) = some false := rfl
theorem isi_bool_lst {S : Sto} {xs : List W} : isi S .bool (.lst xs) = some false := rfl
theorem isi_str_lst {S : Sto} {xs : List W} : isi S .str (.lst xs) = some false := rfl
theorem isi_tup_lst {S : Sto} {xs : List W} : isi S .tup (.lst xs) = some false := rfl
theorem isi_lst_lst {S : Sto} {xs : List W} : isi S .lst (.lst xs) = some true := rfl
theorem isL_lst {S : Sto} {xs : List W} : isL S (.lst xs) = true := rfl
theorem isL_ref {S : Sto} {a : Addr} {xs : List W} (h : S a = some (.lst xs)) : isL S (.ref a) = true := by simp only [isL, view, h]
theorem view_ref {S : Sto} {a : Addr} {xs : List W} (h : S a = some (.lst xs)) : view S (.ref a) = .lst xs := by simp only [view, h]
theorem seqW_lst {S : Sto} {xs : List W} : seqW S (.lst xs) = some xs := rfl
theorem seqW_tup {S : Sto} {xs : List W} : seqW S (.tup xs) = some xs := rfl
theorem seqW_str {S : Sto} {x : Str} : seqW S (.str x) = some (x.cps.toList.map fun c => W.str ⟨#[c]⟩) := rfl
theorem seqW_scr {S : Sto} {ns : List Int} : seqW S (.scr ns) = some (ns.map W.int) := rfl
theorem sq2_lst {S : Sto} {xs : List W} : sq2 S (.lst xs) = some xs := rfl
theorem sq2_tup {S : Sto} {xs : List W} : sq2 S (.tup xs) = some xs := rfl
theorem inW_sign {S : Sto} {z : Str} {c : Nat} : inW S (.str ⟨#[c]⟩) (.str z) = some (decide (c ∈ z.cps.toList)) := rfl
theorem lcF {xs : List W} {ok : Sto → Prop} {S1 : Sto} {T : Tg} {tt : DT'} {te : DE'} {own : List Nat} {ω : Om} {Q : WQ} (f : W → Bool) (g : W → W) (hl : xs.length ≤ 1000000) (hok : ∀ p acc, S1 p = none → ok (up S1 p (.lst acc)))
    (hb : ∀ w ∈ xs, ∃ ω2, ζt T w (wp ω own) = some ω2 ∧ ∀ p acc, S1 p = none → (∀ Qt : Bool → Sto → Prop, Qt (f w) (up S1 p (.lst acc)) → tt ω2 (up S1 p (.lst acc)) Qt) ∧ (f w = true → ∀ Qe : WQ, Qe (g w) (up S1 p (.lst acc)) → te ω2 (up S1 p (.lst acc)) Qe))
    (q : Q (.lst ((xs.filter f).map g)) S1) : ∀ p, S1 p = none → ∃ P : Nat → List W → Sto → Prop, P 0 [] (up S1 p (.lst [])) ∧ (∀ i acc S', P i acc S' → ok S' ∧ S' p = some (.lst acc)) ∧
      (∀ i w acc S', xs[i]? = some w → P i acc S' → ∃ ω2, ζt T w (wp ω own) = some ω2 ∧ tt ω2 S' fun b S3 => if b = true then te ω2 S3 fun v S4 => ∃ acc', S4 p = some (.lst acc') ∧ acc'.length < 1000000 ∧ P (i + 1) (acc' ++ [v]) (up S4 p (.lst (acc' ++ [v]))) else ∃ acc', P (i + 1) acc' S3) ∧
      ∀ acc S', P xs.length acc S' → Q (.lst acc) (del S' p) := by
  intro p hp
  refine ⟨fun i acc S' => acc = ((xs.take i).filter f).map g ∧ S' = up S1 p (.lst acc), ⟨rfl, rfl⟩, ?_, ?_, ?_⟩
  · rintro i acc S' ⟨rfl, rfl⟩
    exact ⟨hok p _ hp, up_same⟩
  · rintro i w acc S' hw ⟨rfl, rfl⟩
    obtain ⟨ω2, e, hb⟩ := hb w (List.mem_of_getElem? hw)
    obtain ⟨h1, h2⟩ := hb p (((xs.take i).filter f).map g) hp
    refine ⟨ω2, e, h1 _ ?_⟩
    have et : (xs.take (i + 1)).filter f = (xs.take i).filter f ++ (if f w = true then [w] else []) := by
      rw [List.take_succ, hw, List.filter_append]
      congr 1
      show List.filter f [w] = _
      rw [List.filter_cons, List.filter_nil]
    cases c : f w with
    | true =>
      rw [if_pos rfl]
      refine h2 c _ ⟨_, up_same, ?_, ?_, by rw [up_up]⟩
      · have l1 : i < xs.length := by
          have := List.getElem?_eq_some_iff.mp hw
          exact this.1
        have l2 : ((xs.take i).filter f).length ≤ (xs.take i).length := List.length_filter_le ..
        have l3 : (xs.take i).length ≤ i := List.length_take_le ..
        rw [List.length_map]
        omega
      · rw [et, c, if_pos rfl, List.map_append]; rfl
    | false =>
      rw [if_neg Bool.false_ne_true]
      refine ⟨_, ?_, rfl⟩
      rw [et, c, if_neg Bool.false_ne_true, List.append_nil]
  · rintro acc S' ⟨rfl, rfl⟩
    rw [List.take_length, del_new hp]
    exact q
theorem lcM {xs : List W} {ok : Sto → Prop} {S1 : Sto} {T : Tg} {te : DE'} {own : List Nat} {ω : Om} {Q : WQ} (g : W → W) (hl : xs.length ≤ 1000000) (hok : ∀ p acc, S1 p = none → ok (up S1 p (.lst acc)))
    (hb : ∀ w ∈ xs, ∃ ω2, ζt T w (wp ω own) = some ω2 ∧ ∀ p acc, S1 p = none → ∀ Qe : WQ, Qe (g w) (up S1 p (.lst acc)) → te ω2 (up S1 p (.lst acc)) Qe)
    (q : Q (.lst (xs.map g)) S1) : ∀ p, S1 p = none → ∃ P : Nat → List W → Sto → Prop, P 0 [] (up S1 p (.lst [])) ∧ (∀ i acc S', P i acc S' → ok S' ∧ S' p = some (.lst acc)) ∧
      (∀ i w acc S', xs[i]? = some w → P i acc S' → ∃ ω2, ζt T w (wp ω own) = some ω2 ∧ dYes ω2 S' fun b S3 => if b = true then te ω2 S3 fun v S4 => ∃ acc', S4 p = some (.lst acc') ∧ acc'.length < 1000000 ∧ P (i + 1) (acc' ++ [v]) (up S4 p (.lst (acc' ++ [v]))) else ∃ acc', P (i + 1) acc' S3) ∧
      ∀ acc S', P xs.length acc S' → Q (.lst acc) (del S' p) := by
  refine lcF (fun _ => true) g hl hok (fun w hw => ?_) ?_
  · obtain ⟨ω2, e, h⟩ := hb w hw
    exact ⟨ω2, e, fun p acc hp => ⟨fun Qt h => h, fun _ => h p acc hp⟩⟩
  · rw [List.filter_eq_self.mpr fun _ _ => rfl]; exact q
theorem seqI_go {ti : DE'} {ω : Om} {S : Sto} {w : W} {xs : List W} {R : List W → (Sto → Prop) → Sto → Prop} (h : ∀ Q' : WQ, Q' w S → ti ω S Q') (hs : seqW S w = some xs) (q : R xs (fun S' => seqW S' w = some xs) S) : ζA ti ω S R := by
  refine h _ ?_
  rw [hs]
  exact q
theorem lcMs {ti te : DE'} {T : Tg} {own : List Nat} {ω : Om} {S : Sto} {Q : WQ} {w : W} {xs : List W} (h : ∀ Q' : WQ, Q' w S → ti ω S Q') (hs : seqW S w = some xs) (g : W → W) (hl : xs.length ≤ 1000000) (hok : ∀ p acc, S p = none → seqW (up S p (.lst acc)) w = some xs)
    (hb : ∀ w ∈ xs, ∃ ω2, ζt T w (wp ω own) = some ω2 ∧ ∀ p acc, S p = none → ∀ Qe : WQ, Qe (g w) (up S p (.lst acc)) → te ω2 (up S p (.lst acc)) Qe)
    (q : Q (.lst (xs.map g)) S) : dLc (ζA ti) T dYes te own ω S Q := seqI_go h hs (lcM g hl hok hb q)
theorem lcFs {ti te : DE'} {tt : DT'} {T : Tg} {own : List Nat} {ω : Om} {S : Sto} {Q : WQ} {w : W} {xs : List W} (h : ∀ Q' : WQ, Q' w S → ti ω S Q') (hs : seqW S w = some xs) (f : W → Bool) (g : W → W) (hl : xs.length ≤ 1000000) (hok : ∀ p acc, S p = none → seqW (up S p (.lst acc)) w = some xs)
    (hb : ∀ w ∈ xs, ∃ ω2, ζt T w (wp ω own) = some ω2 ∧ ∀ p acc, S p = none → (∀ Qt : Bool → Sto → Prop, Qt (f w) (up S p (.lst acc)) → tt ω2 (up S p (.lst acc)) Qt) ∧ (f w = true → ∀ Qe : WQ, Qe (g w) (up S p (.lst acc)) → te ω2 (up S p (.lst acc)) Qe))
    (q : Q (.lst ((xs.filter f).map g)) S) : dLc (ζA ti) T tt te own ω S Q := seqI_go h hs (lcF f g hl hok hb q)
theorem ienum_at' {xs : List W} {i : Nat} {u : W} (h : (ienum xs)[i]? = some u) : ∃ w, xs[i]? = some w ∧ u = .tup [.int (i : Nat), w] := by
  have hi : i < xs.length := by
    have := (List.getElem?_eq_some_iff.mp h).1
    rw [ienum_len] at this
    exact this
  have e : xs[i]? = some xs[i] := List.getElem?_eq_getElem hi
  rw [ienum_at e] at h
  exact ⟨_, e, (Option.some.inj h).symm⟩
theorem forS {ti : DE'} {T : Tg} {tb : DS'} {D : Out} {ω : Om} {S : Sto} {w : W} {xs : List W} (h : ∀ Q' : WQ, Q' w S → ti ω S Q') (hs : seqW S w = some xs) (P : Nat → Om → Sto → Prop) (h0 : P 0 ω S) (hok : ∀ i ω' S', P i ω' S' → seqW S' w = some xs)
    (st : ∀ i w ω' S', xs[i]? = some w → P i ω' S' → ∃ ω2, ζt T w ω' = some ω2 ∧ tb { D with nx := P (i + 1), ct := P (i + 1), bk := D.nx } ω2 S') (fin : ∀ ω' S', P xs.length ω' S' → D.nx ω' S') : dFor (ζA ti) T tb D ω S :=
  seqI_go h hs ⟨P, h0, hok, st, fin⟩
theorem forE {ti : DE'} {T : Tg} {tb : DS'} {D : Out} {ω : Om} {S : Sto} {xs : List W} (h : ∀ Q' : WQ, Q' (.tup xs) S → ti ω S Q') (P : Nat → Om → Sto → Prop) (h0 : P 0 ω S)
    (st : ∀ (i : Nat) w ω' S', xs[i]? = some w → P i ω' S' → ∃ ω2, ζt T (.tup [.int (i : Nat), w]) ω' = some ω2 ∧ tb { D with nx := P (i + 1), ct := P (i + 1), bk := D.nx } ω2 S') (fin : ∀ ω' S', P xs.length ω' S' → D.nx ω' S') : dFor (ζz (ζl ti ζO)) T tb D ω S := by
  refine h _ ⟨P, h0, fun _ _ _ _ => trivial, fun i u ω' S' hu p => ?_, fun ω' S' p => fin ω' S' (by rw [ienum_len] at p; exact p)⟩
  obtain ⟨w, hw, rfl⟩ := ienum_at' hu
  exact st i w ω' S' hw p
theorem forR {ti : DE'} {T : Tg} {tb : DS'} {D : Out} {ω : Om} {S : Sto} {n : Int} (h : ∀ Q' : WQ, Q' (.int n) S → ti ω S Q') (hb : -(2 ^ 62) ≤ n ∧ n < 2 ^ 62) (P : Nat → Om → Sto → Prop) (h0 : P 0 ω S)
    (st : ∀ (i : Nat) ω' S', i < n.toNat → P i ω' S' → ∃ ω2, ζt T (.int (i : Nat)) ω' = some ω2 ∧ tb { D with nx := P (i + 1), ct := P (i + 1), bk := D.nx } ω2 S') (fin : ∀ ω' S', P n.toNat ω' S' → D.nx ω' S') : dFor (ζx (ζl ti ζO)) T tb D ω S := by
  refine h _ ⟨hb, P, h0, fun _ _ _ _ => trivial, fun i u ω' S' hu p => ?_, fun ω' S' p => fin ω' S' (by unfold irange at p; rw [List.length_map, List.length_range] at p; exact p)⟩
  have hi : i < n.toNat := by
    have := (List.getElem?_eq_some_iff.mp hu).1
    unfold irange at this
    rw [List.length_map, List.length_range] at this
    exact this
  have e : (irange 0 n.toNat)[i]? = some (.int (i : Nat)) := by
    unfold irange
    rw [List.getElem?_map, List.getElem?_range hi]
    show some (W.int (0 + (i : Nat))) = _
    rw [Int.zero_add]
  rw [e] at hu
  cases hu
  exact st i ω' S' hi p
theorem view_D {S : Sto} {w : W} (h : isD w = true) : view S w = w := by
  cases w <;> first | rfl | cases h
def Pl : W → Bool
  | .non | .bl _ | .int _ | .str _ | .tup _ | .lst _ => true
  | _ => false
theorem weq_str (a b : Str) : weq (.str a) (.str b) = decide (a = b) := by
  unfold weq pd
  rw [PyData.eqv]
  exact Bool.eq_iff_iff.mpr (by simp)
theorem weq_int (a b : Int) : weq (.int a) (.int b) = decide (a = b) := by
  unfold weq pd
  rw [PyData.eqv]
  exact Bool.eq_iff_iff.mpr (by simp)
def whole : W → Bool
  | .int _ => true
  | _ => false
def within (lo hi : Int) : W → Bool
  | .int i => decide (lo ≤ i) && decide (i ≤ hi)
  | _ => false
def tupIn (lo hi : Int) : W → Bool
  | .tup xs => decide (lo ≤ (xs.length : Int)) && decide ((xs.length : Int) ≤ hi)
  | _ => false
theorem Frz.newL {S : Sto} {t : Addr} {xs : List W} (h : S t = none) : Frz (.ref t) (up S t (.lst xs)) (.lst xs) S := by
  have := Frz.lst (S := up S t (.lst xs)) (p := t) up_same
  rw [del_new h] at this
  exact this
theorem frzL {S : Sto} {t : Addr} {xs : List W} {Q : WQ} (h : S t = none) (q : Q (.lst xs) S) : frzQ Q (.ref t) (up S t (.lst xs)) := ⟨_, _, Frz.newL h, q⟩
theorem frzI {S : Sto} {x dx C : Addr} {fs : List (Str × W)} {Q : WQ} (h : S x = none) (hd : S dx = none) (hne : dx ≠ x) (q : Q (.ins C (fs.map (·.1)) (fs.map (·.2))) S) : frzQ Q (.ref x) (up (up (up S dx (.own x)) x (.ins C dx [])) x (.ins C dx fs)) := by
  refine ⟨_, _, Frz.ins (dx := dx) (fs := fs) up_same, ?_⟩
  have e : del (del (up (up (up S dx (.own x)) x (.ins C dx [])) x (.ins C dx fs)) x) dx = S := by
    funext b
    by_cases c : b = dx
    · subst c; rw [del_same, hd]
    · rw [del_ne c]
      by_cases c2 : b = x
      · subst c2; rw [del_same, h]
      · rw [del_ne c2, up_ne c2, up_ne c2, up_ne c]
  rw [e]
  exact q
abbrev bagO (g s : Int) : WO := .lst [.int g, .int s]
structure BagOk (g s : Int) : Prop where
  g0 : 0 ≤ g
  s0 : 0 ≤ s
  s1 : s < 2147483648
def Bg (S : Sto) (b : Addr) : Prop := ∃ g s, S b = some (bagO g s) ∧ BagOk g s
def aft (S : Sto) (b : Addr) (R : Sto → Prop) : Prop := ∀ g s, BagOk g s → R (up S b (bagO g s))
def primes : List Int := [2147483629, 2147483587, 2147483579, 2147483563, 2147483549, 2147483543, 2147483497, 2147483489]
theorem primes_at (j : Nat) (h : j < 8) : ∃ p : Int, primes[j]? = some p ∧ 0 < p ∧ p < 2147483648 := by
  have q : ∀ j : Nat, j < 8 → ∃ p : Int, primes[j]? = some p ∧ 0 < p ∧ p < 2147483648 := fun j h =>
    match j, h with
    | 0, _ => ⟨_, rfl, by decide, by decide⟩ | 1, _ => ⟨_, rfl, by decide, by decide⟩ | 2, _ => ⟨_, rfl, by decide, by decide⟩ | 3, _ => ⟨_, rfl, by decide, by decide⟩
    | 4, _ => ⟨_, rfl, by decide, by decide⟩ | 5, _ => ⟨_, rfl, by decide, by decide⟩ | 6, _ => ⟨_, rfl, by decide, by decide⟩ | 7, _ => ⟨_, rfl, by decide, by decide⟩
    | n + 8, h => absurd h (by omega)
  exact q j h
theorem atI_toNat {α : Type} {xs : List α} {i : Int} (h0 : 0 ≤ i) (h : i.toNat < xs.length) : L2.atI xs i = xs[i.toNat]? := by
  have e : i = (i.toNat : Int) := (Int.toNat_of_nonneg h0).symm
  rw [e]
  exact atI_n (by omega)
theorem bl_cases {A B : Prop} {b : Bool} (h1 : b = true → A) (h2 : b = false → B) : if b = true then A else B := by
  cases b
  · rw [if_neg Bool.false_ne_true]; exact h2 rfl
  · rw [if_pos rfl]; exact h1 rfl
theorem up_comm {S : Sto} {a b : Addr} {o u : WO} (h : a ≠ b) : up (up S a o) b u = up (up S b u) a o := by
  funext c
  by_cases c1 : c = a
  · subst c1; rw [up_ne h, up_same, up_same]
  · by_cases c2 : c = b
    · subst c2; rw [up_same, up_ne c1, up_same]
    · rw [up_ne c2, up_ne c1, up_ne c1, up_ne c2]
theorem Bg.ne {S : Sto} {b p : Addr} (h : Bg S b) (hp : S p = none) : p ≠ b := by
  obtain ⟨g, s, e, _⟩ := h
  exact fun e' => by subst e'; rw [e] at hp; cases hp
theorem Bg.up {S : Sto} {b : Addr} {g s : Int} (h : BagOk g s) : Bg (up S b (bagO g s)) b := ⟨g, s, up_same, h⟩
end DL
namespace DL
open PySem PySem.Spec PyProof.Rows L2 TL
theorem atI_pick {xs : List W} {r : Int} (h0 : 0 ≤ r) (h1 : r < (xs.length : Int)) : ∃ w, w ∈ xs ∧ L2.atI xs r = some w := by
  have h : r.toNat < xs.length := by omega
  exact ⟨xs[r.toNat], List.getElem_mem .., by rw [atI_toNat h0 h]; exact List.getElem?_eq_getElem h⟩
theorem seqW_ref {S : Sto} {p : Addr} {xs : List W} (h : S p = some (.lst xs)) : seqW S (.ref p) = some xs := by
  unfold seqW
  rw [view_ref h]
theorem forRN {ti : DE'} {T : Tg} {tb : DS'} {D : Out} {ω : Om} {S : Sto} (N : Int → Sto → Prop) (h : ∀ Q' : WQ, (∀ n S1, N n S1 → Q' (.int n) S1) → ti ω S Q')
    (body : ∀ n S1, N n S1 → (-(2 ^ 62) ≤ n ∧ n < 2 ^ 62) ∧ ∃ P : Nat → Om → Sto → Prop, P 0 ω S1 ∧ (∀ (i : Nat) ω' S', i < n.toNat → P i ω' S' → ∃ ω2, ζt T (.int (i : Nat)) ω' = some ω2 ∧ tb { D with nx := P (i + 1), ct := P (i + 1), bk := D.nx } ω2 S') ∧ ∀ ω' S', P n.toNat ω' S' → D.nx ω' S') : dFor (ζx (ζl ti ζO)) T tb D ω S := by
  refine h _ fun n S1 hn => ?_
  obtain ⟨hb, P, h0, st, fin⟩ := body n S1 hn
  refine ⟨hb, P, h0, fun _ _ _ _ => trivial, fun i u ω' S' hu p => ?_, fun ω' S' p => fin ω' S' (by unfold irange at p; rw [List.length_map, List.length_range] at p; exact p)⟩
  have hi : i < n.toNat := by
    have := (List.getElem?_eq_some_iff.mp hu).1
    unfold irange at this
    rw [List.length_map, List.length_range] at this
    exact this
  have e : (irange 0 n.toNat)[i]? = some (.int (i : Nat)) := by
    unfold irange
    rw [List.getElem?_map, List.getElem?_range hi]
    show some (W.int (0 + (i : Nat))) = _
    rw [Int.zero_add]
  rw [e] at hu
  cases hu
  exact st i ω' S' hi p
theorem forSN {ti : DE'} {T : Tg} {tb : DS'} {D : Out} {ω : Om} {S : Sto} (N : List W → Sto → Prop) (h : ∀ Q' : WQ, (∀ xs S1, N xs S1 → Q' (.lst xs) S1) → ti ω S Q')
    (body : ∀ xs S1, N xs S1 → ∃ P : Nat → Om → Sto → Prop, P 0 ω S1 ∧ (∀ i w ω' S', xs[i]? = some w → P i ω' S' → ∃ ω2, ζt T w ω' = some ω2 ∧ tb { D with nx := P (i + 1), ct := P (i + 1), bk := D.nx } ω2 S') ∧ ∀ ω' S', P xs.length ω' S' → D.nx ω' S') : dFor (ζA ti) T tb D ω S := by
  refine h _ fun xs S1 hn => ?_
  obtain ⟨P, h0, st, fin⟩ := body xs S1 hn
  exact ⟨P, h0, fun _ _ _ _ => rfl, st, fin⟩
def sorts : List Str := ["pump", "ladder", "tanker"]
theorem seq_go {t u : DS'} {D : Out} {ω : Om} {S : Sto} (h : t { D with nx := u D } ω S) : ζU t u D ω S := h
theorem set_go {i : Nat} {te : DE'} {D : Out} {ω : Om} {S : Sto} (w : W) (S1 : Sto) (h : ∀ Q : WQ, Q w S1 → te ω S Q) (k : D.nx (ω.set i (some w)) S1) : ζY i te D ω S := h _ k
theorem asgT_go {T : Tg} {te : DE'} {D : Out} {ω ω' : Om} {S : Sto} (w : W) (S1 : Sto) (h : ∀ Q : WQ, Q w S1 → te ω S Q) (e : ζt T w ω = some ω') (k : D.nx ω' S1) : ζr T te D ω S := by
  refine h _ ?_
  rw [e]
  exact k
theorem ret_go {te : DE'} {D : Out} {ω : Om} {S : Sto} (h : te ω S D.rt) : ζV te D ω S := h
end DL
namespace DL
open PySem PySem.Spec PyProof.Rows L2
def isDc (S : Sto) : W → Bool
  | .ref a => match S a with
    | some (.dK _) => true
    | _ => false
  | _ => false
section
variable {K : PySem.W.Frag} {S : Sto} {H H' : Hp}
end
section
variable {X : Cx} {tg : Expr} {body : List Stmt} {T : Tg} {tb : DS'} {pos p : Pos} {x : Str} {i : Nat}
end
end DL
namespace My
open PySem PySem.Spec PyProof.Rows L2 PpSet
section
variable {X : Cx}
end
end My
namespace DL
open PySem PySem.Spec PyProof.Rows L2 PpSet
instance memKey (k : Key) (ks : List Key) : Decidable (k ∈ ks) := @List.instDecidableMemOfLawfulBEq Key instBEqOfDecidableEq inferInstance k ks
section
variable {K : PySem.W.Frag} {S : Sto} {H H' : Hp} {D : Addr}
end
section
variable {X : Cx} {Z : WX}
def pm {α : Type} (ix : List Nat) (l : List α) : List α := ix.filterMap (l[·]?)
end
end DL
namespace My
open PySem PySem.Spec PyProof.Rows L2 PpSet
def keyO : Value → Key
  | .int i _ => .inl i
  | .str x _ => .inr x
  | _ => .inl 0
theorem keyO_of {k : Key} {v : Value} (h : keyIs k v = true) : keyO v = k := by
  rcases keyIs_shape h with ⟨i, t, rfl, rfl⟩ | ⟨x, t, rfl, rfl⟩ <;> rfl
theorem scan_of {k : Key} {v : Value} (h : keyIs k v = true) : v.scannable = true := by
  rcases keyIs_shape h with ⟨i, t, rfl, rfl⟩ | ⟨x, t, rfl, rfl⟩ <;> rfl
structure Put (w : World) (es : Array (Int × Value)) (t : SetTable) (ks : List Key) : Prop where
  row : ∀ e ∈ es.toList, ∃ k, keyIs k e.2 = true ∧ e.1 = keyH w k
  keys : (es.toList.map fun e => keyO e.2).Perm ks
  nd : ks.Nodup
  few : ks.length < scanBound
  fit : t.fits es.size = true
  ris : Ris t.place.toList
  led : w.params.followText "set-order" = true ∨ t.led = true
def WalkK (w : World) (h : Heap) (a : Addr) (ks : List Key) : Prop := ∃ o es ep t, h.get? a = some o ∧ o.ExactSet ∧ o.data = .set es ep t ∧ Put w es t ks
section
variable {P : Program} {w : World} {es : Array (Int × Value)} {t : SetTable} {ks : List Key}
theorem Put.size (p : Put w es t ks) : es.size = ks.length := by
  have := p.keys.length_eq
  rw [List.length_map, Array.length_toList] at this
  exact this
theorem Put.small (p : Put w es t ks) : es.size < scanBound := by rw [p.size]; exact p.few
theorem Put.elems (p : Put w es t ks) : ElemsOf (mixKind P w) es.toList := fun e he => by
  obtain ⟨k, h1, h2⟩ := p.row e he
  exact ⟨⟨k, h1, h2⟩, scan_of h1⟩
theorem Put.mem (p : Put w es t ks) (k : Key) : k ∈ ks ↔ ∃ e ∈ es.toList, keyIs k e.2 = true := by
  rw [← p.keys.mem_iff, List.mem_map]
  refine ⟨fun ⟨e, he, q⟩ => ⟨e, he, ?_⟩, fun ⟨e, he, q⟩ => ⟨e, he, keyO_of q⟩⟩
  obtain ⟨k', h1, _⟩ := p.row e he
  have e2 := keyO_of h1
  rw [q] at e2
  rw [e2]
  exact h1
theorem Put.relaid (p : Put w es t ks) (n : Nat) : Put w (relayAll t es n).1 (relayAll t es n).2.1 ks := by
  have pm := relayAll_perm t es n
  exact ⟨fun e he => p.row e (pm.mem_iff.mp he), (pm.map _).trans p.keys, p.nd, p.few, relayAll_fits t es n, relayAll_ris t es n, by rw [relayAll_led t es n]; exact p.led⟩
theorem Put.new (p : Put w es t ks) {k : Key} {x : Value} (hx : keyIs k x = true) (hk : k ∉ ks) (room : ks.length + 1 < scanBound) : Put w (layNew t es (keyH w k) x).1 (layNew t es (keyH w k) x).2.1 (ks ++ [k]) := by
  have pm := layNew_perm t es (keyH w k) x
  rw [Array.toList_push] at pm
  refine ⟨fun e he => ?_, ?_, ?_, ?_, layNew_fits t es _ x, layNew_ris t es _ x p.ris, by rw [layNew_led t es]; exact p.led⟩
  · rcases List.mem_append.mp (pm.mem_iff.mp he) with z | z
    · exact p.row e z
    · rw [List.mem_singleton.mp z]
      exact ⟨k, hx, rfl⟩
  · refine (pm.map _).trans ?_
    rw [List.map_append]
    show List.Perm (_ ++ [keyO x]) _
    rw [keyO_of hx]
    exact p.keys.append_right _
  · exact List.nodup_append.mpr ⟨p.nd, by simp, fun a ha b hb e => hk (by rw [List.mem_singleton.mp hb] at e; exact e ▸ ha)⟩
  · rw [List.length_append]
    exact room
theorem Put.off (p : Put w es t ks) : Put w es { t with plain := false } ks := ⟨p.row, p.keys, p.nd, p.few, SetTable.fits_plain_off p.fit, p.ris, p.led⟩
theorem Put.at {h : Heap} {a : Addr} {o : Obj} {es0 : Array (Int × Value)} {ep : Nat} {t0 : SetTable} (p : Put w es t ks) (ho : h.get? a = some o) (hx : o.ExactSet) (hd : o.data = .set es0 ep t0) :
    ∃ o', (h.update a (Obj.putSet es t)).get? a = some o' ∧ o'.ExactSet ∧ o'.data = .set es (ep + 1) t := ⟨{ o with data := .set es (ep + 1) t }, L2.store_at ho hd, hx, rfl⟩
theorem WalkK.keep {h h' : Heap} {a : Addr} (R : WalkK w h a ks) (k : ∀ o, h.get? a = some o → h'.get? a = some o) : WalkK w h' a ks := by
  obtain ⟨o, es, ep, t, ho, r⟩ := R
  exact ⟨o, es, ep, t, k o ho, r⟩
instance inK (k : Key) (ks : List Key) : Decidable (k ∈ ks) := @List.instDecidableMemOfLawfulBEq Key instBEqOfDecidableEq inferInstance k ks
def addL (ks : List Key) (k : Key) : List Key := if k ∈ ks then ks else ks ++ [k]
end
section
variable {P : Program} {w : World} {A : Around} {E : Value → Shared → Prop} {s : Shared} {a : Addr}
theorem put_end {gv : Bool → Sem Unit} (hg : ∀ (b : Bool) (s1 : Shared) (Q1 : Unit → Shared → Prop), Q1 () s1 → wpAny (model P w) A (gv b) Q1 E s1) {o : Obj} {es0 es : Array (Int × Value)} {ep : Nat} {t0 t : SetTable} {ks : List Key} {c : Bool} {Q : Option Bool → Shared → Prop}
    (ho : s.heap.get? a = some o) (hx : o.ExactSet) (hd : o.data = .set es0 ep t0) (p : Put w es t ks) (q : ∀ h', Heap.SameBut a s.heap h' → WalkK w h' a ks → Q (some true) { s with heap := h' }) :
    wpAny (model P w) A (storeSet a es t >>= fun _ => if (!c && t.tooFull) = true then
        (gv (relayAll t es (SetTable.grown es.size)).2.2 >>= fun _ => storeSet a (relayAll t es (SetTable.grown es.size)).1 (relayAll t es (SetTable.grown es.size)).2.1 >>= fun _ => pure (some true))
      else pure (some true)) Q E s := by
  obtain ⟨o1, h1, x1, d1⟩ := p.at ho hx hd
  have b1 := Heap.SameBut.update s.heap a (Obj.putSet es t)
  refine wpAny_bind (wpAny_storeSet_of ho hd ?_ (fits_of_scanBound p.small))
  by_cases f : (!c && t.tooFull) = true
  · have p2 := p.relaid (SetTable.grown es.size)
    obtain ⟨o2, h2, x2, d2⟩ := p2.at h1 x1 d1
    rw [if_pos f]
    exact wpAny_bind (hg _ _ _ (wpAny_bind (wpAny_storeSet_of h1 d1 (wpAny_pure (q _ (b1.trans (Heap.SameBut.update _ a _)) ⟨o2, _, _, _, h2, x2, d2, p2⟩)) (fits_of_scanBound p2.small))))
  · rw [if_neg f]
    exact wpAny_pure (q _ b1 ⟨o1, _, _, _, h1, x1, d1, p⟩)
theorem walk_add {ks : List Key} {k : Key} {x : Value} {Q : Bool → Shared → Prop} (hx : keyIs k x = true) (R : WalkK w s.heap a ks) (room : ks.length + 1 < scanBound)
    (q : ∀ b h', Heap.SameBut a s.heap h' → WalkK w h' a (addL ks k) → Q b { s with heap := h' }) : wpAny (model P w) A (setAddHashed a x (keyH w k)) Q E s := by
  obtain ⟨o, es, ep, t, ho, ex, hd, p⟩ := R
  have el : ElemsOf (mixKind P w) es.toList := p.elems
  have gv : ∀ (b : Bool) (s1 : Shared) (Q1 : Unit → Shared → Prop), Q1 () s1 → wpAny (model P w) A (match b with | true => rule "set.scan.the-table-gave-way" | false => pure ()) Q1 E s1 := fun b s1 Q1 h => by
    cases b
    · exact wpAny_pure h
    · exact wpAny_rule h
  unfold setAddHashed setAddHashedIn
  refine wpAny_holding (wpAny_bind (wpAny_setState_of ho hd p.fit ?_))
  simp only [byScan_of (scan_of hx) p.small el, ↓reduceIte]
  unfold setAddByScan
  refine wpAny_bind (wpAny_bind (wpAny_rule (wpAny_bind (wpAny_setScan_of (knd := mixKind P w) (k := k) hx ho hd p.fit el ?_))))
  cases hf : List.findIdx? (fun e => (mixKind P w).is k e.2) es.toList with
  | some j =>
    obtain ⟨hj, pj, _⟩ := List.findIdx?_eq_some_iff_getElem.mp hf
    have hm : k ∈ ks := (p.mem k).mpr ⟨_, List.getElem_mem hj, pj⟩
    have q0 := q false s.heap (Heap.SameBut.refl a s.heap) (by unfold addL; rw [if_pos hm]; exact ⟨o, es, ep, t, ho, ex, hd, p⟩)
    exact wpAny_pure (wpAny_pure q0)
  | none =>
    have hm : k ∉ ks := fun z => by
      obtain ⟨e, he, y⟩ := (p.mem k).mp z
      have c := List.findIdx?_eq_none_iff.mp hf e he
      exact Bool.false_ne_true (c.symm.trans y)
    have p1 := p.new hx hm room
    have q1 := fun h' sb (r : WalkK w h' a (ks ++ [k])) => q true h' sb (by unfold addL; rw [if_neg hm]; exact r)
    dsimp only [mixKind]
    generalize layNew t es (keyH w k) x = Z at p1 ⊢
    obtain ⟨es1, t1, c, g⟩ := Z
    dsimp only at p1 ⊢
    refine wpAny_bind (gv _ _ _ ?_)
    by_cases hp : t1.plain = true
    · rw [if_pos hp]
      refine wpAny_bind ?_
      rw [hashByValue_scannable 8 (scan_of hx)]
      refine wpAny_pure (put_end gv ho ex hd ?_ fun h' sb r => wpAny_pure (q1 h' sb r))
      split
      · exact p1
      · exact p1.off
    · rw [if_neg hp]
      refine wpAny_bind (wpAny_pure ?_)
      exact put_end gv ho ex hd p1 fun h' sb r => wpAny_pure (q1 h' sb r)
end
end My
namespace My
open PySem PySem.Spec PyProof.Rows L2 PpSet
def onceK (ks : List Key) : List Key := ks.foldl addL []
theorem onceK_step {ks : List Key} {i : Nat} {k : Key} (h : ks[i]? = some k) : onceK (ks.take (i + 1)) = addL (onceK (ks.take i)) k := by
  unfold onceK
  rw [List.take_succ, h, List.foldl_append]
  rfl
theorem addL_len (ks : List Key) (k : Key) : (addL ks k).length ≤ ks.length + 1 := by
  unfold addL
  split
  · omega
  · rw [List.length_append]; exact Nat.le_refl _
theorem onceK_len (ks : List Key) : ∀ i, i ≤ ks.length → (onceK (ks.take i)).length ≤ i
  | 0, _ => by simp [onceK]
  | i + 1, h => by
    rw [onceK_step (List.getElem?_eq_getElem (by omega))]
    have := onceK_len ks i (by omega)
    have := addL_len (onceK (ks.take i)) (ks[i]'(by omega))
    omega
section
variable {P : Program} {w : World} {A : Around} {E : Value → Shared → Prop} {s : Shared}
theorem walk_new {h : Heap} {a : Addr} (ho : h.get? a = some { cls := .type "set", dict := none, data := .set #[] 0 (.fresh 0 0 (!w.params.followText "set-order")) }) : WalkK w h a [] :=
  ⟨_, _, _, _, ho, ⟨rfl, rfl, rfl⟩, rfl, fun e he => (by simp at he), List.Perm.refl _, List.nodup_nil, by decide, rfl, List.Pairwise.nil, by
    cases hb : w.params.followText "set-order"
    · exact .inr rfl
    · exact .inl rfl⟩
theorem upd_keys {I S : Addr} {fp wr : List Addr} {G : Array GenState → Array GenState → Prop} {n : Nat} {Pv : Nat → Value → Prop} {St : Nat → Shared → Prop} {R : Result → Shared → Prop} {ks : List Key}
    (W : WalksS P w A.in1 I fp wr G n Pv St) (hS : S ∉ fp) (hn : n = ks.length) (room : ks.length + 1 < scanBound) (val : ∀ i v, Pv i v → ∃ k, ks[i]? = some k ∧ keyIs k v = true) :
    ∀ (j i : Nat) (s : Shared), i + j = n → St i s → WalkK w s.heap S (onceK (ks.take i)) → (∀ s', Moved (S :: wr) G s s' → WalkK w s'.heap S (onceK ks) → R (.ok (.ret .none)) s') →
      codeAny (model P w) A (.builtin "set.update.loop" ⟨[.ref S, .ref I], []⟩) R s := by
  have nS : S ∉ wr := fun h => hS (W.sub _ h)
  have more : ∀ b ∈ wr, b ∈ S :: wr := fun b hb => List.mem_cons_of_mem _ hb
  intro j
  induction j with
  | zero =>
    intro i s e st K done
    subst hn
    rw [Nat.add_zero] at e
    subst e
    rw [List.take_length] at K
    refine codeAny_builtin F.entry_set_update_loop ?_
    rw [Around.under_plainId F.plain_set_update_loop _]
    refine wpAny_bind (W.done s _ _ st fun s' mv => ?_)
    exact wpAny_pure (done s' (mv.mono more) (K.keep fun o q => mv.heap S o nS q))
  | succ j ih =>
    intro i s e st K done
    refine codeAny_builtin F.entry_set_update_loop ?_
    rw [Around.under_plainId F.plain_set_update_loop _]
    refine wpAny_bind (W.item i s _ _ (by omega) st fun v s' pv st' mv => ?_)
    obtain ⟨k, hk, kv⟩ := val i v pv
    have K' : WalkK w s'.heap S (onceK (ks.take i)) := K.keep fun o q => mv.heap S o nS q
    have := onceK_len ks i (by omega)
    show wpAny _ A.in1 (holding [v] (setAdd S v) >>= _) _ _ s'
    refine wpAny_bind (wpAny_holding ?_)
    unfold setAdd
    refine wpAny_holding (wpAny_bind ((mixKind P w).pyHash (k := k) kv ?_))
    refine walk_add kv K' (by omega) fun b h' sb K2 => ?_
    rw [← onceK_step hk] at K2
    have oth : ∀ c, c ≠ S → ∀ o, s'.heap.get? c = some o → h'.get? c = some o := fun c nc o q => by rw [sb.2 c nc]; exact q
    refine wpAny_pure ⟨plainId_quiet F.plain_set_update_loop _, ih (i + 1) _ (by omega) (W.frame _ s' _ _ st' (Nat.le_add_right _ _) fun c hc o q => oth c (fun z => hS (z ▸ hc)) o q) K2 fun s2 mv2 K3 => ?_⟩
    exact done s2 (Moved.trans W.gtrans ((mv.mono more).then_heap (Nat.le_add_right _ _) fun c o hc q => oth c (fun z => hc (z ▸ List.mem_cons_self)) o q) mv2) K3
theorem set_list {l : Addr} {items : Array Value} {ks : List Key} {Q : Value → Shared → Prop} (hh : A.handled = none) (hl : s.heap.IsList l items) (hn : items.size = ks.length) (val : ∀ (i : Nat) (v : Value), items[i]? = some v → ∃ k, ks[i]? = some k ∧ keyIs k v = true) (room : ks.length + 1 < scanBound)
    (q : ∀ (h' : Heap) (tk : Nat), WalkK w h' s.heap.objs.size (onceK ks) → (∀ b o, s.heap.get? b = some o → h'.get? b = some o) → Q (.ref s.heap.objs.size) { s with heap := h', toks := tk }) :
    wpAny (model P w) A (call (.type "set") [.ref l]) Q E s := by
  obtain ⟨D, hD⟩ : ∃ D, D = s.heap.objs.size := ⟨_, rfl⟩
  obtain ⟨h1, eh1⟩ : ∃ h1, h1 = s.heap.push { cls := .type "set", dict := none, data := .set #[] 0 (.fresh 0 0 (!w.params.followText "set-order")) } := ⟨_, rfl⟩
  have at1 : h1.get? D = some { cls := .type "set", dict := none, data := .set #[] 0 (.fresh 0 0 (!w.params.followText "set-order")) } := by rw [eh1, hD]; exact Heap.get?_push_size _ rfl
  have old1 : ∀ b o, s.heap.get? b = some o → h1.get? b = some o := fun b o e => by rw [eh1]; exact Heap.get?_push_of_some _ e
  have z1 : h1.objs.size = D + 1 := by rw [eh1, hD]; exact Heap.size_push ..
  have ty : Shared.TypeIs { s with heap := h1 } (.ref D) "set" := ⟨_, at1, rfl⟩
  obtain ⟨c, tl, mro⟩ := F.called_set.mro
  have f1 := F.called_set.made
  have f2 := F.called_set.sub
  have f3 := F.called_set.notType
  have f4 := F.called_set.canCreate
  have f5 := F.typeCall_set_1 (.ref l)
  refine wpAny_call (codeAny_of_tree ?_)
  show wpAny _ _ (callAny (.type "set") _) _ _ _
  refine wpAny_pure ⟨Code.quiet_builtin _ (by decide +kernel), codeAny_builtin F.entry_type_call ?_⟩
  rw [Around.under_plain (weight_type_call_type "set" [.ref l] []) rfl]
  repeat (any_goals (first | assumption | wp_step))
  refine codeAny_mono (code_set_led1 (.ref l) (E := E) (Q₁ := fun v s1 => v = .ref D ∧ s1 = { s with heap := h1 }) ⟨by rw [hD], by rw [eh1]⟩) fun r s1 hr => ?_
  rcases r with e | fl
  · exact hr
  cases fl with
  | ret v =>
    obtain ⟨rfl, rfl⟩ := hr
    have f6 := F.called_set.init.lookup
    have f7 := F.called_set.init.bind (.ref D)
    repeat (any_goals (first | assumption | wp_step))
    refine codeAny_mono (codeAny_call_builtin (R := wants (fun v s2 => v = .none ∧ ∃ h' tk, s2 = { s with heap := h', toks := tk } ∧ WalkK w h' D (onceK ks) ∧ ∀ b o, s.heap.get? b = some o → h'.get? b = some o) E) F.called_set.init.plain F.entry_set_init (check_set_init_1 ty ?_)) fun r s2 hr => ?_
    · have hl1 : h1.IsList l items := by
        obtain ⟨o, ho, r⟩ := hl
        exact ⟨o, old1 l o ho, r⟩
      obtain ⟨o, ho, hc, n, hd⟩ := _root_.id hl1
      obtain ⟨cls, dct, data, sl⟩ := o
      simp only at hc hd
      subst hc hd
      have hlD : l < D := by
        obtain ⟨o, ho, _⟩ := hl
        rw [hD]
        exact Heap.lt_size ho
      have f8 := F.sub_list_set
      have f9 := F.sub_list_frozenset
      have fA : (Value.type "list" == Value.type "dict") = false := by decide
      have hh3 : A.in1.in1.in1.handled = none := by simp [hh]
      unfold Builtin.«set.__init__» noKeywords Builtin.Frozenset.updateFrom
      generalize hPI : pyIter = PI
      wp_walk
      subst hPI
      refine wpAny_pyIter_list hl1 (wpAny_bind (wpAny_runValue ?_))
      have nf : D ∉ [h1.objs.size, l] := by
        rw [z1]
        simp only [List.mem_cons, List.not_mem_nil, or_false, not_or]
        exact ⟨Nat.ne_of_lt (Nat.lt_succ_self _), Nat.ne_of_gt hlD⟩
      refine upd_keys ((Walks.list hh3 _ l (by rw [z1]; exact Nat.ne_of_lt (Nat.lt_succ_of_lt hlD)) items).toS) nf hn room val items.size 0 _ (by omega) ⟨⟨_, Heap.get?_push_size _ rfl, rfl, rfl⟩, hl1.push _⟩ (walk_new (Heap.get?_push_of_some _ at1)) fun s3 mv K => ?_
      have eq3 : s3 = { s with heap := s3.heap, toks := s3.toks } := by
        have e1 := mv.gens
        have e2 := mv.drawn
        have e3 := mv.os
        cases s3
        cases s
        simp_all
      rw [eq3]
      refine wpAny_pure (wpAny_pure ⟨rfl, s3.heap, s3.toks, rfl, K, fun b o e => ?_⟩)
      have hb : b < D := by rw [hD]; exact Heap.lt_size e
      refine mv.heap b o (fun z => ?_) (Heap.get?_push_of_some _ (old1 b o e))
      rcases List.mem_cons.mp z with z | z
      · exact Nat.lt_irrefl _ (z ▸ hb)
      · have z := List.mem_singleton.mp z
        rw [z1] at z
        exact Nat.lt_irrefl _ (Nat.lt_trans (Nat.lt_succ_self _) (z ▸ hb))
    · rcases r with e | fl
      · exact hr
      cases fl with
      | ret v =>
        obtain ⟨rfl, h', tk, rfl, K, old⟩ := hr
        repeat (any_goals (first | assumption | wp_step))
        rw [hD] at K ⊢
        exact q h' tk K old
      | _ => exact hr.elim
  | _ => exact hr.elim
end
end My
namespace My
open PySem PySem.Spec PyProof.Rows L2 PpSet PySem.W
section
variable {P : Program} {w : World} {A : Around} {E : Value → Shared → Prop} {s : Shared} {a : Addr}
end
end My
namespace My
open PySem PySem.Spec PyProof.Rows L2 PpSet PySem.W
section
variable {X : Cx}
end
end My
namespace DL
open PySem PySem.Spec PyProof.Rows L2 PpSet
section
variable {X : Cx} {Z : WX}
theorem rws_ints {K : PySem.W.Frag} {S : Sto} {H : Hp} : ∀ {ns : List Int} {vs : List V}, RWs K S H (ns.map W.int) vs → vs = ns.map V.int
  | [], _, .nil => rfl
  | n :: ns, _, .cons h t => by
    cases h
    rw [rws_ints t]
    rfl
def dSumI : DC' := fun ws S Q => match ws with
  | [w] => ∃ ns : List Int, view S w = .lst (ns.map W.int) ∧ Q (.int ns.sum) S
  | _ => False
theorem cd_sum (hc : X.calm = true := by rfl) : CD X (.builtin "sum") dSumI := CallR.im (cr_sum hc) fun xs H Q ⟨ws, S, Qd, r, rs, q, fi⟩ => by
  unfold dSumI at q
  split at q
  · obtain ⟨v, rfl, r1⟩ := rs.one
    obtain ⟨ns, e, q⟩ := q
    obtain ⟨a, vs, rfl, h1, q1⟩ := view_lst r r1 e
    have := rws_ints q1
    subst this
    exact ⟨a, ns, rfl, .inl (.inl h1), fi.one r (.int _) q⟩
  · exact q.elim
def dAugI (i : Nat) (te : DE') : DS' := fun D ω S => ∃ n : Int, ω.s[i]? = some (some (.int n)) ∧ te ω S fun w S1 => ∃ m : Int, w = .int m ∧ D.nx (ω.set i (some (.int (n + m)))) S1
theorem ds_augI {i : Nat} {x : Str} {e : Expr} {te : DE'} {pos pos' : Pos} (hN : X.N.Nodup) (he : DE X Z e te) (hi : X.N[i]? = some x := by rfl) (hx : Loc X.env.scope x := by first | exact .inl rfl | exact .inr rfl)
    (hf : X.fn x = true ∨ X.env.scope.names.lookup x = some .local := by first | exact .inl rfl | exact .inr rfl | assumption) : DS X Z (.AugAssign (.Name x pos') .Add e pos) (dAugI i te) := PS.im (ps_aug (ti := rI0 fun i j => .int (i + j)) hN hi hx he iop_add hf) fun D σ H ⟨ω, S, Dd, a, ⟨n, en, h⟩, f⟩ => by
  obtain ⟨v, ev, r⟩ := a.rs.at' i _ en
  cases r
  refine ⟨.int n, ev, ω, S, _, a, h, fun w S1 v H1 x1 r1 q1 ⟨m, e, h1⟩ => ?_⟩
  subst e
  cases q1
  exact ⟨n, m, rfl, rfl, f.nx _ _ _ _ x1 ((a.to x1 r1).set (.int _) i) h1⟩
end
end DL
namespace DL
open PySem PySem.Spec PyProof.Rows L2
section
variable {X : Cx} {Z : WX}
end
end DL
namespace DL
open PySem PySem.Spec PyProof.Rows L2 TL
theorem var_go {i : Nat} {ω : Om} {S : Sto} {Q : WQ} {w : W} (h : ω.s[i]? = some (some w)) (q : Q w S) : ζB i ω S Q := by
  unfold ζB
  rw [h]
  exact q
theorem ifE_go {t : DT'} {ta tb : DE'} {ω : Om} {S : Sto} {Q : WQ} (h : t ω S fun c S1 => if c = true then ta ω S1 Q else tb ω S1 Q) : dIf t ta tb ω S Q := h
theorem setN_go {i : Nat} {te : DE'} {D : Out} {ω : Om} {S : Sto} (N : W → Sto → Prop) (h : ∀ Q : WQ, (∀ w S1, N w S1 → Q w S1) → te ω S Q) (k : ∀ w S1, N w S1 → D.nx (ω.set i (some w)) S1) : ζY i te D ω S := h _ k
theorem par_go {i j : Nat} {t : DA'} {D : Out} {ω : Om} {S : Sto} (N : W → W → Sto → Prop) (h : ∀ Q : List W → Sto → Prop, (∀ w u S1, N w u S1 → Q [w, u] S1) → t ω S Q) (k : ∀ w u S1, N w u S1 → D.nx ((ω.set i (some w)).set j (some u)) S1) : ζs i j t D ω S := h _ k
theorem drop_go {te : DE'} {D : Out} {ω : Om} {S : Sto} (h : te ω S fun _ S1 => D.nx ω S1) : ζq te D ω S := h
theorem bm_go {rd : DM'} {to : DE'} {t : DA'} {ω : Om} {S : Sto} {Q : WQ} (h : to ω S fun w S1 => isL S1 w = true ∧ t ω S1 fun ws S2 => rd w ws S2 Q) : dBM rd to t ω S Q := h
theorem cut_take {α : Type} {xs : List α} {i : Nat} (h : i ≤ xs.length) : cut xs none (some (i : Int)) = xs.take i := by
  unfold cut
  have e1 : HT.sIx xs.length 0 none = 0 := rfl
  have e2 : HT.sIx xs.length xs.length (some (i : Int)) = i := by
    rw [HT.sIx_nat]
    omega
  rw [e1, e2, List.drop_zero, Nat.sub_zero]
theorem cut_drop {α : Type} {xs : List α} {i : Nat} (h : i ≤ xs.length) : cut xs (some (i : Int)) none = xs.drop i := by
  unfold cut
  have e1 : HT.sIx xs.length xs.length none = xs.length := rfl
  have e2 : HT.sIx xs.length 0 (some (i : Int)) = i := by
    rw [HT.sIx_nat]
    omega
  rw [e1, e2, List.take_of_length_le]
  rw [List.length_drop]
  exact Nat.le_refl _
theorem cut_drop1 {α : Type} {xs : List α} {i : Nat} (h : i + 1 ≤ xs.length) : cut xs (some ((i : Int) + 1)) none = xs.drop (i + 1) := by
  have : ((i : Int) + 1) = ((i + 1 : Nat) : Int) := by omega
  rw [this]; exact cut_drop h
theorem or_b {ta tb : DT'} {ω : Om} {S : Sto} {Q : Bool → Sto → Prop} {a b : Bool} (ha : ∀ Q : Bool → Sto → Prop, Q a S → ta ω S Q) (hb : a = false → ∀ Q : Bool → Sto → Prop, Q b S → tb ω S Q) (q : Q (a || b) S) : dOr ta tb ω S Q := by
  refine ha _ ?_
  cases a with
  | true => exact q
  | false => exact hb rfl _ q
theorem and_b {ta tb : DT'} {ω : Om} {S : Sto} {Q : Bool → Sto → Prop} {a b : Bool} (ha : ∀ Q : Bool → Sto → Prop, Q a S → ta ω S Q) (hb : a = true → ∀ Q : Bool → Sto → Prop, Q b S → tb ω S Q) (q : Q (a && b) S) : ζL ta tb ω S Q := by
  refine ha _ ?_
  cases a with
  | true => exact hb rfl _ q
  | false => exact q
theorem not_b {ta : DT'} {ω : Om} {S : Sto} {Q : Bool → Sto → Prop} {a : Bool} (ha : ∀ Q : Bool → Sto → Prop, Q a S → ta ω S Q) (q : Q (!a) S) : ζM ta ω S Q := ha _ q
theorem if_b {c : DT'} {t u : DS'} {D : Out} {ω : Om} {S : Sto} (b : Bool) (h : ∀ Q : Bool → Sto → Prop, Q b S → c ω S Q) (ht : b = true → t D ω S) (hf : b = false → u D ω S) : ζW c t u D ω S := by
  refine h _ ?_
  cases b with
  | true => rw [if_pos rfl]; exact ht rfl
  | false => rw [if_neg Bool.false_ne_true]; exact hf rfl
theorem Om.set_self {ω : Om} {i : Nat} {w : W} (h : ω.s[i]? = some (some w)) : ω.set i (some w) = ω := by
  obtain ⟨s, ex⟩ := ω
  show (⟨s.set i (some w), ex⟩ : Om) = ⟨s, ex⟩
  congr 1
  refine List.ext_getElem? fun j => ?_
  by_cases c : i = j
  · subst c
    have h' : s[i]? = some (some w) := h
    rw [List.getElem?_set_self (List.getElem?_eq_some_iff.mp h').1, h']
  · rw [List.getElem?_set_ne c]
theorem ifset_go {c : DT'} {i : Nat} {te : DE'} {D : Out} {ω : Om} {S : Sto} (b : Bool) (N : W → Prop) (hc : ∀ Q : Bool → Sto → Prop, Q b S → c ω S Q) (ht : b = true → ∀ Q : WQ, (∀ w, N w → Q w S) → te ω S Q) (h0 : ∃ w0, ω.s[i]? = some (some w0) ∧ N w0) (k : ∀ w, N w → D.nx (ω.set i (some w)) S) : ζW c (ζY i te) ζp D ω S := by
  refine if_b b hc (fun e => ht e _ k) (fun e => ?_)
  obtain ⟨w0, h1, h2⟩ := h0
  have := k w0 h2
  rw [Om.set_self h1] at this
  exact this
theorem stN_go {t : DS'} {D : Out} {ω : Om} {S : Sto} (N : Om → Sto → Prop) (h : ∀ D' : Out, (∀ ω S, N ω S → D'.nx ω S) → t D' ω S) (k : ∀ ω S, N ω S → D.nx ω S) : t D ω S := h D k
end DL
namespace DL
open PySem PySem.Spec PyProof.Rows L2
def num (i : Int) : Str := Str.ofString (toString i)
def digB (x : Str) : Bool := x.cps.toList.all fun c => decide (48 ≤ c) && decide (c ≤ 57)
def numOk (n : Nat) : Bool := digB (num n) && (decide (1 ≤ (num n).length) && (decide ((num n).length ≤ 3) && (svb (num n) && (decide (PySem.NumText.digitsVal (num n).cps.toList = n) && ((decide (n = 0) || !decide ((num n).cps.toList.head? = some 48)) && (!decide (n = 0) || decide (num n = ("0" : Str))))))))
theorem num_all : ∀ n, n < 1000 → numOk n = true := by decide +kernel
theorem dig_iff {x : Str} : digB x = true ↔ ∀ c ∈ x.cps.toList, 48 ≤ c ∧ c ≤ 57 := by
  unfold digB
  rw [List.all_eq_true]
  constructor
  · intro h c hc
    have := h c hc
    rw [Bool.and_eq_true, decide_eq_true_iff, decide_eq_true_iff] at this
    exact this
  · intro h c hc
    rw [Bool.and_eq_true, decide_eq_true_iff, decide_eq_true_iff]
    exact h c hc
structure NumOk (n : Nat) : Prop where
  dig : digB (num n) = true
  lo : 1 ≤ (num n).length
  hi : (num n).length ≤ 3
  sv : DL.sv (num n)
  val : PySem.intText? (num n) = some (n : Int)
  hd : n ≠ 0 → (num n).cps.toList.head? ≠ some 48
  zero : n = 0 → num n = ("0" : Str)
theorem num_ok {n : Nat} (h : n < 1000) : NumOk n := by
  have := num_all n h
  unfold numOk at this
  simp only [Bool.and_eq_true, decide_eq_true_eq, Bool.or_eq_true, Bool.not_eq_true', decide_eq_false_iff_not] at this
  obtain ⟨h1, h2, h3, h4, h5, h6, h7⟩ := this
  refine ⟨h1, h2, h3, h4, ?_, fun hn => h6.resolve_left hn, fun hn => h7.resolve_left (fun c => c hn)⟩
  have hl : (num n).cps.toList.length = (num n).length := by rw [Array.length_toList]; rfl
  rw [PySem.intText_digits (x := num n) (dig_iff.mp h1) (fun e => by rw [e] at hl; simp at hl; omega) (by omega), h5]
section
variable {X : Cx} {Z : WX}
def dSplit (to te : DE') : DE' := fun ω S Q => to ω S fun a S1 => ∃ x, a = .str x ∧ te ω S1 fun b S2 => ∃ y, b = .str y ∧ x.length ≤ 1000000 ∧ (y.length == 0) = false ∧ (∀ z ∈ Txt.split x y, sv z) ∧ Q (.lst ((Txt.split x y).map W.str)) S2
theorem de_split {o e : Expr} {to te : DE'} {apos pos : Pos} (ho : DE X Z o to) (he : DE X Z e te) (hs : starEach [e] X.env = [(false, eval e X.env)] := by rfl) (hbase : attributeBase o "split" X.env (eval o X.env) = eval o X.env := by rfl) (hline : (apos.endLine == pos.line) = true := by rfl) :
    DE X Z (.Call (.Attribute o "split" apos) [e] [] pos) (dSplit to te) := PE.im (pe_split ho he hs hbase hline) fun σ H Q ⟨ω, S, Qd, a, h, f⟩ => by
  refine ⟨ω, S, _, a, h, fun w S1 v H1 x1 r1 q1 h1 => ?_⟩
  obtain ⟨x, rfl, h1⟩ := h1
  cases q1 with | str _ okx =>
    refine ⟨⟨_, rfl⟩, ω, S1, _, a.to x1 r1, h1, fun w2 S2 v2 H2 x2 r2 q2 h2 => ?_⟩
    obtain ⟨y, rfl, hl, hy, hz, hq⟩ := h2
    cases q2 with | str _ oky =>
      refine ⟨x, _, rfl, rfl, hy, Nat.le_trans (Nat.add_le_add_right hl 2) (by decide), fun p np => ?_⟩
      exact f _ _ _ _ (x1.trans (x2.trans (Nx.new np))) (r2.new np) (.lst upd_same (r2.free np) ((RWs.strs hz).mono (Nx.new np))) hq
end
open Builtin in
def two (i : Int) : Str := if i < 10 then Str.ofString "0" ++ Str.ofString (toString i) else Str.ofString (toString i)
section
variable {X : Cx} {e o : Expr} {te to : TE}
end
section
variable {X : Cx} {Z : WX}
end
end DL
namespace DL
open PySem PySem.Spec PyProof.Rows L2
section
variable {X : Cx} {Z : WX}
end
section
variable {P : Program} {w : World} {K : PySem.W.Frag} {mg : Str → Option Value} {base : Heap}
end
def Flat (K : PySem.W.Frag) (us : List W) (dvs : List V) : Prop := ∀ S H, RWs K S H us dvs
section
variable {X : Cx} {Z : WX} {e : Expr} {es : List Expr} {t tk : DA'} {C : Addr} {x : Str} {pos p : Pos} {k j : Nat} {dsp : DSp}
end
end DL
namespace My
open PySem PySem.Spec PyProof.Rows L2
section
variable {X : Cx} {n : Nat} {CX : CXT} {C f : Addr} {fd : FuncData} {ps : List PySem.Str} {sp : Sp} {E : XK} {pins : List (Addr × Obj)} {σ : L2.St} {H : Hp} {s : Shared}
theorem run_sub {A : Around} {us : List Value} {vs : List V} {Q : VK} (F : FnOk X.prog X.w X.K X.mg X.base CX n f fd ps sp) (hb : Binds X.K fd ps []) (hx : Passes CX X E) (sb : Sub X n A)
    (I : Inv X pins σ H s) (r : Vals vs us) (h : sp vs H Q E) : wpAny (model X.prog X.w) A (call (.ref f) us) (EP X pins σ Q) X.xe s := by
  have e0 : Env0 X.prog X.w X.K X.mg X.base A X.stack s H := by
    have e := I.env0
    exact ⟨by rw [sb.fr]; exact e.frames, e.mod, e.bs, e.bsz, e.funs, e.frf, e.hok, e.bare⟩
  have hl : us.length = ps.length := by rw [← r.length]; exact F.len _ _ _ _ h
  have b := hb s us I.kIn (by rw [List.append_nil]; exact hl)
  rw [List.append_nil] at b
  refine wpAny_call (codeAny_mono (F.run A X.stack s H ⟨us, []⟩ us vs Q E sb.room e0 b r h) fun r s' hq => ?_)
  cases r with
  | error e => exact hx pins σ H s e s' I hq
  | ok fl =>
    cases fl with
    | ret w => exact I.after hq
    | next => exact False.elim hq
    | brk => exact False.elim hq
    | cont => exact False.elim hq
def TyL (X : Cx) (H : Hp) (y : V) (t : Value) : Prop := ∀ (pins : List (Addr × Obj)) (σ : L2.St) (s : Shared) (v : Value), Inv X pins σ H s → RelV y v → PySem.W.Looks (model X.prog X.w) s.heap (typeOf v) t
theorem TyL.of {y : V} {t : Value} (h : TyX X.K H y t) : TyL X H y t := fun pins σ s v I r => by
  obtain ⟨P, Z, p, _⟩ := kit_of I r h
  exact Z.ty _ _ I.kIn p
theorem TyL.ins {b dy : Addr} {gs : List (PySem.Str × V)} (h : H b = some (.ins C dy gs)) : TyL X H (.ref b) (.ref C) := fun pins σ s v I r => by
  cases r
  obtain ⟨mB, J, _⟩ := ins_get I.hok h
  obtain ⟨od, J, _⟩ := J.look
  exact J.type
end
end My
namespace My
open PySem PySem.Spec PyProof.Rows L2 PySem.W
section
variable {prog : Program} {w : World} {A : Around} {E : Value → Shared → Prop} {s : Shared} {K : Frag} {x C f L : Addr} {ox : Obj} {od : Option Obj} {h₀ : Heap} {m : PySem.Str → Option Value} {b tb : Value}
theorem ifBound_B {M : Model} {name : PySem.Str} {id : String} {args : List Value} {Q : Option Value → Shared → Prop} (X : K.In s.heap) (I : InstAt s.heap x ox C od) (hs : findIn K (.ref C) name = some (some (.builtin id)))
    (hb : ∀ self, bindSpecial (.builtin id) self = pure (.builtin id, [self])) (h : wpAny M A (call (.builtin id) (.ref x :: args)) (fun v => Q (some v)) E s) : wpAny M A (callSpecialIfBound? (.ref x) name args) Q E s := by
  simp only [callSpecialIfBound?, bindSpecialIfBound?]
  refine wpAny_holding (wpAny_bind (wpAny_bind (wpAny_bind (I.type.here ((looks_findIn X hs).here ?_)))))
  refine wpAny_bind (wpAny_askSetting (wpAny_ite ?_))
  have fin : wpAny M A (call (.builtin id) ([.ref x] ++ args) >>= fun v => pure (some v)) Q E s := wpAny_bind (wpAny_mono h (fun v s' h' => wpAny_pure h') fun _ _ h' => h')
  split
  · exact wpAny_bind ((Looks.of_pure (hb _)).here (wpAny_pure (by exact fin)))
  · exact wpAny_tryCatch (wpAny_bind ((Looks.of_pure (hb _)).here (wpAny_pure (by exact fin))))
open Builtin in
theorem ne_K {Q : Value → Shared → Prop} (hu : A.units < cLine) (hu1 : A.in1.units < cLine) (F : Fr h₀ L s.heap m) (X₀ : K.In h₀) (I : InstAt s.heap x ox C od) (hb : Looks (model prog w) s.heap (typeOf b) tb) (hn : notFirst K C tb = true)
    (hne : findIn K (.ref C) "__ne__" = some (some (.builtin "object.__ne__"))) (hm : mroIn K C (.type "object") = some true) (hs : findIn K (.ref C) "__eq__" = some (some (.ref f))) (hf : isFn K (.ref f) = true)
    (h : wpAny (model prog w) A.in1 (call (.ref f) [.ref x, b]) (fun v s' => ∃ r, v = .bool r ∧ Q (.bool (!r)) s') E s) : wpAny (model prog w) A (richCompare .NotEq (.ref x) b) Q E s := by
  have X := X₀.keeps F.keep
  have one : wpAny (model prog w) A (tryCompare (.ref x) "__ne__" b) (fun r s' => ∃ v, r = some v ∧ Q v s') E s := by
    unfold tryCompare
    refine wpAny_bind (ifBound_B X I hne PySem.F.cmp_object.ne.bind ?_)
    refine wpAny_call (codeAny_call_builtin PySem.F.cmp_object.ne.plain PySem.F.cmpEntry_ne (check_slot PySem.F.cmpKind_ne PySem.F.cmpSplit_ne (I.type.andThen (looks_mroIn X hm)) (PySem.F.cmpArgs_ne _ _) ?_))
    unfold Builtin.«object.__ne__»
    refine wpAny_bind (m := slotArgs "__ne__" 1 _) (wpAny_pure ?_)
    refine wpAny_bind (m := cRoomFor _ _) (wpAny_cRoomFor hu1 ?_)
    refine wpAny_bind (m := callSpecialIfBound? (.ref x) (Str.ofString "__eq__") _) (ifBound_K X I hs hf (wpAny_mono h (fun v s' hv => ?_) fun _ _ e => e))
    obtain ⟨r, rfl, hq⟩ := hv
    show wpAny _ _ (truthy (.bool r) >>= _) _ _ _
    refine wpAny_bind (wpAny_truthy_bool ?_)
    exact wpAny_pure (wpAny_pure ⟨_, rfl, hq⟩)
  unfold richCompare
  simp only [oneThing_ref]
  refine wpAny_holding (wpAny_bind (wpAny_cRoomFor hu ?_))
  rw [cmpInfo_NotEq]
  dsimp only
  refine wpAny_bind (I.type.here (wpAny_bind (hb.here ?_)))
  split
  · rename_i q
    have e : subIn K tb (.ref C) = some false := by
      rcases Bool.or_eq_true_iff.mp hn with e | e
      · rw [beq_iff_eq.mp e] at q; simp at q
      · exact beq_iff_eq.mp e
    refine wpAny_bind ((looks_subIn X e).here ?_)
    simp only [Bool.false_eq_true, if_false]
    refine wpAny_bind (wpAny_mono one (fun r s' z => ?_) fun _ _ e => e)
    obtain ⟨v, rfl, hq⟩ := z
    exact wpAny_pure hq
  · refine wpAny_bind (wpAny_pure ?_)
    simp only [Bool.false_eq_true, if_false]
    refine wpAny_bind (wpAny_mono one (fun r s' z => ?_) fun _ _ e => e)
    obtain ⟨v, rfl, hq⟩ := z
    exact wpAny_pure hq
end
end My
namespace My
open PySem PySem.Spec PyProof.Rows L2
section
variable {X : Cx} {n : Nat} {CX : CXT} {C f : Addr} {fd : FuncData} {ps : List PySem.Str} {sp : Sp} {E : XK} {pins : List (Addr × Obj)} {σ : L2.St} {H : Hp} {s : Shared}
def rNeO (X : Cx) (C : Addr) (sp : Sp) (E : XK) : R2 := fun x y H Q => ∃ a dx fs t, x = .ref a ∧ H a = some (.ins C dx fs) ∧ TyL X H y t ∧ PySem.W.notFirst X.K C t = true ∧ sp [.ref a, y] H (fun z H' => ∃ b, z = .bl b ∧ Q (.bl (!b)) H') E
theorem op_neO (F : FnOk X.prog X.w X.K X.mg X.base CX n f fd ps sp) (hne : PySem.W.findIn X.K (.ref C) "__ne__" = some (some (.builtin "object.__ne__"))) (hm : PySem.W.mroIn X.K C (.type "object") = some true)
    (hs : PySem.W.findIn X.K (.ref C) "__eq__" = some (some (.ref f))) (hf : PySem.W.isFn X.K (.ref f) = true) (hb : Binds X.K fd ps []) (hx : Passes CX X E) (hr : Room (n + 1) X.A) :
    OpR X (compareOp .NotEq) (rNeO X C sp E) := by
  intro pins s σ H x y v u Q I rx ry hq
  obtain ⟨a, dx, fs, t, rfl, ha, ty, nf, q⟩ := hq
  cases rx
  show wpAny (model X.prog X.w) X.A (richCompare .NotEq (.ref a) u) (EP X pins σ Q) X.xe s
  obtain ⟨mA, J, _⟩ := ins_get I.hok ha
  obtain ⟨od, J, _⟩ := J.look
  obtain ⟨m, hF⟩ := I.fr
  have sb : Sub X (n + 1) X.A := ⟨hr, rfl⟩
  refine ne_K (tb := t) sb.room.units0 sb.in1.room.units0 hF I.ok.mod.kin J (ty pins σ s u I ry) nf hne hm hs hf ?_
  refine wpAny_mono (run_sub F hb hx sb.in1 I (.cons (show RelV (.ref a) (.ref a) from rfl) (.cons ry .nil)) q) (fun r s' hq => ?_) fun _ _ x => x
  obtain ⟨z, H', I', rz, b, rfl, q⟩ := hq
  cases rz
  exact ⟨b, rfl, .bl _, H', I', rfl, q⟩
end
end My
namespace MyQ
open PySem PySem.SeqAt
open AutoSeq1 (wpAny_loadPart')
open MeetsSeq MeetsSeq2 MeetsSeq3 SeqRoads2
section
variable {prog : Program} {w : World} {A : Around} {R : Result → Shared → Prop}
end
end MyQ
namespace MyQ
open PySem PySem.SeqAt
open AutoSeq1 (wpAny_loadPart')
open MeetsSeq MeetsSeq2 MeetsSeq3 SeqRoads2
section
variable {prog : Program} {w : World} {A : Around} {R : Result → Shared → Prop}
end
end MyQ
namespace My
open PySem PySem.Spec PyProof.Rows L2
section
variable {X : Cx} {n : Nat} {CX : CXT} {C f : Addr} {fd : FuncData} {ps : List PySem.Str} {sp : Sp} {E : XK} {D : Eqv}
end
end My
namespace DL
open PySem PySem.Spec PyProof.Rows L2 My
mutual
/-- a tree without a thing of the store -/
def nr : W → Bool
  | .ref _ => false
  | .exc _ _ _ _ => false
  | .lam _ _ _ _ _ => false
  | .tup xs | .lst xs => nrs xs
  | .dct _ xs => nrs xs
  | .dctT _ xs => nrs xs
  | .ins _ _ xs => nrs xs
  | _ => true
def nrs : List W → Bool
  | [] => true
  | w :: ws => nr w && nrs ws
end
def S0 : Sto := fun _ => none
section
variable {K : PySem.W.Frag} {S : Sto} {H H' : Hp}
mutual
theorem RW.bare : ∀ {w : W} {v : V}, RW K S H w v → nr w = true → RW K S0 H w v
  | _, _, .non, _ => .non
  | _, _, .bl b, _ => .bl b
  | _, _, .int i, _ => .int i
  | _, _, .str y ok, _ => .str y ok
  | _, _, .ty n, _ => .ty n
  | _, _, .tup h n r, d => .tup h rfl (RWs.bare r d)
  | _, _, .tupK h r, d => .tupK h (RWs.bare r d)
  | _, _, .lst h n r, d => .lst h rfl (RWs.bare r d)
  | _, _, .scr h, _ => .scr (h.elim (fun ⟨z, n⟩ => .inl ⟨z, rfl⟩) .inr)
  | _, _, .dct h n e r, d => .dct h rfl e (RWs.bare r d)
  | _, _, .ins h o n m e r, d => .ins h o rfl rfl e (RWs.bare r d)
  | _, _, .ref a, d => nomatch d
  | _, _, .excN a, d => nomatch d
  | _, _, .exc .., d => nomatch d
  | _, _, .lam .., d => nomatch d
  | _, _, .dctT h n e r, d => .dctT h rfl e (RWs.bare r d)
theorem RWs.bare : ∀ {ws : List W} {vs : List V}, RWs K S H ws vs → nrs ws = true → RWs K S0 H ws vs
  | _, _, .nil, _ => .nil
  | _, _, .cons h t, d => by
    rw [nrs, Bool.and_eq_true] at d
    exact .cons (RW.bare h d.1) (RWs.bare t d.2)
end
theorem rel0 : Rel K S0 H := fun _ _ h => nomatch h
theorem Nx.ext {S1 : Sto} (x : Nx S0 H S1 H') : ∀ b o, H b = some o → H' b = some o := fun b o h => x.keep b o h rfl
theorem Nx.ofExt (x : ∀ b o, H b = some o → H' b = some o) : Nx S H S H' := ⟨fun b o h _ => x b o h, fun _ _ _ n => n⟩
theorem Rel.ext (r : Rel K S H) (x : ∀ b o, H b = some o → H' b = some o) : Rel K S H' := fun a o ho => by
  have N : Nx S H S H' := Nx.ofExt x
  cases r a o ho with
  | lst h q => exact .lst (x _ _ h) (q.mono N)
  | dK h q => exact .dK (x _ _ h) (RWp.mono N q)
  | dT h q => exact .dT (x _ _ h) (RWp.mono N q)
  | ins h m q => exact .ins (x _ _ h) m (RWp.mono N q)
  | own h => exact .own (x _ _ h)
  | tup h q => exact .tup (x _ _ h) (q.mono N)
  | tab h t c => exact .tab (x _ _ h) t fun pos cv hc => let ⟨c, e1, e2, e3⟩ := c pos cv hc; ⟨c, e1, x _ _ e2, e3⟩
  | tabF h => exact .tabF (x _ _ h)
end
def oth : List String := ["NoneType", "bool", "tuple", "str", "int", "list"]
def NotFst (K : PySem.W.Frag) (C : Addr) : Prop := ∀ T ∈ oth, PySem.W.notFirst K C (.type T) = true
def isIns (C : Addr) : W → Bool
  | .ins D _ _ => decide (D = C)
  | _ => false
def tyO (C : Addr) (w : W) : Bool := Pl w || isIns C w
theorem ty_tree {X : Cx} {C : Addr} {S : Sto} {H : Hp} {w : W} {v : V} (r : Rel X.K S H) (h : RW X.K S H w v) (nf : NotFst X.K C) (ht : tyO C w = true) : ∃ t, TyL X H v t ∧ PySem.W.notFirst X.K C t = true := by
  have ty := ty_of r h
  cases w <;> first | cases ht | skip
  case non => exact ⟨_, TyL.of ty, nf _ (by decide)⟩
  case bl => exact ⟨_, TyL.of ty, nf _ (by decide)⟩
  case int => exact ⟨_, TyL.of ty, nf _ (by decide)⟩
  case str => exact ⟨_, TyL.of ty, nf _ (by decide)⟩
  case tup => exact ⟨_, TyL.of ty, nf _ (by decide)⟩
  case lst => exact ⟨_, TyL.of ty, nf _ (by decide)⟩
  case ins D ns ws =>
    have e : D = C := of_decide_eq_true (by simpa [tyO, Pl, isIns] using ht)
    subst e
    cases h with
    | ins h o n m e r => exact ⟨.ref D, TyL.ins h, by simp [PySem.W.notFirst]⟩
def dEqO (C : Addr) (dsp : DSp) (neg : Bool) : D2 := fun a b S Q => isIns C a = true ∧ nr a = true ∧ tyO C b = true ∧ nr b = true ∧ ∃ r : Bool, dsp [a, b] S0 (fun z _ => z = .bl r) X0 ∧ Q (.bl (if neg = true then !r else r)) S
theorem eqO_core {X : Cx} {C : Addr} {dsp : DSp} {neg : Bool} {x y : V} {H : Hp} {Q : VK} (nf : NotFst X.K C) (h : uR X.K (dEqO C dsp neg) x y H Q) :
    ∃ a dx fs t, x = .ref a ∧ H a = some (.ins C dx fs) ∧ TyL X H y t ∧ PySem.W.notFirst X.K C t = true ∧ uSp X.K dsp [.ref a, y] H (fun z H' => ∃ b, z = .bl b ∧ Q (.bl (if neg = true then !b else b)) H') (fun _ _ _ => False) := by
  obtain ⟨w1, w2, S, Qd, r, r1, r2, ⟨hi, n1, ht, n2, b, hd, hq⟩, fi⟩ := h
  obtain ⟨t, ty, nfr⟩ := ty_tree r r2 nf ht
  cases w1 <;> first | cases hi | skip
  rename_i D ns ws
  have e : D = C := of_decide_eq_true hi
  subst e
  have r1' := r1
  cases r1' with
  | @ins a _ dx _ _ vs hH ho n m e rs =>
    refine ⟨a, dx, _, t, rfl, hH, ty, nfr, [.ins D ns ws, w2], S0, _, X0, rel0, .cons (RW.bare r1 n1) (.cons (RW.bare r2 n2) .nil), hd, fun w S' v H' x _ q hw => ?_, .zero⟩
    subst hw
    cases q
    exact ⟨b, rfl, fi _ S _ H' (Nx.ofExt (Nx.ext x)) (r.ext (Nx.ext x)) (.bl _) hq⟩
section
variable {X : Cx} {n : Nat} {C f : Addr} {fd : FuncData} {ps : List PySem.Str} {dsp : DSp}
theorem oc_neO (F : FnOk X.prog X.w X.K X.mg X.base CX0 n f fd ps (uSp X.K dsp)) (hne : PySem.W.findIn X.K (.ref C) "__ne__" = some (some (.builtin "object.__ne__"))) (hm : PySem.W.mroIn X.K C (.type "object") = some true) (hs : PySem.W.findIn X.K (.ref C) "__eq__" = some (some (.ref f))) (hf : PySem.W.isFn X.K (.ref f) = true) (hb : Binds X.K fd ps []) (nf : NotFst X.K C) {j : Nat} (hr : Room j X.A) (hj : n + 1 ≤ j := by decide) : OD X (compareOp .NotEq) (dEqO C dsp true) :=
  fun pins s σ H x y v u Q I rx ry h => op_neO F hne hm hs hf hb pass0 (hr.mono hj) pins s σ H x y v u Q I rx ry (by
    obtain ⟨a, dx, fs, t, h1, h2, h3, h4, h5⟩ := eqO_core nf h
    exact ⟨a, dx, fs, t, h1, h2, h3, h4, h5⟩)
end
section
variable {X : Cx} {S : Sto} {H : Hp} {pins : List (Addr × Obj)} {σ : L2.St} {s : Shared}
end
section
variable {X : Cx} {n : Nat} {C f : Addr} {fd : FuncData} {ps : List PySem.Str} {dsp : DSp}
end
end DL
namespace MyQ
open PySem PySem.SeqAt
open AutoSeq1 (wpAny_loadPart')
open MeetsSeq MeetsSeq2 MeetsSeq3 SeqRoads2
section
variable {prog : Program} {w : World} {A : Around} {R : Result → Shared → Prop}
end
end MyQ
namespace DL
open PySem PySem.Spec PyProof.Rows L2 My
section
variable {X : Cx} {Z : WX} {n : Nat} {C f : Addr} {fd : FuncData} {ps : List PySem.Str} {dsp : DSp}
structure OwnC (K : PySem.W.Frag) (C : Addr) : Prop where
  cl : Cls K C
  ha : PySem.W.findIn K (.ref C) "__class__" = some (some (.builtin "object.__class__"))
  hn : PySem.W.specialIn K (.builtin "object.__class__") "__get__" = some (some (.builtin "getset_descriptor.__get__"))
  htk : PySem.W.takesIn K (.builtin "object.__class__") = some true
  hm : PySem.W.mroIn K C (.type "object") = some true
  kt : PySem.W.kitOne K (.ref C) (.ref C) = some true
  kf : ∀ T ∈ oth, PySem.W.kitOne K (.type T) (.ref C) = some false
def dIsO (C : Addr) : W → Sto → WQ → Prop := fun w S Q => tyO C w = true ∧ Q (.bl (isIns C w)) S
theorem ty_own {S : Sto} {H : Hp} {w : W} {v : V} (O : OwnC X.K C) (r : Rel X.K S H) (h : RW X.K S H w v) (ht : tyO C w = true) : ∃ t, TyX X.K H v t ∧ PySem.W.kitOne X.K t (.ref C) = some (isIns C w) := by
  have ty := ty_of r h
  cases w <;> first | cases ht | skip
  case non => exact ⟨_, ty, O.kf _ (by decide)⟩
  case bl => exact ⟨_, ty, O.kf _ (by decide)⟩
  case int => exact ⟨_, ty, O.kf _ (by decide)⟩
  case str => exact ⟨_, ty, O.kf _ (by decide)⟩
  case tup => exact ⟨_, ty, O.kf _ (by decide)⟩
  case lst => exact ⟨_, ty, O.kf _ (by decide)⟩
  case ins D ns ws =>
    have e : D = C := of_decide_eq_true (by simpa [tyO, Pl, isIns] using ht)
    subst e
    cases h with
    | ins h o n m e r => exact ⟨.ref D, .base (.ins h O.cl O.ha O.hn O.htk O.hm), by rw [O.kt]; simp [isIns]⟩
theorem de_isiO {a : Expr} {ta : DE'} {x : Str} {p p2 pos : Pos} (O : OwnC X.K C) (ha : DE X Z a ta) (hm : X.mg "isinstance" = none) (hx : X.mg x = some (.ref C)) (hg : Gl X "isinstance" := by rfl) (hgx : Gl X x := by rfl) (hd : (x == ("__debug__" : Str)) = false := by decide)
    (he : starEach [a, .Name x p2] X.env = (false, eval a X.env) :: starEach [.Name x p2] X.env := by rfl) (he2 : starEach [.Name x p2] X.env = (false, eval (.Name x p2) X.env) :: starEach [] X.env := by rfl) (hpl : (backTo pos (starEach [.Name x p2] X.env)).any (·.1) = false := by rfl) :
    DE X Z (.Call (.Name "isinstance" p) [a, .Name x p2] [] pos) (dUn (dIsO C) ta) :=
  PE.im (pe_callB (id := "isinstance") call_isi hg hm (by decide +kernel) (pa_cons ha (pa_cons (pe_glob (v := .ref C) hgx hx rfl (hd := hd)) pa_nil he2) he) (by decide) (by decide) he hpl) fun σ H Q ⟨ω, S, Qd, a, h, f⟩ => by
    refine ⟨ω, S, _, a, h, fun w S1 v H1 x1 r1 q1 h1 => ?_⟩
    show rIsi X.K [v, .ref C] H1 Q
    obtain ⟨ht, h1⟩ := h1
    obtain ⟨t, ty, k⟩ := ty_own O r1 q1 ht
    exact ⟨v, _, t, _, _, rfl, .own C, ty, k, f _ _ _ _ x1 r1 (.bl _) h1⟩
end
section
variable {X : Cx} {Z : WX} {n : Nat} {C f : Addr} {fd : FuncData} {ps : List PySem.Str} {dsp : DSp}
end
end DL
namespace DL
open PySem PySem.Spec PyProof.Rows L2
section
variable {X : Cx} {Z : WX} {tg iter elt : Expr} {ifs : List Expr} {di : DI'} {T : Tg} {tt : DT'} {te : DE'} {pos : Pos} {scope : Scope} {own : List (Str × Nat)}
end
section
variable (P : Program) (w : World) (K : PySem.W.Frag) (mg : Str → Option Value) (base : Heap) (k : Nat)
def MakD (x : Str) (C : Addr) (dsp : DSp) (us : List W) : Prop :=
  ∃ (g : Addr) (fd : FuncData) (ps : List Str) (dvs : List V) (ds : List Value), Mk K C g ∧ FnOk P w K mg base CX0 k g fd ps (uSp K dsp) ∧ mg x = some (.ref C) ∧ Binds K fd ps ds ∧ Vals dvs ds ∧ Flat K us dvs
def MthD (C : Addr) (m : Str) (dsp : DSp) (us : List W) : Prop :=
  ∃ (f : Addr) (fd : FuncData) (ps : List Str) (dvs : List V) (ds : List Value), FnOk P w K mg base CX0 k f fd ps (uSp K dsp) ∧ Meth K C m f ∧ Binds K fd ps ds ∧ Vals dvs ds ∧ Flat K us dvs
end
theorem Flat.nil_inv {K : PySem.W.Frag} {dvs : List V} (h : Flat K [] dvs) : dvs = [] := by cases h (fun _ => none) (fun _ => none); rfl
theorem Flat.nil {K : PySem.W.Frag} : Flat K [] [] := fun _ _ => .nil
def insOk (S : Sto) (C : Addr) (m : Str) : W → Prop
  | .ref a => ∃ dx fs, S a = some (.ins C dx fs) ∧ fs.lookup m = none
  | .ins D ns ws => D = C ∧ (ns.zip ws).lookup m = none
  | _ => False
theorem insOk_rel {K : PySem.W.Frag} {S : Sto} {H : Hp} {C : Addr} {m : Str} {w : W} {v : V} (r : Rel K S H) (q : RW K S H w v) (h : insOk S C m w) : ∃ a dx gs, v = .ref a ∧ H a = some (.ins C dx gs) ∧ gs.lookup m = none := by
  cases w <;> first | exact h.elim | skip
  case ins D ns ws =>
    obtain ⟨rfl, hl⟩ := h
    cases q with
    | ins hH o n m' e rs => exact ⟨_, _, _, rfl, hH, (RWp.zip e rs).lookN hl⟩
  case ref a =>
    obtain ⟨dx, fs, hs, hl⟩ := h
    cases q
    cases r _ _ hs with
    | ins hH m r => exact ⟨_, _, _, rfl, hH, r.lookN hl⟩
def dMth (C : Addr) (m : Str) (dsp : DSp) (us : List W) (to : DE') (t : DA') : DE' := fun ω S Q => to ω S fun w S1 => insOk S1 C m w ∧ t ω S1 fun ws S2 => dsp (w :: (ws ++ us)) S2 Q X0
section
variable {X : Cx} {Z : WX} {e o : Expr} {es : List Expr} {t tk : DA'} {to : DE'} {C : Addr} {x m : Str} {pos apos p : Pos} {k j : Nat} {dsp : DSp} {us : List W}
theorem de_mk (c : MakD X.prog X.w X.K X.mg X.base k x C dsp []) (hr : Room j X.A) (ha : DA X Z (e :: es) t) (hk : k + 1 ≤ j := by decide) (hg : Gl X x := by rfl)
    (hdb : (x == ("__debug__" : Str)) = false := by decide) (he : starEach (e :: es) X.env = (false, eval e X.env) :: starEach es X.env := by rfl) (hpl : (backTo pos (starEach es X.env)).any (·.1) = false := by rfl) :
    DE X Z (.Call (.Name x p) (e :: es) [] pos) (dMake C dsp t) := by
  obtain ⟨g, fd, ps, dvs, ds, M, F, hm, hb, hd, hu⟩ := c
  obtain rfl := hu.nil_inv
  cases hd
  exact de_make M F hm hb hr ha hk hg hdb he hpl
theorem de_mth {pl : Sem Bool} (c : Cls X.K C) (d : MthD X.prog X.w X.K X.mg X.base k C m dsp us) (hr : Room j X.A) (ho : DE X Z o to) (ha : DA X Z (e :: es) t) (hk : k ≤ j := by decide)
    (hst : starEach (e :: es) X.env = (false, eval e X.env) :: starEach es X.env := by rfl) (hpl : (backTo pos (starEach es X.env)).any (·.1) = false := by rfl)
    (ht : eval (.Call (.Attribute o m apos) (e :: es) [] pos) X.env = (do
      let ov ← eval o X.env
      standAt apos.atName
      let (f, first) ← holding [ov] (getMethod ov m pl)
      callWith pos f first (backTo pos (starEach (e :: es) X.env)) (backToKw pos (keywordEach [] X.env))) := by rfl) :
    DE X Z (.Call (.Attribute o m apos) (e :: es) [] pos) (dMth C m dsp us to t) := by
  obtain ⟨f, fd, ps, dvs, ds, F, hm, hb, hd, hu⟩ := d
  refine PE.im (pe_meth (pl := pl) ho c hm F (hr.mono hk) hb hd pass0 ha hst hpl ht) fun σ H Q ⟨ω, S, Qd, a, h, fi⟩ => ?_
  refine ⟨ω, S, _, a, h, fun w S1 v H1 x1 r1 q1 h1 => ?_⟩
  obtain ⟨hi, h1⟩ := h1
  obtain ⟨b, dx, gs, rfl, hb, hl⟩ := insOk_rel r1 q1 hi
  refine ⟨b, dx, gs, rfl, hb, hl, ω, S1, _, a.to x1 r1, h1, fun ws S2 vs H2 x2 r2 q2 h2 => ?_⟩
  exact ⟨w :: (ws ++ us), S2, Qd, X0, r2, .cons (q1.mono x2) (q2.app (hu _ _)), h2, fun w' S' v' H' x' r' q' h' => fi _ _ _ _ (x1.trans (x2.trans x')) r' q' h', .zero⟩
theorem de_mth0 {pl : Sem Bool} (c : Cls X.K C) (d : MthD X.prog X.w X.K X.mg X.base k C m dsp us) (hr : Room j X.A) (ho : DE X Z o to) (hk : k ≤ j := by decide)
    (ht : eval (.Call (.Attribute o m apos) [] [] pos) X.env = (do
      let ov ← eval o X.env
      standAt apos.atName
      let (f, first) ← holding [ov] (getMethod ov m pl)
      callWith pos f first (backTo pos (starEach [] X.env)) (backToKw pos (keywordEach [] X.env))) := by rfl) :
    DE X Z (.Call (.Attribute o m apos) [] [] pos) (dMth C m dsp us to ζO) := by
  obtain ⟨f, fd, ps, dvs, ds, F, hm, hb, hd, hu⟩ := d
  refine PE.im (pe_meth0 (pl := pl) ho c hm F (hr.mono hk) hb hd pass0 ht) fun σ H Q ⟨ω, S, Qd, a, h, fi⟩ => ?_
  refine ⟨ω, S, _, a, h, fun w S1 v H1 x1 r1 q1 h1 => ?_⟩
  obtain ⟨hi, h1⟩ := h1
  obtain ⟨b, dx, gs, rfl, hb, hl⟩ := insOk_rel r1 q1 hi
  exact ⟨b, dx, gs, rfl, hb, hl, w :: ([] ++ us), S1, Qd, X0, r1, .cons q1 (hu _ _), h1, fun w' S' v' H' x' r' q' h' => fi _ _ _ _ (x1.trans x') r' q' h', .zero⟩
theorem mth_un {n : Nat} {m : Str} (d : MthD X.prog X.w X.K X.mg X.base n C m dsp []) : ∃ (f : Addr) (fd : FuncData) (ps : List Str), FnOk X.prog X.w X.K X.mg X.base CX0 n f fd ps (uSp X.K dsp) ∧ Meth X.K C m f ∧ Binds X.K fd ps [] := by
  obtain ⟨f, fd, ps, dvs, ds, F, hm, hb, hd, hu⟩ := d
  obtain rfl := hu.nil_inv
  cases hd
  exact ⟨f, fd, ps, F, hm, hb⟩
theorem oc_neM {n : Nat} (d : MthD X.prog X.w X.K X.mg X.base n C "__eq__" dsp []) (nf : NotFst X.K C) (ne : PySem.W.findIn X.K (.ref C) "__ne__" = some (some (.builtin "object.__ne__"))) (O : OwnC X.K C) (hr : Room j X.A) (hj : n + 1 ≤ j := by decide) : OD X (compareOp .NotEq) (dEqO C dsp true) := by
  obtain ⟨f, fd, ps, F, hm, hb⟩ := mth_un d
  exact oc_neO F ne O.hm hm.at_ hm.fn hb nf hr hj
end
section
variable {X : Cx}
end
theorem app_G {G : Nat → W → Prop} {acc : List W} {v : W} (h : ∀ j u, acc[j]? = some u → G j u) (hv : G acc.length v) : ∀ j u, (acc ++ [v])[j]? = some u → G j u := by
  intro j u hj
  by_cases hjl : j < acc.length
  · rw [List.getElem?_append_left hjl] at hj; exact h j u hj
  · rw [List.getElem?_append_right (by omega)] at hj
    have hj0 : j - acc.length = 0 := by
      have := (List.getElem?_eq_some_iff.mp hj).1
      simp at this
      omega
    rw [hj0] at hj
    simp at hj
    subst hj
    have : j = acc.length := by omega
    rw [this]; exact hv
theorem lcN {xs : List W} {ok : Sto → Prop} {S1 : Sto} {T : Tg} {te : DE'} {own : List Nat} {ω : Om} {Q : WQ} (G : Nat → W → Prop) (hl : xs.length ≤ 1000000) (hok : ∀ p acc, S1 p = none → ok (up S1 p (.lst acc)))
    (hb : ∀ i w, xs[i]? = some w → ∃ ω2, ζt T w (wp ω own) = some ω2 ∧ ∀ p acc, S1 p = none → ∀ Qe : WQ, (∀ v, G i v → Qe v (up S1 p (.lst acc))) → te ω2 (up S1 p (.lst acc)) Qe)
    (q : ∀ vs : List W, vs.length = xs.length → (∀ i v, vs[i]? = some v → G i v) → Q (.lst vs) S1) : ∀ p, S1 p = none → ∃ P : Nat → List W → Sto → Prop, P 0 [] (up S1 p (.lst [])) ∧ (∀ i acc S', P i acc S' → ok S' ∧ S' p = some (.lst acc)) ∧
      (∀ i w acc S', xs[i]? = some w → P i acc S' → ∃ ω2, ζt T w (wp ω own) = some ω2 ∧ dYes ω2 S' fun b S3 => if b = true then te ω2 S3 fun v S4 => ∃ acc', S4 p = some (.lst acc') ∧ acc'.length < 1000000 ∧ P (i + 1) (acc' ++ [v]) (up S4 p (.lst (acc' ++ [v]))) else ∃ acc', P (i + 1) acc' S3) ∧
      ∀ acc S', P xs.length acc S' → Q (.lst acc) (del S' p) := by
  intro p hp
  refine ⟨fun i acc S' => acc.length = i ∧ i ≤ xs.length ∧ (∀ j v, acc[j]? = some v → G j v) ∧ S' = up S1 p (.lst acc), ⟨rfl, Nat.zero_le _, fun j v h => by simp at h, rfl⟩, ?_, ?_, ?_⟩
  · rintro i acc S' ⟨_, _, _, rfl⟩
    exact ⟨hok p acc hp, up_same⟩
  · rintro i w acc S' hw ⟨hi, hi2, hG, rfl⟩
    obtain ⟨ω2, e, hb⟩ := hb i w hw
    have hlt : i < xs.length := (List.getElem?_eq_some_iff.mp hw).1
    refine ⟨ω2, e, ?_⟩
    show te ω2 (up S1 p (.lst acc)) _
    refine hb p acc hp _ fun v hv => ⟨acc, up_same, by omega, by rw [List.length_append, hi]; rfl, hlt, app_G hG (by rw [hi]; exact hv), by rw [up_up]⟩
  · rintro acc S' ⟨hi, _, hG, rfl⟩
    rw [del_new hp]
    exact q acc hi hG
theorem irange_at {n : Nat} {i : Nat} {w : W} (hw : (irange 0 n)[i]? = some w) : i < n ∧ w = .int (i : Nat) := by
  have hl : (irange 0 n).length = n := by unfold irange; rw [List.length_map, List.length_range]
  have hi : i < n := by have := (List.getElem?_eq_some_iff.mp hw).1; rw [hl] at this; exact this
  refine ⟨hi, ?_⟩
  unfold irange at hw
  rw [List.getElem?_map, List.getElem?_range hi] at hw
  cases hw
  show W.int (0 + (i : Nat)) = _
  rw [Int.zero_add]
theorem irange_len {lo : Int} {n : Nat} : (irange lo n).length = n := by unfold irange; rw [List.length_map, List.length_range]
theorem lcNs {ti te : DE'} {T : Tg} {own : List Nat} {ω : Om} {S : Sto} {Q : WQ} {w : W} {xs : List W} (h : ∀ Q' : WQ, Q' w S → ti ω S Q') (hs : seqW S w = some xs) (hl : xs.length ≤ 1000000) (hok : ∀ p acc, S p = none → seqW (up S p (.lst acc)) w = some xs) (G : Nat → W → Prop)
    (hb : ∀ i w, xs[i]? = some w → ∃ ω2, ζt T w (wp ω own) = some ω2 ∧ ∀ p acc, S p = none → ∀ Qe : WQ, (∀ v, G i v → Qe v (up S p (.lst acc))) → te ω2 (up S p (.lst acc)) Qe)
    (q : ∀ vs : List W, vs.length = xs.length → (∀ i v, vs[i]? = some v → G i v) → Q (.lst vs) S) : dLc (ζA ti) T dYes te own ω S Q := seqI_go h hs (lcN G hl hok hb q)
theorem if_N {c : DT'} {t u : DS'} {D : Out} {ω : Om} {S : Sto} (N : Bool → Sto → Prop) (h : ∀ Q : Bool → Sto → Prop, (∀ b S1, N b S1 → Q b S1) → c ω S Q) (k : ∀ b S1, N b S1 → if b = true then t D ω S1 else u D ω S1) : ζW c t u D ω S := h _ k
section
variable {X : Cx} {Z : WX} {o e f : Expr} {to ti tx : DE'} {apos cpos : Pos} {k : Nat}
end
section
variable {X : Cx}
end
section
variable {X : Cx} {pins : List (Addr × Obj)} {σ : L2.St} {H : Hp} {s : Shared} {S : Sto}
end
section
variable {X : Cx}
end
def dPopAt : DM' := fun w ws S Q => ∃ a xs i k y, w = .ref a ∧ ws = [.int i] ∧ S a = some (.lst xs) ∧ -(2 ^ 63) ≤ i ∧ i < 2 ^ 63 ∧ seqIndex? i xs.length = some k ∧ xs[k]? = some y ∧ Q y (up S a (.lst (xs.eraseIdx k)))
theorem RWs.eraseIdx {K : PySem.W.Frag} {S : Sto} {H : Hp} : ∀ {ws : List W} {vs : List V} (k : Nat), RWs K S H ws vs → RWs K S H (ws.eraseIdx k) (vs.eraseIdx k)
  | _, _, _, .nil => .nil
  | _, _, 0, .cons _ t => t
  | _, _, k + 1, .cons h t => .cons h (RWs.eraseIdx k t)
section
variable {X : Cx} {Z : WX} {o e : Expr} {to : DE'} {t : DA'} {apos cpos : Pos}
theorem mt_popW : MtR X "list.pop" (uM X.K dPopAt) := fun pins s σ H x xs v us Q I rx rs ⟨w, ws, S, Qd, r, r1, r2, ⟨a, ys, i, k, y, e1, e2, hs, i0, i1, hk, hy, q⟩, fi⟩ => by
  subst e1; subst e2
  cases r1
  obtain ⟨z, rfl, rz⟩ := r2.one
  cases rz
  cases r _ _ hs with
  | @lst _ vs h1 q1 =>
    obtain ⟨v', hv', rv'⟩ := q1.get hy
    exact mt_popAt pins s σ H _ _ v us Q I rx rs ⟨a, vs, i, k, v', rfl, rfl, h1, i0, i1, by rw [← q1.len]; exact hk, hv', fi _ _ _ _ (Nx.wr hs) (r.wr hs (fun _ e => nomatch e) (.lst upd_same ((q1.eraseIdx k).mono (Nx.wr hs)))) (rv'.mono (Nx.wr hs)) q⟩
theorem de_popAt (ho : DE X Z o to) (ha : DA X Z [e] t) (hbase : attributeBase o "pop" X.env (eval o X.env) = eval o X.env := by rfl)
    (hfew : ((backTo cpos (starEach [e] X.env)).all (fun x => !x.1) && (backToKw cpos (keywordEach [] X.env)).all (fun x => x.1.isSome) && decide (([e] : List Expr).length + ([] : List Keyword).length + (if ([] : List Keyword).isEmpty then 0 else 1) < 30)) = true := by rfl)
    (hline : (apos.endLine == cpos.line) = true := by rfl) (hs : starEach [e] X.env = (false, eval e X.env) :: starEach [] X.env := by rfl) (hplain : (backTo cpos (starEach [] X.env)).any (·.1) = false := by rfl) :
    DE X Z (.Call (.Attribute o "pop" apos) [e] [] cpos) (dBM dPopAt to t) := de_bm PySem.F.slot_list_pop PySem.F.type_list_pop mt_popW ho ha hbase hfew hline hs hplain
end
section
variable {K : PySem.W.Frag} {S S' : Sto} {H H' : Hp}
end
section
variable {K : PySem.W.Frag} {S : Sto} {H : Hp} {p : Addr}
end
section
variable {K : PySem.W.Frag} {S S1 : Sto} {H2 : Hp} {p : Addr} {od : Obj} {gs : List (Key × V)} {u : HO}
end
section
variable {Z : WX} {T : Tg} {tt : DT'} {te tk tv : DE'}
end
section
variable {X : Cx} {Z : WX} {tg elt : Expr} {ifs : List Expr} {T : Tg} {tt : DT'} {te : DE'} {pos p0 : Pos} {scope : Scope} {own : List (Str × Nat)} {i : Nat} {x : Str}
end
section
variable {X : Cx} {Z : WX} {tg kx vx : Expr} {T : Tg} {tk tv : DE'} {pos p0 p1 : Pos} {scope : Scope} {own : List (Str × Nat)} {i : Nat} {x f : Str} {C : Addr}
end
section
variable {X : Cx} {Z : WX} {e o : Expr} {es : List Expr} {t tk : DA'} {to : DE'} {C : Addr} {m : Str} {pos apos p : Pos} {k j n nk : Nat} {dsp : DSp} {us : List W} {ks : List Str} {ix : List Nat} {kws : List Keyword}
end
section
variable {X : Cx} {Z : WX} {e : Expr} {es : List Expr} {te : DE'} {pos tp : Pos} {kk : Nat} {is : List Nat}
end
section
variable {S : Sto} {l : Addr} {ks : List Key} {qs : List Addr} {ls : List (List W)}
end
theorem okD_ints (ns : List Int) : okD (.lst (ns.map W.int)) = true := (ND.lst (n := 0) fun w hw => by
  obtain ⟨i, _, rfl⟩ := List.mem_map.mp hw
  exact .int i).ok (by decide)
theorem look_none {fs : List (Str × W)} {m : Str} (h : m ∉ fs.map (·.1)) : fs.lookup m = none := by
  induction fs with
  | nil => rfl
  | cons p fs ih =>
    obtain ⟨k, v⟩ := p
    rw [List.map_cons, List.mem_cons, not_or] at h
    rw [List.lookup_cons, beq_eq_false_iff_ne.mpr h.1]
    exact ih h.2
end DL
namespace HT
open PySem PyProof.Rows
section
variable {prog : Program} {w : World} {A : Around} {E : Value → Shared → Prop} {s : Shared}
end
end HT
namespace DL
open PySem PySem.Spec PyProof.Rows L2
section
variable {X : Cx} {Z : WX}
end
theorem seqIx {r : Int} {n : Nat} (h0 : 0 ≤ r) (h1 : r < (n : Int)) : seqIndex? r n = some r.toNat := by
  unfold seqIndex?
  simp only [if_neg (show ¬ r < 0 by omega), decide_eq_true h0, decide_eq_true h1, Bool.and_self, if_true]
section
variable {X : Cx} {k : Nat}
end
def ltP (e f : Int × Str) : Prop := e.1 < f.1 ∨ (e.1 = f.1 ∧ e.2.cps.toList < f.2.cps.toList)
instance (e f : Int × Str) : Decidable (ltP e f) := by unfold ltP; infer_instance
def ltL (a b : List Str) : Prop := a.map (fun x => x.cps.toList) < b.map (fun x => x.cps.toList)
instance (a b : List Str) : Decidable (ltL a b) := by unfold ltL; infer_instance
section
variable {X : Cx} {k : Nat}
end
section
variable {X : Cx} {Z : WX} {o e f : Expr} {to ti tx : DE'} {apos cpos : Pos}
end
section
variable {X : Cx} {Z : WX} {o : Expr} {to : DE'} {apos cpos : Pos}
end
section
variable {X : Cx} {Z : WX} {tg kx vx iter : Expr} {di : DI'} {T : Tg} {tk tv : DE'} {pos : Pos} {scope : Scope} {own : List (Str × Nat)}
end
section
variable {S : Sto} {qs : List Addr} {ls : List (List W)}
end
theorem app_go {i : Nat} {te : DE'} {ω : Om} {S : Sto} {D : Out} {a : Addr} {xs : List W} (w : W) (hi : ω.s[i]? = some (some (.ref a))) (hS : S a = some (.lst xs)) (he : ∀ Q : WQ, Q w S → te ω S Q) (hl : xs.length < 1000000) (k : D.nx ω (up S a (.lst (xs ++ [w])))) : ζq (dBM ξa (ζB i) (ζl te ζO)) D ω S := by
  refine drop_go (bm_go (var_go hi ⟨isL_ref hS, he _ ?_⟩))
  simp only [ζO, ξa, hS]
  exact ⟨hl, k⟩
theorem lcZF {t : DA'} {te : DE'} {tt : DT'} {T : Tg} {own : List Nat} {ω : Om} {S : Sto} {Q : WQ} {w1 w2 : W} {xs ys : List W} (h : ∀ Q' : List W → Sto → Prop, Q' [w1, w2] S → t ω S Q') (h1 : ∀ S', sq2 S' w1 = some xs) (h2 : ∀ S', sq2 S' w2 = some ys) (f : W → Bool) (g : W → W) (hl : xs.length ≤ 1000000)
    (hb : ∀ w ∈ izip xs ys, ∃ ω2, ζt T w (wp ω own) = some ω2 ∧ ∀ p acc, S p = none → (∀ Qt : Bool → Sto → Prop, Qt (f w) (up S p (.lst acc)) → tt ω2 (up S p (.lst acc)) Qt) ∧ (f w = true → ∀ Qe : WQ, Qe (g w) (up S p (.lst acc)) → te ω2 (up S p (.lst acc)) Qe))
    (q : Q (.lst (((izip xs ys).filter f).map g)) S) : dLc (ξe t) T tt te own ω S Q := by
  refine h _ ?_
  show (match sq2 S w1, sq2 S w2 with | some xs, some ys => _ | _, _ => False)
  rw [h1, h2]
  refine lcF f g ?_ (fun p acc _ => ⟨h1 _, h2 _⟩) hb q
  unfold izip
  rw [List.length_map, List.length_zip]
  omega
theorem weq_nilS (ys : List W) : weq (.lst ys) (.lst []) = ys.isEmpty := by
  cases ys with
  | nil => unfold weq; simp only [pd, pds, PyData.eqv, PyData.eqvAll]; rfl
  | cons y ys => unfold weq; simp only [pd, pds, PyData.eqv, PyData.eqvAll]; rfl
theorem atI_last {α : Type} {xs : List α} {x : α} (h : xs.getLast? = some x) : L2.atI xs (-1) = some x := by
  have hne : xs ≠ [] := fun e => by rw [e] at h; cases h
  have hl : 0 < xs.length := List.length_pos_iff.mpr hne
  unfold L2.atI
  have e : L2.ixN xs.length (-1) = some (xs.length - 1) := by
    unfold L2.ixN
    rw [if_neg (by omega), if_pos (by omega)]
    congr 1
    omega
  rw [e]
  show xs[xs.length - 1]? = some x
  rw [← List.getLast?_eq_getElem?]
  exact h
theorem cut_take' {α : Type} (xs : List α) (i : Nat) : cut xs none (some (i : Int)) = xs.take i := by
  by_cases h : i ≤ xs.length
  · exact cut_take h
  · unfold cut
    have e1 : HT.sIx xs.length 0 none = 0 := rfl
    have e2 : HT.sIx xs.length xs.length (some (i : Int)) = xs.length := by
      rw [HT.sIx_nat]
      omega
    rw [e1, e2, List.drop_zero, Nat.sub_zero, List.take_of_length_le (Nat.le_refl _), List.take_of_length_le (by omega)]
theorem Bg.frame {S : Sto} {b p : Addr} {o : WO} (h : Bg S b) (hp : p ≠ b) : Bg (DL.up S p o) b := by
  obtain ⟨g, s, h1, h2⟩ := h
  exact ⟨g, s, by rw [up_ne (Ne.symm hp)]; exact h1, h2⟩
end DL
namespace DL
open PySem PySem.Spec PyProof.Rows L2 PpSet
end DL
namespace My
open PySem PySem.Spec PyProof.Rows L2
section
variable {prog : Program} {w : World} {A : Around} {E : Value → Shared → Prop} {s : Shared} {z TI TO i1 i2 : Addr} {fp1 fp2 : List Addr} {n1 n2 i : Nat} {P1 P2 : Nat → Value → Prop} {St1 St2 : Nat → Heap → Prop} {a1 a2 f : Value} {b : Bool}
end
end My
namespace DL
open PySem PySem.Spec PyProof.Rows L2 PpSet My
end DL
namespace DL
open PySem PySem.Spec PyProof.Rows L2
def frzX (Ed : XW) : XD := fun c fs _ S' => ∃ S2, Frz .non S' .non S2 ∧ Ed c fs S2
theorem frzX.mk {Ed : XW} {c : Value} {fs : Option (List (Str × W))} {l : List (Option W)} {S : Sto} (h : Ed c fs S) : frzX Ed c fs l S := ⟨S, .same, h⟩
theorem Xr.to {K : PySem.W.Frag} {S S' : Sto} {H H' : Hp} {fs : Option (List (Str × W))} {d : Option Addr} (x : Nx S H S' H') (h : Xr K S H fs d) : Xr K S' H' fs d := by
  cases fs <;> cases d <;> first | exact h | skip
  obtain ⟨gs, h1, n, r⟩ := h
  exact ⟨gs, x.keep _ _ h1 n, x.dom _ _ h1 n, RWp.mono x r⟩
theorem frzX.fin {K : PySem.W.Frag} {S : Sto} {H : Hp} {Ed : XW} {E : XK} (fx : FinX K S H Ed E) : FinW K (fun c d _ H' => E c d H') S H (frzX Ed) := fun c fs l S' σ' H' d x r' _ xr ⟨S2, fz, e⟩ => by
  obtain ⟨x2, r2, _⟩ := fz.ok r' .non
  exact fx c fs S2 H' d (x.trans x2) r2 (xr.to x2) e
section
variable {P : Program} {w : World} {K : PySem.W.Frag} {mg : Str → Option Value} {base : Heap}
theorem Fun.okXF {x qual : Str} {st : Stmt} {f : Addr} {fd : FuncData} {N ps : List Str} {k : Nat} {dsp : DSp} (F : Fun K x qual st f fd) (sc : FnScope N ps (defScope st)) (td : DS')
    (hb : ∀ (cdv : Value) (A : Around) (outer : List Env) (s : Shared) (H : Hp) (E : XK), Room k (A.deeper (envOfC qual (defScope st) s.heap.objs.size f cdv)) → DSs (cxOf (L2.CX P w) P w K mg base N qual (defScope st) f cdv A outer s H E) (fun c d _ H' => E c d H') (defBody st) td)
    (len : ∀ ws S Q E, dsp ws S Q E → ws.length = ps.length) (hd : ∀ ws S Q E, dsp ws S Q E → td { nx := fun _ S' => frzQ Q .non S', rt := frzQ Q } ⟨ζg N ws, frzX E⟩ S) : FnOk P w K mg base (L2.CX P w) (k + 1) f fd ps (uSp K dsp) := by
  refine F.okX sc (fun vs H Q E ⟨ws, S, Qd, Ed, r, rs, h, _⟩ => by rw [← rs.len]; exact len _ _ _ _ h) fun cdv A outer s H vs Q E hr ⟨ws, S, Qd, Ed, r, rs, h, f, fx⟩ => ⟨_, hb cdv A outer s H E hr, ?_⟩
  exact ⟨⟨ζg N ws, frzX Ed⟩, S, _, ⟨r, RS.start rs, frzX.fin fx⟩, hd ws S Qd Ed h, ⟨fun ω' S' σ' H' x a q => f.frz _ _ _ _ x a.rel .non q, f.frz, fun _ _ _ _ _ _ q => q.elim, fun _ _ _ _ _ _ q => q.elim⟩⟩
theorem FunD.okXF {x qual : Str} {st : Stmt} {f : Addr} {fd : FuncData} {dvs : List V} {kws : List (Str × V)} {N ps : List Str} {k : Nat} {dsp : DSp} (F : FunD K x qual (defArgs st) (defBody st) (defScope st) dvs kws f fd) (sc : FnScope N ps (defScope st)) (td : DS')
    (hb : ∀ (cdv : Value) (A : Around) (outer : List Env) (s : Shared) (H : Hp) (E : XK), Room k (A.deeper (envOfC qual (defScope st) s.heap.objs.size f cdv)) → DSs (cxOf (L2.CX P w) P w K mg base N qual (defScope st) f cdv A outer s H E) (fun c d _ H' => E c d H') (defBody st) td)
    (len : ∀ ws S Q E, dsp ws S Q E → ws.length = ps.length) (hd : ∀ ws S Q E, dsp ws S Q E → td { nx := fun _ S' => frzQ Q .non S', rt := frzQ Q } ⟨ζg N ws, frzX E⟩ S) : FnOk P w K mg base (L2.CX P w) (k + 1) f fd ps (uSp K dsp) := by
  refine F.ok sc (fun vs H Q E ⟨ws, S, Qd, Ed, r, rs, h, _⟩ => by rw [← rs.len]; exact len _ _ _ _ h) fun cdv A outer s H vs Q E hr ⟨ws, S, Qd, Ed, r, rs, h, f, fx⟩ => ⟨_, hb cdv A outer s H E hr, ?_⟩
  exact ⟨⟨ζg N ws, frzX Ed⟩, S, _, ⟨r, RS.start rs, frzX.fin fx⟩, hd ws S Qd Ed h, ⟨fun ω' S' σ' H' x a q => f.frz _ _ _ _ x a.rel .non q, f.frz, fun _ _ _ _ _ _ q => q.elim, fun _ _ _ _ _ _ q => q.elim⟩⟩
end
theorem run_fnX {X : Cx} {Z : WX} {k : Nat} {f : Addr} {fd : FuncData} {ps : List Str} {dsp : DSp} {dvs : List V} {ds : List Value} {us : List W} {pins : List (Addr × Obj)} {σ : L2.St} {H : Hp} {s : Shared} {Q : VK} {ws : List W} {vs : List V} {xs : List Value} {ω : Om} {S : Sto} {Qd : WQ}
    (F : FnOk X.prog X.w X.K X.mg X.base (L2.CX X.prog X.w) k f fd ps (uSp X.K dsp)) (hr : Room k X.A) (hb : Binds X.K fd ps ds) (hd : Vals dvs ds) (hu : Flat X.K us dvs) (tk : Takes X Z) (I : Inv X pins σ H s) (r : Vals vs xs)
    (a : At X.K Z S H σ ω) (rs : RWs X.K S H ws vs) (h : dsp (ws ++ us) S Qd fun c fs S' => ω.ex c fs ω.s S') (fi : Fin X.K S H Qd Q) : wpAny (model X.prog X.w) X.A (call (.ref f) xs) (EP X pins σ Q) X.xe s := by
  have hsp : uSp X.K dsp (vs ++ dvs) H Q (fun cls d H' => Z cls d σ H') := ⟨ws ++ us, S, Qd, _, a.rel, rs.app (hu _ _), h, fi, fun c fs S' H' d x r' xr e => a.fx c fs ω.s S' σ H' d x r' (a.rs.mono x) xr e⟩
  have r2 : Vals (vs ++ dvs) (xs ++ ds) := r.append hd
  have hl : (xs ++ ds).length = ps.length := by rw [← r2.length]; exact F.len _ _ _ _ hsp
  refine wpAny_call (codeAny_mono (F.run X.A X.stack s H ⟨xs, []⟩ (xs ++ ds) (vs ++ dvs) Q _ hr I.env0 (hb s xs I.kIn hl) r2 hsp) fun res s' hq => ?_)
  cases res with
  | error e => exact tk e s' (XE.of_call I (fun _ _ _ z => z) hq)
  | ok fl =>
    cases fl with
    | ret u => exact I.after hq
    | next => exact False.elim hq
    | brk => exact False.elim hq
    | cont => exact False.elim hq
section
variable (P : Program) (w : World) (K : PySem.W.Frag) (mg : Str → Option Value) (base : Heap) (k : Nat)
def CalXD (x : Str) (dsp : DSp) (us : List W) : Prop :=
  ∃ (f : Addr) (fd : FuncData) (ps : List Str) (dvs : List V) (ds : List Value), FnOk P w K mg base (L2.CX P w) k f fd ps (uSp K dsp) ∧ mg x = some (.ref f) ∧ PySem.W.keepIn K (.ref f) = true ∧ Binds K fd ps ds ∧ Vals dvs ds ∧ Flat K us dvs
def MthX (C : Addr) (m : Str) (dsp : DSp) (us : List W) : Prop :=
  ∃ (f : Addr) (fd : FuncData) (ps : List Str) (dvs : List V) (ds : List Value), FnOk P w K mg base (L2.CX P w) k f fd ps (uSp K dsp) ∧ Meth K C m f ∧ Binds K fd ps ds ∧ Vals dvs ds ∧ Flat K us dvs
end
def dCallXD (dsp : DSp) (us : List W) (t : DA') : DE' := fun ω S Q => t ω S fun ws S1 => dsp (ws ++ us) S1 Q fun c fs S' => ω.ex c fs ω.s S'
def dMthX (C : Addr) (m : Str) (dsp : DSp) (us : List W) (to : DE') (t : DA') : DE' := fun ω S Q => to ω S fun w S1 => insOk S1 C m w ∧ t ω S1 fun ws S2 => dsp (w :: (ws ++ us)) S2 Q fun c fs S' => ω.ex c fs ω.s S'
section
variable {X : Cx} {Z : WX} {e o : Expr} {es : List Expr} {t : DA'} {to : DE'} {C : Addr} {x m : Str} {pos apos p : Pos} {k j : Nat} {dsp : DSp} {us : List W}
theorem de_callX (c : CalXD X.prog X.w X.K X.mg X.base k x dsp us) (tk : Takes X Z) (hr : Room j X.A) (ha : DA X Z (e :: es) t) (hk : k ≤ j := by decide) (hg : Gl X x := by rfl)
    (hdb : (x == ("__debug__" : Str)) = false := by decide) (he : starEach (e :: es) X.env = (false, eval e X.env) :: starEach es X.env := by rfl) (hpl : (backTo pos (starEach es X.env)).any (·.1) = false := by rfl) :
    DE X Z (.Call (.Name x p) (e :: es) [] pos) (dCallXD dsp us t) := by
  obtain ⟨f, fd, ps, dvs, ds, F, hm, kp, hb, hd, hu⟩ := c
  refine ⟨fun pins s σ H Q I ⟨ω, S, Qd, a, h, fi⟩ => ?_⟩
  refine wpAny_Call_Name_kw (ld_glob I hg hm ?_ hdb)
  refine PySem.W.callWith_K (h₀ := X.base) I.ok.mod.kin kp (thn (ha.run pos pins s σ H (fun vs H1 => ∃ ws S1, Nx S H S1 H1 ∧ Rel X.K S1 H1 ∧ RWs X.K S1 H1 ws vs ∧ dsp (ws ++ us) S1 Qd fun c fs S' => ω.ex c fs ω.s S') I ⟨ω, S, _, a, h, fun ws S1 vs H1 x1 r1 q1 h1 => ⟨ws, S1, x1, r1, q1, h1⟩⟩) fun xs s1 ⟨vs, H1, I1, rv, ws, S1, x1, r1, q1, h1⟩ => ⟨I1.kIn, ?_⟩) he hpl
  exact run_fnX F (hr.mono hk) hb hd hu tk I1 rv (a.to x1 r1) q1 h1 fun w S' v H' x' r' q' h' => fi _ _ _ _ (x1.trans x') r' q' h'
theorem de_mthX {pl : Sem Bool} (c : Cls X.K C) (d : MthX X.prog X.w X.K X.mg X.base k C m dsp us) (tk : Takes X Z) (hr : Room j X.A) (ho : DE X Z o to) (ha : DA X Z (e :: es) t) (hk : k ≤ j := by decide)
    (hst : starEach (e :: es) X.env = (false, eval e X.env) :: starEach es X.env := by rfl) (hpl : (backTo pos (starEach es X.env)).any (·.1) = false := by rfl)
    (ht : eval (.Call (.Attribute o m apos) (e :: es) [] pos) X.env = (do
      let ov ← eval o X.env
      standAt apos.atName
      let (f, first) ← holding [ov] (getMethod ov m pl)
      callWith pos f first (backTo pos (starEach (e :: es) X.env)) (backToKw pos (keywordEach [] X.env))) := by rfl) :
    DE X Z (.Call (.Attribute o m apos) (e :: es) [] pos) (dMthX C m dsp us to t) := by
  obtain ⟨f, fd, ps, dvs, ds, F, hm, hb, hd, hu⟩ := d
  refine ⟨fun pins s σ H Q I ⟨ω, S, Qd, a, h, fi⟩ => ?_⟩
  refine PySem.W.methodCall_KW (pl := pl) (thn (ho.run pins s σ H (fun v H1 => ∃ b dx gs w S1, v = .ref b ∧ H1 b = some (.ins C dx gs) ∧ gs.lookup m = none ∧ Nx S H S1 H1 ∧ Rel X.K S1 H1 ∧ RW X.K S1 H1 w v ∧ t ω S1 fun ws S2 => dsp (w :: (ws ++ us)) S2 Qd fun c fs S' => ω.ex c fs ω.s S') I ?_) fun u s1 ⟨x, H1, I1, rx, b, dx, gs, w, S1, ex, eb, l, x1, r1, q1, q⟩ => ?_) ht
  · refine ⟨ω, S, _, a, h, fun w S1 v H1 x1 r1 q1 ⟨hi, h1⟩ => ?_⟩
    obtain ⟨b, dx, gs, rfl, hb, hl⟩ := insOk_rel r1 q1 hi
    exact ⟨b, dx, gs, w, S1, rfl, hb, hl, x1, r1, q1, h1⟩
  subst ex
  obtain rfl : u = Value.ref b := rx
  refine getmeth_ok I1 eb c hm l ?_
  refine PySem.W.callWith_K (first := [.ref b]) (h₀ := X.base) I.ok.mod.kin hm.kp (thn (ha.run pos pins s1 σ H1 (fun vs H2 => ∃ ws S2, Nx S1 H1 S2 H2 ∧ Rel X.K S2 H2 ∧ RWs X.K S2 H2 ws vs ∧ dsp (w :: (ws ++ us)) S2 Qd fun c fs S' => ω.ex c fs ω.s S') I1 ⟨ω, S1, _, a.to x1 r1, q, fun ws S2 vs H2 x2 r2 q2 h2 => ⟨ws, S2, x2, r2, q2, h2⟩⟩) fun xs s2 ⟨vs, H2, I2, rv, ws, S2, x2, r2, q2, h2⟩ => ⟨I2.kIn, ?_⟩) hst hpl
  exact run_fnX (ws := w :: ws) (vs := .ref b :: vs) (xs := .ref b :: xs) F (hr.mono hk) hb hd hu tk I2 (.cons rfl rv) (a.to (x1.trans x2) r2) (.cons (q1.mono x2) q2) h2 fun w' S' v H' x' r' q' h' => fi _ _ _ _ (x1.trans (x2.trans x')) r' q' h'
end
def spExc (C : Addr) (ns : List Str) (ok : List V → Prop) : Sp := fun vs H Q _ => ∃ (a : Addr) (us : List V), vs = .ref a :: us ∧ us.length = ns.length ∧ ok us ∧ H a = some (exo a C none) ∧ ∀ dx, H dx = none → dx ≠ a → Q .non (upd (upd H dx (exd dx (ns.zip us).reverse)) a (exo a C (some dx)))
def dRaise (C : Addr) (ns : List Str) (ok : List W → Prop) (t : DA') : DS' := fun _ ω S => t ω S fun ws S1 => ws.length = ns.length ∧ ok ws ∧ ω.ex (.ref C) (some (ns.zip ws).reverse) ω.s S1
theorem RWp.app {κ : Type} {K : PySem.W.Frag} {S : Sto} {H : Hp} {fs fs' : List (κ × W)} {gs gs' : List (κ × V)} (r : RWp K S H fs gs) (r' : RWp K S H fs' gs') : RWp K S H (fs ++ fs') (gs ++ gs') := by
  induction r with
  | nil => exact r'
  | cons h t ih => exact .cons h ih
theorem RWp.reverse {κ : Type} {K : PySem.W.Frag} {S : Sto} {H : Hp} {fs : List (κ × W)} {gs : List (κ × V)} (r : RWp K S H fs gs) : RWp K S H fs.reverse gs.reverse := by
  induction r with
  | nil => exact .nil
  | cons h t ih =>
    rw [List.reverse_cons, List.reverse_cons]
    exact ih.app (.cons h .nil)
section
variable {X : Cx} {Z : WX} {e : Expr} {t : DA'} {C : Addr} {ns : List Str} {okV : List V → Prop} {okW : List W → Prop} {pos : Pos}
theorem ds_raise (tk : Takes X Z) (hp : PMk X e (tMkO C (spExc C ns okV) [] (uA X.K Z t))) (hn : ns.length ≤ 1000) (hok : ∀ S H ws vs, RWs X.K S H ws vs → okW ws → okV vs) (hc : X.calm = true := by rfl) : DS X Z (.Raise (some e) none pos) (dRaise C ns okW t) :=
  PS.im (ps_raise hc tk hp) fun D σ H ⟨ω, S, Dd, a, h, f⟩ => by
    refine ⟨ω, S, _, a, h, fun ws S1 vs H1 x1 r1 q1 ⟨hl, ok, he⟩ => ⟨by rw [← q1.len, hl]; exact hn, fun b nb => ?_⟩⟩
    show spExc C ns okV (.ref b :: (vs ++ [])) _ _ _
    rw [List.append_nil]
    refine ⟨b, vs, rfl, by rw [← q1.len, hl], hok _ _ _ _ q1 ok, upd_same, fun dx nd hne => ⟨rfl, dx, (ns.zip vs).reverse, upd_same, by rw [upd_ne hne, upd_same], ?_, ?_⟩⟩
    · rw [upd_ne hne] at nd; exact nd
    · have n1 : H1 dx = none := by rw [upd_ne hne] at nd; exact nd
      have eH : upd (L2.del (upd (upd (upd H1 b (exo b C none)) dx (exd dx (ns.zip vs).reverse)) b (exo b C (some dx))) b) dx (.xd (ns.zip vs).reverse) = upd H1 dx (.xd (ns.zip vs).reverse) := by
        funext c
        by_cases c1 : c = dx
        · subst c1; rw [upd_same, upd_same]
        · rw [upd_ne c1, upd_ne c1]
          by_cases c2 : c = b
          · subst c2; rw [L2.del_same, nb]
          · rw [L2.del_ne c2, upd_ne c2, upd_ne c1, upd_ne c2]
      rw [eH]
      have xn : Nx S1 H1 S1 (upd H1 dx (.xd (ns.zip vs).reverse)) := Nx.new n1
      exact a.fx (.ref C) (some (ns.zip ws).reverse) ω.s S1 σ _ (some dx) (x1.trans xn) (r1.new n1) (a.rs.mono (x1.trans xn)) ⟨_, upd_same, r1.free n1, RWp.mono xn (RWp.zip (by rw [← q1.len, hl]) q1).reverse⟩ he
end
def dTry (K : PySem.W.Frag) (C : Value) (tb ts : DS') : DS' := fun D ω S => tb { nx := fun ω' S' => D.nx ⟨ω'.s, ω.ex⟩ S', rt := D.rt, bk := fun ω' S' => D.bk ⟨ω'.s, ω.ex⟩ S', ct := fun ω' S' => D.ct ⟨ω'.s, ω.ex⟩ S' }
  ⟨ω.s, fun c fs l S' => ∃ b, PySem.W.exmOne K c C = some b ∧ (b = true → ts D ⟨l, ω.ex⟩ S') ∧ (b = false → ω.ex c fs l S')⟩ S
section
variable {X : Cx} {Z : WX} {x : Str} {c : Value} {body suite : List Stmt} {b₀ : Stmt} {np pos' pos : Pos} {tb ts : DS'}
theorem ds_try (hc : Names X x c) (tk : Takes X Z) (hb : ∀ (W : WX) (pn : List (Addr × Obj)) (xe : Value → Shared → Prop), Takes (X.tr pn xe) W → PassesOwn (model X.prog X.w) X.A X.env xe → DSs (X.tr pn xe) W body tb)
    (hsu : ∀ (a : Addr) (oe : Obj) (cls : Value) (d : Option Addr) (pn : List (Addr × Obj)), Zc cls d oe → (∃ vs, oe.data = .fields vs) → DSs (X.suite a ((a, oe) :: pn)) Z (b₀ :: suite) ts) (hs : X.stack = X.env :: X.outer := by rfl) (hf : X.env.frame = some X.env.locals := by rfl) :
    DS X Z (.Try body [.ExceptHandler (some (.Name x np)) none (b₀ :: suite) pos'] [] [] pos) (dTry X.K c tb ts) :=
  PS.im (ps_try_only (tb := fun W => uS X.K W tb) (ts := fun _ _ _ => uS X.K Z ts) hs hf hc tk hb hsu) fun D σ H ⟨ω, S, Dd, a, h, f⟩ => by
    refine ⟨⟨ω.s, fun c' fs l S' => ∃ b, PySem.W.exmOne X.K c' c = some b ∧ (b = true → ts Dd ⟨l, ω.ex⟩ S') ∧ (b = false → ω.ex c' fs l S')⟩, S, { nx := fun ω' S' => Dd.nx ⟨ω'.s, ω.ex⟩ S', rt := Dd.rt, bk := fun ω' S' => Dd.bk ⟨ω'.s, ω.ex⟩ S', ct := fun ω' S' => Dd.ct ⟨ω'.s, ω.ex⟩ S' }, ⟨a.rel, a.rs, fun cl fs l S' σ' H' d x r rs xr ⟨b, e, ht, hf⟩ => ⟨b, e, fun hb _ _ => ⟨⟨l, ω.ex⟩, S', Dd, ⟨r, rs, a.fx.to x⟩, ht hb, f.to x⟩, fun hb => a.fx cl fs l S' σ' H' d x r rs xr (hf hb)⟩⟩, h, ?_⟩
    exact ⟨fun ω' S' σ' H' x a' q => f.nx ⟨ω'.s, ω.ex⟩ _ _ _ x ⟨a'.rel, a'.rs, a.fx.to x⟩ q, f.rt, fun ω' S' σ' H' x a' q => f.bk ⟨ω'.s, ω.ex⟩ _ _ _ x ⟨a'.rel, a'.rs, a.fx.to x⟩ q, fun ω' S' σ' H' x a' q => f.ct ⟨ω'.s, ω.ex⟩ _ _ _ x ⟨a'.rel, a'.rs, a.fx.to x⟩ q⟩
end
end DL
namespace PySem.SeqAt
open AutoSeq1 (wpAny_loadPart')
open MeetsSeq MeetsSeq2 MeetsSeq3
section
variable {prog : Program} {w : World} {A : Around} {s : Shared} {K : PySem.W.Frag} {C f x dx : Addr} {E : Value → Shared → Prop} {mA : PySem.Str → Option Value}
end
end PySem.SeqAt
namespace My
open PySem PySem.Spec PyProof.Rows L2 SeqAt
section
variable {X : Cx} {n : Nat} {CX : CXT} {C f : Addr} {fd : FuncData} {ps : List PySem.Str} {sp : Sp} {E : XK} {pins : List (Addr × Obj)} {σ : L2.St} {H : Hp} {s : Shared}
end
end My
namespace DL
open PySem PySem.Spec PyProof.Rows L2 My
section
variable {X : Cx} {n : Nat} {C f : Addr} {fd : FuncData} {ps : List PySem.Str} {dsp : DSp}
end
end DL
namespace My
open PySem PySem.Spec PyProof.Rows L2
abbrev bt_ae : List Value := [.type "ArithmeticError", .type "Exception", .type "BaseException", .type "object"]
structure Gx_ae (K : PySem.W.Frag) (C : Addr) : Prop where
  cls : ∃ nm q N bs bm sn sub ab col dd k0 k1 k2 k3 k5, K.lookup C = some (excClassObj nm q C N bs bm true sn sub ab col dd k0 k1 k2 k3 k5 "ArithmeticError.__new__") ∧ PySem.W.excTail bt_ae bm = true
  ov : PySem.W.excOver K C bt_ae = true
  st : PySem.W.findIn K (.ref C) "__setattr__" = some (some (.builtin "object.__setattr__"))
  hb : PySem.W.subIn K (.ref C) (.type "BaseException") = some true
  ht : PySem.W.typeIn K (.ref C) = some (.type "type")
  hk : PySem.W.keepIn K (.ref C) = true
section
variable {X : Cx} {pins : List (Addr × Obj)} {σ : L2.St} {H : Hp} {s : Shared} {a C : Addr} {f : Str} {y : V} {u : Value} {Q : Unit → Shared → Prop} {E : Value → Shared → Prop} {A : Around}
theorem gfirst_ae (T : Gx_ae X.K C) (I : Inv X pins σ H s) (ea : H a = some (exo a C none)) (hno : PySem.W.findIn X.K (.ref C) f = some none) (ry : RelV y u)
    (done : ∀ dx s', H dx = none → dx ≠ a → Inv X pins σ (upd (upd H dx (exd dx [(f, y)])) a (exo a C (some dx))) s' → Q () s') : wpAny (model X.prog X.w) A (setAttr (.ref a) f u) Q E s := by
  obtain ⟨nm, q, N, bs, bm, sn, sub, ab, col, dd, k0, k1, k2, k3, k5, hC, hbm⟩ := T.cls
  have hcl : PySem.W.clsIn X.K C = some { name := nm, bases := bs, mro := .ref C :: bm, ns := N, qualname := q, hasDict := true, slotNames := sn, subclasses := sub, abstract := ab, collection := col, hasDel := false } := by
    unfold PySem.W.clsIn
    rw [hC] <;> rfl
  obtain ⟨t1, here⟩ := exo_at I.hok ea
  have inst : PySem.W.InstAt s.heap a { cls := .ref C, dict := none, data := .fields #[.ref t1, .none, .none, .none, .bool false, .none] } C none := ⟨here, rfl, rfl, trivial⟩
  refine PySem.W.set_plain I.kIn inst T.st ?_
  have tk0 : PySem.W.takerIn X.K C f = some none := by
    unfold PySem.W.takerIn
    rw [hno]
    rfl
  refine PySem.W.osa_openX (od := none) PySem.F.store_ArithmeticError I.kIn inst T.ov tk0 fun b => ?_
  obtain ⟨hp, gs, dr, tk, os⟩ := s
  refine wpAny_bind (wpAny_pure (wpAny_bind (PySem.W.instanceDict_exc here (PySem.W.looks_clsIn I.kIn hcl) rfl ?_)))
  have old : ∀ {b : Addr} {o : Obj}, hp.get? b = some o → b ≠ hp.objs.size := fun {b o} w => Nat.ne_of_lt (Heap.lt_size w)
  have aold : a ≠ hp.objs.size := old here
  have fresh : H hp.objs.size = none := I.hok.fresh (Nat.le_refl _)
  refine PySem.HandSPX.store_in_new ⟨_, #[], _, (Heap.get?_update_ne _ _ _ _ (Ne.symm aold)).trans (Heap.get?_push_at rfl rfl), rfl, fun w hw => absurd hw (by simp), fun _ => rfl⟩ fun h1 tk1 hns hsame => ?_
  have pushed : (hp.push { cls := .type "dict", data := .dict #[] }).get? a = some { cls := .ref C, dict := none, data := .fields #[.ref t1, .none, .none, .none, .bool false, .none] } := Heap.get?_push_of_some _ here
  have rest : ∀ (b : Addr) (o : Obj), b ≠ a → hp.get? b = some o → h1.get? b = some o := fun b o nb w => by
    rw [hsame.2 b (old w)]
    exact (Heap.get?_update_ne _ _ _ _ nb).trans (Heap.get?_push_of_some _ w)
  have self1 : h1.get? a = some { cls := .ref C, dict := some hp.objs.size, data := .fields #[.ref t1, .none, .none, .none, .bool false, .none] } := by
    rw [hsame.2 a aold]
    exact Heap.get?_update_self _ pushed rfl
  have nota : ∀ {b : Addr}, H b = none → b ≠ a := fun {b} w e => by
    rw [e, ea] at w
    cases w
  have keptT : ∀ {b : Addr} {o : HO}, H b = some o → b ≠ a → (upd (upd H hp.objs.size (exd hp.objs.size [(f, y)])) a (exo a C (some hp.objs.size))) b = some o := fun {b o} w nb => by
    rw [upd_ne nb, upd_ne (ne_of_none w fresh)]
    exact w
  have unh : Un X.fs [] H (upd (upd H hp.objs.size (exd hp.objs.size [(f, y)])) a (exo a C (some hp.objs.size))) hp h1 := by
    constructor
    · exact fun b o w n _ _ => rest b o (nota n) w
    · exact fun b o w n _ _ => ⟨o.slots, rest b o (nota n) w⟩
    · intro b o w n _
      rw [upd_ne (nota n), upd_ne (old w)]
      exact n
    · intro b o w _
      by_cases e : b = a
      · subst e
        exact ⟨_, self1⟩
      · exact ⟨o, rest b o e w⟩
    · exact fun b xs w => keptT w (at_ne ea w exo_tup)
    · exact fun b o v w => keptT w (at_ne ea w exo_frz)
    · exact fun b ps w => ⟨#[], by rw [keptT w (at_ne ea w exo_tbl)]; simp⟩
  refine done hp.objs.size _ fresh (Ne.symm aold) (I.un (t' := tk1) unh fun b o w => ?_)
  by_cases e : b = a
  · subst e
    rw [upd_same] at w
    cases w
    exact exo_ok self1
  rw [upd_ne e] at w
  by_cases e2 : b = hp.objs.size
  · subst e2
    rw [upd_same] at w
    cases w
    exact exd_ok hns (relO_put (fs := []) ry fun g => True.intro)
  rw [upd_ne e2] at w
  refine (I.hok b o w).stay (fun c v hc z => rest c v ?_ z) (fun c hc => keptT hc (at_ne ea hc exo_own)) (fun c xs hc => keptT hc (at_ne ea hc exo_tup))
  rcases hc with hc | hc
  · rw [hc]
    exact e
  · exact at_ne ea hc exo_own
theorem gbase_ae {us : List Value} {Qv : Value → Shared → Prop} (T : Gx_ae X.K C) (I : Inv X pins σ H s) (ea : H a = some (exo a C none)) (hl : us.length ≤ sizeLine) (done : ∀ s', Inv X pins σ H s' → Qv .none s') :
    wpAny (model X.prog X.w) A (call (.builtin "ArithmeticError.__init__") (.ref a :: us)) Qv E s := by
  obtain ⟨nm, q, N, bs, bm, sn, sub, ab, col, dd, k0, k1, k2, k3, k5, hC, hbm⟩ := T.cls
  obtain ⟨t1, here⟩ := exo_at I.hok ea
  obtain ⟨hp, gs, dr, tk, os⟩ := s
  refine wpAny_call (PySem.HandSPX.init_base PySem.F.excBase_ArithmeticError (fun Y => PySem.W.excTail_contains Y bm hbm) (I.kIn _ _ hC) here hl fun h1 t2 kept self1 => ?_)
  have back : upd H a (exo a C none) = H := funext fun b => by
    by_cases e : b = a
    · subst e
      rw [upd_same]
      exact ea.symm
    · exact upd_ne e
  have J := I.write (t' := tk) (x := a) (e := a) (o := exo a C none) (by rw [ea]; trivial) (.inl rfl) kept ⟨_, self1⟩ (exo_ok self1)
  rw [back] at J
  exact done _ J
end
def tBi_ae (K : PySem.W.Frag) (ta : TA) : TE := fun σ H Q => ta σ H fun vs H1 => ∃ (a C : Addr) (ws : List V), vs = .ref a :: ws ∧ ws.length ≤ 1000 ∧ Gx_ae K C ∧ H1 a = some (exo a C none) ∧ Q .non H1
def tSt_ae (K : PySem.W.Frag) (f : Str) (to te : TE) : TS := fun D σ H => te σ H fun y H1 => to σ H1 fun x H2 => ∃ a C : Addr, x = .ref a ∧ Gx_ae K C ∧ PySem.W.findIn K (.ref C) f = some none ∧ H2 a = some (exo a C none) ∧ ∀ dx, H2 dx = none → dx ≠ a → D.nx σ (upd (upd H2 dx (exd dx [(f, y)])) a (exo a C (some dx)))
theorem typ_ae : typeOf (.type "ArithmeticError") = pure (.type "type") := by kernel_rfl
section
variable {X : Cx} {o e : Expr} {es : List Expr} {to te : TE} {ta : TA} {f : Str} {p p' p1 p2 pos : Pos}
theorem pe_bi_ae {pl : Sem Bool} (hg : Gl X "ArithmeticError") (hm : X.mg "ArithmeticError" = none) (vV : PySem.W.findCls X.K (.type "ArithmeticError") (.type "type") "__init__" = some (.val (.builtin "ArithmeticError.__init__"))) (ha : PA X (e :: es) ta)
    (shape : eval (.Call (.Attribute (.Name "ArithmeticError" p1) "__init__" p2) (e :: es) [] pos) X.env = (do
      let base ← eval (.Name "ArithmeticError" p1) X.env
      standAt p2.atName
      let (fn, ahead) ← holding [base] (getMethod base "__init__" pl)
      callWith pos fn ahead (backTo pos (starEach (e :: es) X.env)) (backToKw pos (keywordEach [] X.env))) := by rfl)
    (he : starEach (e :: es) X.env = (false, eval e X.env) :: starEach es X.env := by rfl) (hpl : (backTo pos (starEach es X.env)).any (·.1) = false := by rfl) :
    PE X (.Call (.Attribute (.Name "ArithmeticError" p1) "__init__" p2) (e :: es) [] pos) (tBi_ae X.K ta) := by
  constructor
  intro pins s σ H Q I h
  refine PySem.W.methodCall_KW (ld_blt I hg hm PyProof.Rows.Boot.«ArithmeticError» ?_ (by decide) (by decide)) shape
  obtain ⟨m, fr⟩ := I.fr
  refine PySem.W.method_type fr I.ok.mod.kin typ_ae (by decide +kernel) vV (by decide +kernel) ?_
  show wpAny _ _ (callWith pos (Value.builtin "ArithmeticError.__init__") [] (backTo pos (starEach (e :: es) X.env)) []) _ _ _
  refine PyProof.Rows.callWith_method1 (thn (ha.run pos pins _ σ H _ (I.tok _) h) fun us s1 got => ?_) he hpl
  obtain ⟨vs, H1, I1, r1, a, C, ws, rfl, few, T, ea, q⟩ := got
  cases r1 with
  | @cons _ u0 _ ur ra rr =>
    cases (show u0 = Value.ref a from ra)
    refine gbase_ae T I1 ea ?_ fun s' J => ⟨.non, H1, J, rfl, q⟩
    have l1 := Paired.length rr
    rw [sizeLine_eq]
    omega
theorem ps_st_ae (ho : PE X o to) (he : PE X e te) (hs : swapsWith e (some (.Attribute o f p')) pos.line X.env = pure false := by rfl) : PS X (.Assign [.Attribute o f p'] e pos) (tSt_ae X.K f to te) := by
  constructor
  intro pins s σ H D I h
  refine plainObj_wpAny_Assign_Attribute (thn (he.run pins s σ H _ I h) fun v s1 got => ?_) hs
  obtain ⟨y, H1, I1, r1, q1⟩ := got
  refine thn (ho.run pins s1 σ H1 _ I1 q1) fun u s2 got2 => ?_
  obtain ⟨x, H2, I2, r2, a, C, rfl, T, hno, ea, q⟩ := got2
  cases (show u = Value.ref a from r2)
  exact gfirst_ae T I2 ea hno r1 fun dx s' n ne J => ⟨σ, _, J, q dx n ne⟩
theorem pmk_ae {CX : CXT} {x : Str} {C fI : Addr} {k : Nat} {fd : FuncData} {ps : List Str} {sp : Sp} (T : Gx_ae X.K C) (iC : PySem.W.findIn X.K (.ref C) "__init__" = some (some (.ref fI))) (tI : PySem.W.typeIn X.K (.ref fI) = some (.type "function"))
    (F1 : FnOk X.prog X.w X.K X.mg X.base CX k fI fd ps sp) (hr : Room (k + 1) X.A) (hb : Binds X.K fd ps []) (hx : Passes CX X (fun _ _ _ => False)) (hg : Gl X x) (hm : X.mg x = some (.ref C)) (ha : PA X (e :: es) ta)
    (hdb : (x == ("__debug__" : Str)) = false := by decide) (he : starEach (e :: es) X.env = (false, eval e X.env) :: starEach es X.env := by rfl) (hpl : (backTo pos (starEach es X.env)).any (·.1) = false := by rfl) :
    PMk X (.Call (.Name x p) (e :: es) [] pos) (tMkO C sp [] ta) := by
  intro pins s σ H Q I h
  obtain ⟨nm, q, N, bs, bm, sn, sub, ab, col, dd, k0, k1, k2, k3, k5, hC, hbm⟩ := T.cls
  refine wpAny_Call_Name_kw (ld_glob I hg hm ?_ hdb)
  refine PySem.W.callWith_K (h₀ := X.base) I.ok.mod.kin T.hk (thn (ha.run pos pins s σ H _ I h) fun us s1 got => ?_) he hpl
  obtain ⟨vs, H1, I1, r1, few, q1⟩ := got
  refine ⟨I1.kIn, ?_⟩
  change wpAny (model X.prog X.w) _ (call (.ref C) us) _ _ s1
  obtain ⟨hp, gs, dr, tk, os⟩ := s1
  have le : hp.objs.size ≤ hp.objs.size + 1 := Nat.le_succ _
  have want := q1 (hp.objs.size + 1) (I1.hok.fresh le)
  have stays : ∀ b w, hp.get? b = some w → ((hp.push (PySem.W.kdv_tup us)).push (PySem.HandSPX.excO C hp.objs.size)).get? b = some w := fun b w z => Heap.get?_push_of_some _ (Heap.get?_push_of_some _ z)
  have itself : ((hp.push (PySem.W.kdv_tup us)).push (PySem.HandSPX.excO C hp.objs.size)).get? (hp.objs.size + 1) = some (PySem.HandSPX.excO C hp.objs.size) := by
    heap_get
  have I2 : Inv X pins σ (upd H1 (hp.objs.size + 1) (exo (hp.objs.size + 1) C none)) ⟨((hp.push (PySem.W.kdv_tup us)).push (PySem.HandSPX.excO C hp.objs.size)), gs, dr, tk, os⟩ := I1.laid (t' := tk) (a := hp.objs.size + 1) (o := exo (hp.objs.size + 1) C none) (h' := ((hp.push (PySem.W.kdv_tup us)).push (PySem.HandSPX.excO C hp.objs.size))) stays le (exo_ok itself)
  have r2 : Vals (V.ref (hp.objs.size + 1) :: (vs ++ [])) (Value.ref (hp.objs.size + 1) :: (us ++ [])) := .cons rfl (r1.append .nil)
  have lens : (Value.ref (hp.objs.size + 1) :: us ++ []).length = ps.length := by
    have l := r2.length
    rw [F1.len _ _ _ _ want] at l
    exact l.symm
  have short : us.length ≤ sizeLine := by
    have l := Paired.length r1
    rw [sizeLine_eq]
    omega
  have bound : BindsTo ⟨((hp.push (PySem.W.kdv_tup us)).push (PySem.HandSPX.excO C hp.objs.size)), gs, dr, tk, os⟩ fd ⟨Value.ref (hp.objs.size + 1) :: us, []⟩ (ps.zip (Value.ref (hp.objs.size + 1) :: (us ++ []))) := by
    have b := hb _ (Value.ref (hp.objs.size + 1) :: us) I2.kIn lens
    rw [List.cons_append] at b
    exact b
  refine wpAny_call (PySem.HandSPX.call_own PySem.F.excBase_ArithmeticError (fun Y => PySem.W.excTail_contains Y bm hbm) (I1.kIn _ _ hC) (PySem.W.looks_findIn I1.kIn iC) (fun self => PySem.W.bind_fn I1.kIn self tI) short ?_)
  refine codeAny_mono (F1.run _ X.stack _ _ ⟨Value.ref (hp.objs.size + 1) :: us, []⟩ (Value.ref (hp.objs.size + 1) :: (us ++ [])) _ _ (fun _ _ _ => False) (hr.make C us []) (I2.env0.make C us []) bound r2 want) fun r s' got => ?_
  rcases r with er | fl
  · exact hx pins σ _ _ er s' I2 got
  cases fl with
  | ret v =>
    obtain ⟨v1, H2, os2, bare2, un2, hok2, rv, ev, d, fs, ea, ed, hd1, q2⟩ := got
    subst ev
    obtain ⟨h2, g2, d2, t2, os'⟩ := s'
    exact ⟨rv, mk_end (raises_own T.hb T.ht) I1 le stays un2 hok2 os2 bare2 ea ed hd1 q2⟩
  | next => exact False.elim got
  | brk => exact False.elim got
  | cont => exact False.elim got
end
section
variable {X : Cx} {pins : List (Addr × Obj)} {σ : L2.St} {H : Hp} {s : Shared} {a C dx : Addr} {f : Str} {y : V} {u : Value} {fs : List (Str × V)} {Q : Unit → Shared → Prop} {E : Value → Shared → Prop} {A : Around}
theorem gnext_ae (T : Gx_ae X.K C) (I : Inv X pins σ H s) (ea : H a = some (exo a C (some dx))) (ed : H dx = some (exd dx fs)) (few : fs.length ≤ 900) (hno : PySem.W.findIn X.K (.ref C) f = some none) (ry : RelV y u)
    (done : ∀ s', Inv X pins σ (upd H dx (exd dx ((f, y) :: fs))) s' → Q () s') : wpAny (model X.prog X.w) A (setAttr (.ref a) f u) Q E s := by
  obtain ⟨nm, q, N, bs, bm, sn, sub, ab, col, dd, k0, k1, k2, k3, k5, hC, hbm⟩ := T.cls
  have hcl : PySem.W.clsIn X.K C = some { name := nm, bases := bs, mro := .ref C :: bm, ns := N, qualname := q, hasDict := true, slotNames := sn, subclasses := sub, abstract := ab, collection := col, hasDel := false } := by
    unfold PySem.W.clsIn
    rw [hC] <;> rfl
  obtain ⟨t1, here⟩ := exo_at I.hok ea
  obtain ⟨mA, hns, rel⟩ := exd_at I.hok ed
  have wi := within_of rel
  obtain ⟨hp, gs, dr, tk, os⟩ := s
  obtain ⟨oD, _, _, atD, _, _⟩ := hns.count wi
  have inst : PySem.W.InstAt hp a { cls := .ref C, dict := some dx, data := .fields #[.ref t1, .none, .none, .none, .bool false, .none] } C (some oD) := ⟨here, rfl, rfl, atD⟩
  refine PySem.W.set_plain I.kIn inst T.st ?_
  have tk0 : PySem.W.takerIn X.K C f = some none := by
    unfold PySem.W.takerIn
    rw [hno]
    rfl
  refine PySem.W.osa_openX (od := some oD) PySem.F.store_ArithmeticError I.kIn inst T.ov tk0 fun b => ?_
  have Lc : PySem.W.Looks (model X.prog X.w) hp (classData C) _ := PySem.W.looks_clsIn I.kIn hcl
  refine wpAny_bind (wpAny_pure (wpAny_bind ?_))
  have room : (fs.map (·.1)).length ≤ 1000 := by rw [List.length_map]; omega
  have kept : ∀ {t1 : Nat} {E1 : Value → Shared → Prop} {Q1 : Option Addr → Shared → Prop}, Q1 (some dx) ⟨hp, gs, dr, t1, os⟩ → wpAny (model X.prog X.w) A.in1 (instanceDict a true) Q1 E1 ⟨hp, gs, dr, t1, os⟩ := fun want => by
    unfold instanceDict
    refine wpAny_bind (wpAny_loadPart here ?_)
    dsimp only
    refine wpAny_bind (Lc.here ?_)
    exact wpAny_pure want
  refine kept ?_
  refine PySem.OEX.store_in_old hns wi room fun h1 tk1 hn1 same => ?_
  refine done _ (I.write (t' := tk1) (x := dx) (e := dx) (o := exd dx ((f, y) :: fs)) (by rw [ed]; trivial) (.inl rfl) (fun b o nb w => (same.2 b nb).trans w) ?_ (exd_ok hn1 (relO_put ry rel)))
  obtain ⟨o, _, _, w, _⟩ := hn1
  exact ⟨o, w⟩
end
def tSn_ae (K : PySem.W.Frag) (f : Str) (to te : TE) : TS := fun D σ H => te σ H fun y H1 => to σ H1 fun x H2 => ∃ (a C dx : Addr) (fs : List (Str × V)), x = .ref a ∧ Gx_ae K C ∧ PySem.W.findIn K (.ref C) f = some none ∧ H2 a = some (exo a C (some dx)) ∧ H2 dx = some (exd dx fs) ∧ fs.length ≤ 900 ∧ D.nx σ (upd H2 dx (exd dx ((f, y) :: fs)))
section
variable {X : Cx} {o e : Expr} {to te : TE} {f : Str} {p' pos : Pos}
theorem ps_sn_ae (ho : PE X o to) (he : PE X e te) (hs : swapsWith e (some (.Attribute o f p')) pos.line X.env = pure false := by rfl) : PS X (.Assign [.Attribute o f p'] e pos) (tSn_ae X.K f to te) := by
  constructor
  intro pins s σ H D I h
  refine plainObj_wpAny_Assign_Attribute (thn (he.run pins s σ H _ I h) fun v s1 got => ?_) hs
  obtain ⟨y, H1, I1, r1, q1⟩ := got
  refine thn (ho.run pins s1 σ H1 _ I1 q1) fun u s2 got2 => ?_
  obtain ⟨x, H2, I2, r2, a, C, dx, fs, rfl, T, hno, ea, ed, few, q⟩ := got2
  cases (show u = Value.ref a from r2)
  exact gnext_ae T I2 ea ed few hno r1 fun s' J => ⟨σ, _, J, q⟩
end
end My
namespace DL
open PySem PySem.Spec PyProof.Rows L2
def ExcD (P : Program) (w : World) (K : PySem.W.Frag) (mg : Str → Option Value) (base : Heap) (k : Nat) (x : Str) (C : Addr) (ns : List Str) (okV : List V → Prop) : Prop :=
  ∃ (fI : Addr) (fd : FuncData) (ps : List Str), My.Gx_ae K C ∧ PySem.W.findIn K (.ref C) "__init__" = some (some (.ref fI)) ∧ PySem.W.typeIn K (.ref fI) = some (.type "function") ∧ FnOk P w K mg base CX0 k fI fd ps (spExc C ns okV) ∧ Binds K fd ps [] ∧ mg x = some (.ref C)
section
variable {X : Cx} {Z : WX} {e : Expr} {es : List Expr} {t : DA'} {C : Addr} {ns : List Str} {okV : List V → Prop} {okW : List W → Prop} {x : Str} {p pos pos' : Pos} {k j : Nat}
theorem ds_raiseE (c : ExcD X.prog X.w X.K X.mg X.base k x C ns okV) (tk : Takes X Z) (hr : Room j X.A) (ha : DA X Z (e :: es) t) (hok : ∀ S H ws vs, RWs X.K S H ws vs → okW ws → okV vs) (hk : k + 1 ≤ j := by decide) (hn : ns.length ≤ 1000 := by decide) (hg : Gl X x := by rfl) (hc : X.calm = true := by rfl)
    (hdb : (x == ("__debug__" : Str)) = false := by decide) (he : starEach (e :: es) X.env = (false, eval e X.env) :: starEach es X.env := by rfl) (hpl : (backTo pos (starEach es X.env)).any (·.1) = false := by rfl) :
    DS X Z (.Raise (some (.Call (.Name x p) (e :: es) [] pos)) none pos') (dRaise C ns okW t) := by
  obtain ⟨fI, fd, ps, T, iC, tI, F, hb, hm⟩ := c
  exact ds_raise tk (My.pmk_ae T iC tI F (hr.mono hk) hb pass0 hg hm ha hdb he hpl) hn hok hc
end
def okNS : List V → Prop := fun us => ∃ (n : Nat) (y : Str), us = [.int n, .str y] ∧ n < 1000 ∧ y.length ≤ 100
def okNSW : List W → Prop := fun ws => ∃ (n : Nat) (y : Str), ws = [.int n, .str y] ∧ n < 1000 ∧ y.length ≤ 100
theorem okNS_of {K : PySem.W.Frag} (S : Sto) (H : Hp) (ws : List W) (vs : List V) (r : RWs K S H ws vs) (h : okNSW ws) : okNS vs := by
  obtain ⟨n, y, rfl, h1, h2⟩ := h
  cases r with
  | cons a r => cases r with
    | cons b r =>
      cases r
      cases a
      cases b
      exact ⟨n, y, rfl, h1, h2⟩
def idown (lo : Int) (n : Nat) : List W := (List.range n).map fun k => .int (lo + (k : Nat) * (-1))
def dRng3 (t : DA') : DI' := fun ω S Q => t ω S fun ws S1 => ∃ i j : Int, ws = [.int i, .int j, .int (-1)] ∧ (-(2 ^ 62) ≤ i ∧ i < 2 ^ 62 ∧ -(2 ^ 62) ≤ j ∧ j < 2 ^ 62) ∧ Q (idown i (i - j).toNat) (fun _ => True) S1
theorem idown_len {lo : Int} {n : Nat} : (idown lo n).length = n := by unfold idown; rw [List.length_map, List.length_range]
theorem idown_at {lo : Int} {n i : Nat} (h : i < n) : (idown lo n)[i]? = some (.int (lo + (i : Nat) * (-1))) := by
  unfold idown
  rw [List.getElem?_map, List.getElem?_range h]
  rfl
theorem src_down {K : PySem.W.Frag} {S0 : Sto} {H0 : Hp} {lo : Int} {n : Nat} : Src K S0 H0 (Itc lo (-1) n) (idown lo n) (fun _ => True) := by
  refine ⟨fun i S H x r o hi => by rw [idown_len] at hi; exact hi, fun i S H v H' x r o hi y => ?_, fun i S H x r o hi => by rw [hi, idown_len]; exact Nat.le_refl _⟩
  obtain ⟨e, rfl⟩ := y
  subst e
  rw [idown_len] at hi
  exact ⟨_, idown_at hi, Nx.refl, r, .int _⟩
theorem di_range3 {X : Cx} {Z : WX} {tg a b c : Expr} {t : DA'} {p pos : Pos} (hm : X.mg "range" = none) (ha : DA X Z [a, b, c] t) (hg : Gl X "range" := by rfl) (hs : starEach [a, b, c] X.env = (false, eval a X.env) :: starEach [b, c] X.env := by rfl) (hpl : (backTo pos (starEach [b, c] X.env)).any (·.1) = false := by rfl) :
    DI X Z tg (.Call (.Name "range" p) [a, b, c] [] pos) (dRng3 t) := PI.im (pi_range3 hg hm ha hs hpl) fun σ H R ⟨ω, S, Qd, a, h, f⟩ => by
  refine ⟨ω, S, _, a, h, fun ws S1 vs H1 x1 r1 q1 ⟨i, j, e, ⟨b1, b2, b3, b4⟩, h1⟩ => ?_⟩
  subst e
  cases q1 with
  | cons u q1 => cases q1 with
    | cons u2 q1 => cases q1 with
      | cons u3 q1 =>
        cases q1
        cases u
        cases u2
        cases u3
        exact ⟨i, j, -1, _, rfl, RgC.neg b1 b2 b3 b4, f _ _ _ _ _ x1 r1 src_down h1⟩
end DL
namespace My
open PySem PySem.Spec PySem.Calls PyProof.Rows L2 PySem.W
section
variable {prog : Program} {w : World} {A : Around} {E : Value → Shared → Prop} {s : Shared} {K : PySem.W.Frag} {x C f : Addr} {ox : Obj} {od : Option Obj}
def IsLen (Q : Int → Shared → Prop) (r : Value) (s' : Shared) : Prop := ∃ n u, r = .int n u ∧ 0 ≤ n ∧ n < 2 ^ 62 ∧ Q n s'
theorem len_body {Q : Int → Shared → Prop} (X : K.In s.heap) (I : InstAt s.heap x ox C od) (hs : PySem.W.findIn K (.ref C) "__len__" = some (some (.ref f))) (hf : PySem.W.isFn K (.ref f) = true)
    (h : wpAny (model prog w) A (call (.ref f) [.ref x]) (IsLen Q) E s) : wpAny (model prog w) A (Builtin.«len» ⟨[.ref x], []⟩) (fun fin s' => ∃ n u s0, fin = .done (.ret (.int n u)) ∧ s' = { s0 with toks := s0.toks + 1 } ∧ Q n s0) E s := by
  unfold Builtin.«len»
  refine wpAny_bind (m := oneArg "len" _) (wpAny_pure ?_)
  refine wpAny_bind (m := callSpecial? (.ref x) (Str.ofString "__len__")) (special_fn X I hs (beq_iff_eq.mp hf) (wpAny_mono h (fun r s' hr => ?_) fun _ _ y => y))
  obtain ⟨n, u, rfl, h0, h1, q⟩ := hr
  have b1 : ¬ n < 0 := by omega
  have b2 : ¬ n ≥ 2 ^ 63 := by omega
  refine wpAny_bind (wpAny_holding (wpAny_pure (wpAny_bind (wpAny_letGo ?_))))
  show wpAny _ _ (if n < 0 then _ else _) _ _ _
  rw [if_neg b1]
  show wpAny _ _ (if n ≥ 2 ^ 63 then _ else _) _ _ _
  rw [if_neg b2]
  exact wpAny_bind (wpAny_mkInt (wpAny_pure ⟨n, _, s', rfl, rfl, q⟩))
theorem lenO {Q : Value → Shared → Prop} (X : K.In s.heap) (I : InstAt s.heap x ox C od) (hs : PySem.W.findIn K (.ref C) "__len__" = some (some (.ref f))) (hf : PySem.W.isFn K (.ref f) = true)
    (h : wpAny (model prog w) A.in1 (call (.ref f) [.ref x]) (IsLen fun n s' => ∀ u, Q (.int n u) { s' with toks := s'.toks + 1 }) E s) : wpAny (model prog w) A (call (.builtin "len") [.ref x]) Q E s := by
  refine Calls.call_function_entry kind_len plain_len entry_len (args_len1 _) ?_
  refine wpAny_mono (len_body X I hs hf h) (fun fin s' hr => ?_) fun _ _ y => y
  obtain ⟨n, u, s0, rfl, rfl, q⟩ := hr
  exact ⟨_, rfl, q u⟩
end
section
variable {X : Cx} {n : Nat} {CX : CXT} {C f : Addr} {fd : FuncData} {ps : List PySem.Str} {sp : Sp} {E : XK} {pins : List (Addr × Obj)} {σ : L2.St} {H : Hp} {s : Shared}
def rLenO (C : Addr) (sp : Sp) (E : XK) : List V → Hp → VK → Prop := fun xs H Q => ∃ a dx fs, xs = [.ref a] ∧ H a = some (.ins C dx fs) ∧ sp [.ref a] H (fun z H' => ∃ m : Int, z = .int m ∧ 0 ≤ m ∧ m < 2 ^ 62 ∧ Q (.int m) H') E
theorem call_lenO (F : FnOk X.prog X.w X.K X.mg X.base CX n f fd ps sp) (hs : PySem.W.findIn X.K (.ref C) "__len__" = some (some (.ref f))) (hf : PySem.W.isFn X.K (.ref f) = true) (hb : L2.Binds X.K fd ps []) (hx : Passes CX X E) (hr : Room (n + 1) X.A) :
    CallR X (.builtin "len") (rLenO C sp E) := by
  intro pins s σ H xs us Q I r h
  obtain ⟨a, dx, fs, rfl, ha, q⟩ := h
  obtain ⟨u, rfl, ru⟩ := vals1 r
  cases ru
  obtain ⟨mA, J, _⟩ := ins_get I.hok ha
  obtain ⟨od, J, _⟩ := J.look
  have sb : Sub X (n + 1) X.A := ⟨hr, rfl⟩
  refine lenO I.kIn J hs hf ?_
  refine wpAny_mono (run_sub F hb hx sb.in1 I (.cons (show RelV (.ref a) (.ref a) from rfl) .nil) q) (fun r s' hq => ?_) fun _ _ x => x
  obtain ⟨z, H', I', rz, m, rfl, h0, h1, q⟩ := hq
  obtain ⟨t, rfl⟩ := rz
  exact ⟨m, t, rfl, h0, h1, fun u => ⟨.int m, H', I'.tok _, ⟨u, rfl⟩, q⟩⟩
end
end My
namespace DL
open PySem PySem.Spec PyProof.Rows L2
def dLenO (C : Addr) (dsp : DSp) : DC' := fun ws S Q => ∃ (a : W) (m : Nat), ws = [a] ∧ isIns C a = true ∧ nr a = true ∧ m < 1000000 ∧ dsp [a] S0 (fun z _ => z = .int m) X0 ∧ Q (.int m) S
section
variable {X : Cx} {Z : WX} {C f : Addr} {fd : FuncData} {ps : List Str} {dsp : DSp} {n j : Nat}
theorem insO_core {H : Hp} {S : Sto} {v : V} {a : W} {m : Nat} {R : Int → Hp → Prop} (r : Rel X.K S H) (r1 : RW X.K S H a v) (hi : isIns C a = true) (n1 : nr a = true) (hm : m < 1000000) (hd : dsp [a] S0 (fun z _ => z = .int m) X0) (q : ∀ H', Nx S H S H' → Rel X.K S H' → R m H') :
    ∃ b dx fs, v = .ref b ∧ H b = some (.ins C dx fs) ∧ uSp X.K dsp [.ref b] H (fun z H' => ∃ i : Int, z = .int i ∧ 0 ≤ i ∧ i < 2 ^ 62 ∧ R i H') (fun _ _ _ => False) := by
  cases a <;> first | cases hi | skip
  rename_i D ns ws
  have e : D = C := of_decide_eq_true hi
  subst e
  have r1' := r1
  cases r1' with
  | @ins a _ dx _ _ vs hH ho nn mm e rs =>
    refine ⟨a, dx, _, rfl, hH, [.ins D ns ws], S0, _, X0, rel0, .cons (RW.bare r1 n1) .nil, hd, fun w S' v H' x _ q' hw => ?_, .zero⟩
    subst hw
    cases q'
    exact ⟨(m : Int), rfl, by omega, by omega, q H' (Nx.ofExt (Nx.ext x)) (r.ext (Nx.ext x))⟩
theorem cd_lenM (d : MthD X.prog X.w X.K X.mg X.base n C "__len__" dsp []) (hr : Room j X.A) (hj : n + 1 ≤ j := by decide) : CD X (.builtin "len") (dLenO C dsp) := by
  obtain ⟨f, fd, ps, F, hm, hb⟩ := mth_un d
  refine CallR.im (My.call_lenO F hm.at_ hm.fn hb pass0 (hr.mono hj)) fun xs H Q h => ?_
  obtain ⟨ws, S, Qd, r, rs, ⟨a, m, rfl, hi, n1, hl, hd, hq⟩, fi⟩ := h
  obtain ⟨v, rfl, r1⟩ := rs.one
  obtain ⟨b, dx, fs, rfl, hb, q⟩ := insO_core (X := X) (R := fun i H' => Q (.int i) H') r r1 hi n1 hl hd fun H' x r' => fi _ S _ H' x r' (.int _) hq
  exact ⟨b, dx, fs, rfl, hb, q⟩
end
end DL
namespace DL
open PySem PySem.Spec PyProof.Rows L2 My
def dIdx : DM' := fun w ws S Q => match w, ws with
  | .lst xs, [y] => okD (.lst xs) = true ∧ okD y = true ∧ ∃ (j : Nat) (z : W), xs[j]? = some z ∧ weq z y = true ∧ (∀ (m : Nat) (z' : W), m < j → xs[m]? = some z' → weq z' y = false) ∧ Q (.int (j : Nat)) S
  | _, _ => False
section
variable {X : Cx} {Z : WX}
theorem mt_idx (hu : X.A.units + 65 < cLine) : MtR X "list.index" (uM X.K dIdx) := fun pins s σ H x xs v us Q I rx rs ⟨w, ws, S, Qd, r, r1, r2, q, fi⟩ => by
  refine mt_indexD hu pins s σ H x xs v us Q I rx rs ?_
  unfold dIdx at q
  split at q
  · rename_i ys y
    obtain ⟨z, rfl, rz⟩ := r2.one
    obtain ⟨o1, o2, j, z0, h1, h2, h3, h4⟩ := q
    obtain ⟨e1, e2⟩ := r1.shaped o1
    obtain ⟨e3, e4⟩ := rz.shaped o2
    rw [pd] at e1 e2
    obtain ⟨a, rfl⟩ : ∃ a, x = V.ref a := by cases r1; exact ⟨_, rfl⟩
    refine ⟨a, z, pd y, pds ys, j, pd z0, rfl, rfl, e1, e3, e2, e4, ?_, h2, fun m z' hm hz => ?_, fi.one r (.int _) h4⟩
    · rw [pds_map, List.getElem?_map, h1]; rfl
    · rw [pds_map, List.getElem?_map] at hz
      obtain ⟨z2, h5, rfl⟩ := Option.map_eq_some_iff.mp hz
      exact h3 m z2 hm h5
  · exact q.elim
end
end DL
namespace DL
open PySem PySem.Spec PyProof.Rows L2
mutual
def pln : W → Bool
  | .int _ | .str _ => true
  | .tup xs | .lst xs => plns xs
  | _ => false
def plns : List W → Bool
  | [] => true
  | w :: ws => pln w && plns ws
end
theorem plns_all (ws : List W) : plns ws = ws.all pln := by
  induction ws with
  | nil => rfl
  | cons w ws ih => rw [plns, ih]; rfl
def exW (a : Addr) (d : Option Addr) (fs : Option (List (Str × W))) : W := .exc a d ((fs.getD []).map (·.1)) ((fs.getD []).map (·.2))
section
variable {K : PySem.W.Frag} {S : Sto} {H : Hp} {fs : Option (List (Str × W))} {d : Option Addr}
theorem Xr.rw (h : Xr K S H fs d) (a : Addr) : RW K S H (exW a d fs) (.ref a) := by
  cases fs <;> cases d <;> first | exact h.elim | skip
  · exact .excN a
  · obtain ⟨gs, e, n, r⟩ := h
    have hk := RWp.fst r
    show RW K S H (.exc a (some _) (List.map (fun x : Str × W => x.1) _) (List.map (fun x : Str × W => x.2) _)) (.ref a)
    simp only [Option.getD_some]
    refine .exc (vs := gs.map (·.2)) ?_ n (by simp [RWp.len r]) (RWp.snd r)
    rw [hk, zip_prodV, e]
theorem Xr.iss (h : Xr K S H fs d) : fs.isSome = d.isSome := by
  cases fs <;> cases d <;> first | exact h.elim | rfl
end
def dTryAs (K : PySem.W.Frag) (C : Value) (i : Nat) (tb : DS') (ts : Addr → Value → Option Addr → DS') : DS' := fun D ω S => tb { nx := fun ω' S' => D.nx ⟨ω'.s, ω.ex⟩ S', rt := D.rt, bk := fun ω' S' => D.bk ⟨ω'.s, ω.ex⟩ S', ct := fun ω' S' => D.ct ⟨ω'.s, ω.ex⟩ S' }
  ⟨ω.s, fun c fs l S' => ∃ b, PySem.W.exmOne K c C = some b ∧ (b = true → ∀ a d, fs.isSome = d.isSome → ts a c d { nx := fun _ _ => False, rt := D.rt } ⟨l.set i (some (exW a d fs)), XF⟩ S') ∧ (b = false → ω.ex c fs l S')⟩ S
section
variable {X : Cx} {Z : WX} {x n : Str} {c : Value} {i : Nat} {body suite : List Stmt} {b₀ : Stmt} {np pos' pos : Pos} {tb : DS'} {ts : Addr → Value → Option Addr → DS'}
theorem ds_tryAs (hN : X.N.Nodup) (hc : Names X x c) (tk : Takes X Z) (hb : ∀ (W : WX) (pn : List (Addr × Obj)) (xe : Value → Shared → Prop), Takes (X.tr pn xe) W → PassesOwn (model X.prog X.w) X.A X.env xe → DSs (X.tr pn xe) W body tb)
    (hsu : ∀ (a : Addr) (oe : Obj) (cls : Value) (d : Option Addr) (pn : List (Addr × Obj)), Zc cls d oe → (∃ vs, oe.data = .fields vs) → DSs (X.suite a ((a, oe) :: pn)) Z0 (b₀ :: suite) (ts a cls d)) (hi : X.N[i]? = some n := by rfl) (hs : X.stack = X.env :: X.outer := by rfl) (hf : X.env.frame = some X.env.locals := by rfl) (hl : X.env.kindOf n = some .local := by rfl) :
    DS X Z (.Try body [.ExceptHandler (some (.Name x np)) (some n) (b₀ :: suite) pos'] [] [] pos) (dTryAs X.K c i tb ts) :=
  PS.im (ps_try_as (tb := fun W => uS X.K W tb) (ts := fun a cls d => uS X.K Z0 (ts a cls d)) hs hf hN hi hl hc tk hb hsu) fun D σ H ⟨ω, S, Dd, a, h, f⟩ => by
    refine ⟨⟨ω.s, fun c' fs l S' => ∃ b, PySem.W.exmOne X.K c' c = some b ∧ (b = true → ∀ a d, fs.isSome = d.isSome → ts a c' d { nx := fun _ _ => False, rt := Dd.rt } ⟨l.set i (some (exW a d fs)), XF⟩ S') ∧ (b = false → ω.ex c' fs l S')⟩, S, { nx := fun ω' S' => Dd.nx ⟨ω'.s, ω.ex⟩ S', rt := Dd.rt, bk := fun ω' S' => Dd.bk ⟨ω'.s, ω.ex⟩ S', ct := fun ω' S' => Dd.ct ⟨ω'.s, ω.ex⟩ S' }, ⟨a.rel, a.rs, fun cl fs l S' σ' H' d x' r rs xr ⟨b, e, ht, hf'⟩ => ⟨b, e, fun hbt p np => ?_, fun hb0 => a.fx cl fs l S' σ' H' d x' r rs xr (hf' hb0)⟩⟩, h, ?_⟩
    · exact ⟨⟨l.set i (some (exW p d fs)), XF⟩, S', _, ⟨r, rs.set (xr.rw p) i, .zero⟩, ht hbt p d xr.iss, ⟨fun _ _ _ _ _ _ q => q.elim, (fun w2 S2 v2 H2 x2 => f.rt w2 S2 v2 H2 (x'.trans x2)), fun _ _ _ _ _ _ q => q.elim, fun _ _ _ _ _ _ q => q.elim⟩⟩
    · exact ⟨fun ω' S' σ' H' x a' q => f.nx ⟨ω'.s, ω.ex⟩ _ _ _ x ⟨a'.rel, a'.rs, a.fx.to x⟩ q, f.rt, fun ω' S' σ' H' x a' q => f.bk ⟨ω'.s, ω.ex⟩ _ _ _ x ⟨a'.rel, a'.rs, a.fx.to x⟩ q, fun ω' S' σ' H' x a' q => f.ct ⟨ω'.s, ω.ex⟩ _ _ _ x ⟨a'.rel, a'.rs, a.fx.to x⟩ q⟩
end
section
variable {Y : Cx} {Z : WX} {a D : Addr} {oe : Obj} {cls : Value} {d : Option Addr}
theorem exc_kit {pins : List (Addr × Obj)} {σ : L2.St} {S : Sto} {H : Hp} {s : Shared} {ns : List Str} {ws : List W} {v : V} (T : ExcC Y.K D) (hp : (a, oe) ∈ Y.pn) (hz : Zc (.ref D) d oe) (hf : ∃ vs, oe.data = .fields vs) (I : Inv Y pins σ H s) (r : RW Y.K S H (.exc a d ns ws) v) :
    v = .ref a ∧ ∃ Pr : Heap → Prop, PySem.W.KitX Y.K (.ref a) (.ref D) Pr ∧ Pr s.heap := by
  have stands := (I.pin (a, oe) (List.mem_append_left _ hp)).1
  obtain ⟨vs, hv⟩ := hf
  cases r with
  | excN =>
    refine ⟨rfl, _, PySem.W.handS_kitx_exc (ox := oe) T.hg T.hk T.hs T.hd T.ha T.hn T.ht T.hm, ?_⟩
    obtain ⟨oc, od, oda, osl⟩ := oe
    obtain ⟨z1, z2⟩ := hz
    simp only at z1 z2 hv
    subst z1 z2 hv
    exact ⟨stands, rfl, rfl, trivial⟩
  | @exc _ dd _ _ us h n e rs =>
    have keeps : ObjOk Y.prog Y.w H s.heap dd (.xd (ns.zip us)) := I.hok dd _ h
    obtain ⟨mA, within, _⟩ := keeps
    obtain ⟨od, o1, _⟩ := lookIn_ns within
    have isC : (PySem.W.clsIn Y.K D).isSome = true := by
      obtain ⟨cd, c1, _⟩ := PySem.W.any_some T.hd
      rw [c1]; rfl
    exact ⟨rfl, _, PySem.W.kitx_exc (ox := oe) (od := some od) isC T.hg T.hk T.hs T.ha T.hn T.ht T.hm, ⟨stands, hz.1, (by unfold PySem.W.notCls; rw [hv] <;> rfl), (by rw [hz.2]; exact o1)⟩⟩
def clsW : W → Option Value
  | .ref p => some (.ref p)
  | .ty n => some (.type n)
  | _ => none
def dIsE (K : PySem.W.Frag) (Ds : List Addr) (a : Addr) (cls : Value) (d : Option Addr) : DC' := fun ws S Q => ∃ D ∈ Ds, cls = .ref D ∧ ∃ ns xs c cv b, ws = [.exc a d ns xs, c] ∧ clsW c = some cv ∧ PySem.W.kitOne K (.ref D) cv = some b ∧ Q (.bl b) S
theorem cd_isE {Ds : List Addr} (T : ∀ D ∈ Ds, ExcC Y.K D) (hp : (a, oe) ∈ Y.pn) (hz : Zc cls d oe) (hf : ∃ vs, oe.data = .fields vs) : CD Y (.builtin "isinstance") (dIsE Y.K Ds a cls d) := fun pins s σ H xs us Q I rx ⟨ws, S, Qd, r, rs, ⟨D, hD, ec, ns, zs, c, cv, b, e, hc, hk, q⟩, fi⟩ => by
  subst e
  subst ec
  obtain ⟨v1, v2, rfl, r1, r2⟩ := rs.two
  obtain ⟨rfl, Pr, kit, pr⟩ := exc_kit (T D hD) hp hz hf I r1
  cases rx with
  | cons a1 rx =>
    cases rx with
    | cons a2 rx =>
      cases rx
      cases a1
      rename_i u2
      have e2 : u2 = cv := by
        cases c <;> first | cases hc | skip
        all_goals cases r2; exact a2
      subst e2
      exact PySem.W.kia_one kit I.kIn pr hk (fun z => nomatch z) fun tk => ⟨.bl b, H, I.tok tk, rfl, fi.one r (.bl b) q⟩
def dXf (Ds : List Addr) (a : Addr) (cls : Value) (d : Option Addr) (f : Str) (te : DE') : DE' := fun ω S Q => te ω S fun w S1 => ∃ D ∈ Ds, cls = .ref D ∧ ∃ ns xs v, w = .exc a d ns xs ∧ d.isSome = true ∧ (ns.zip xs).lookup f = some v ∧ Q v S1
theorem de_xf {Ds : List Addr} {e : Expr} {te : DE'} {pos : Pos} {f : Str} (T : ∀ D ∈ Ds, ExcC Y.K D ∧ PySem.W.findIn Y.K (.ref D) f = some none) (hp : (a, oe) ∈ Y.pn) (hz : Zc cls d oe) (hf : ∃ vs, oe.data = .fields vs) (he : DE Y Z e te) (hb : attributeBase e f Y.env (eval e Y.env) = eval e Y.env := by rfl) : DE Y Z (.Attribute e f pos) (dXf Ds a cls d f te) := by
  refine ⟨fun pins s σ H Q I ⟨ω, S, Qd, at0, h, fi⟩ => ?_⟩
  refine attr_of hb (thn (he.run pins s σ H (fun v H1 => ∃ D ∈ Ds, cls = .ref D ∧ ∃ ns xs u S1, Nx S H S1 H1 ∧ Rel Y.K S1 H1 ∧ RW Y.K S1 H1 (.exc a d ns xs) v ∧ d.isSome = true ∧ (ns.zip xs).lookup f = some u ∧ Qd u S1) I ⟨ω, S, _, at0, h, fun w S1 v H1 x1 r1 q1 ⟨D, hD, ec, ns, xs, u, e1, e2, e3, e4⟩ => ⟨D, hD, ec, ns, xs, u, S1, x1, r1, e1 ▸ q1, e2, e3, e4⟩⟩) fun v s1 ⟨x, H1, I1, rx, D, hD, ec, ns, xs, u, S1, x1, r1, q1, e2, e3, e4⟩ => ?_)
  subst ec
  have stands := (I1.pin (a, oe) (List.mem_append_left _ hp)).1
  obtain ⟨T, no⟩ := T D hD
  obtain ⟨vs, hv⟩ := hf
  cases q1 with
  | excN => cases e2
  | @exc _ dd _ _ us h1 n1 e rs =>
    cases (show v = Value.ref a from rx)
    have keeps : ObjOk Y.prog Y.w H1 s1.heap dd (.xd (ns.zip us)) := I1.hok dd _ h1
    obtain ⟨mA, within, hr⟩ := keeps
    obtain ⟨od, o1, o2⟩ := lookIn_ns within
    obtain ⟨y, hy, ry⟩ := RWp.look (RWp.zip e rs) e3
    obtain ⟨t, ht, rt⟩ := RelO.some_of (v := y) (o := mA f) (by rw [← hy]; exact hr f)
    have J : PySem.W.InstAt s1.heap a oe D (some od) := ⟨stands, hz.1, (by unfold PySem.W.notCls; rw [hv] <;> rfl), (by rw [hz.2]; exact o1)⟩
    exact HandSPX.exc_get I1.kIn J T.hg T.hk T.hs (PySem.W.findObj_own T.hd no rfl (by rw [o2, ht])) (handed_of rt) ⟨y, H1, I1.tok _, rt, fi u S1 y H1 x1 r1 ry e4⟩
end
section
variable (P : Program) (w : World) (K : PySem.W.Frag) (mg : Str → Option Value) (base : Heap)
structure FnP (k : Nat) (f : Addr) (fd : FuncData) (ps : List Str) (sp : Sp) (p : Addr × Obj) : Prop where
  many : ∀ vs H Q E, sp vs H Q E → vs.length = ps.length
  go : ∀ (A : Around) (outer : List Env) (s : Shared) (H : Hp) (as : Args) (us : List Value) (vs : List V) (Q : VK) (E : XK),
    L2H.RoomH k A → L2H.PinOk outer H s p → Env0 P w K mg base A outer s H → BindsTo s fd as (ps.zip us) → Vals vs us → sp vs H Q E → codeAny (model P w) A (.call (.ref f) as) (CR CX0 outer P w H s Q E) s
end
section
variable {P : Program} {w : World} {K : PySem.W.Frag} {mg : Str → Option Value} {base : Heap}
theorem Fun.okP {x qual : Str} {st : Stmt} {f : Addr} {fd : FuncData} {N ps : List Str} {k : Nat} {dsp : DSp} {p : Addr × Obj} (F : Fun K x qual st f fd) (sc : FnScope N ps (defScope st)) (td : DS')
    (hb : ∀ (cdv : Value) (A : Around) (outer : List Env) (s : Shared) (H : Hp) (E : XK), L2H.RoomH k (A.deeper (envOfC qual (defScope st) s.heap.objs.size f cdv)) → DSs (L2H.cxH CX0 P w K mg base N qual (defScope st) f cdv A outer s H E p) Z0 (defBody st) td)
    (len : ∀ ws S Q E, dsp ws S Q E → ws.length = ps.length) (hd : ∀ ws S Q E, dsp ws S Q E → td { nx := fun _ S' => frzQ Q .non S', rt := frzQ Q } ⟨ζg N ws, XF⟩ S) : FnP P w K mg base (k + 1) f fd ps (uSp K dsp) p := by
  obtain ⟨oc, od, kV, doc, pm, an, cdv, ct, osl, rfl, lk, hcd⟩ := F.ex
  have many : ∀ vs H Q E, uSp K dsp vs H Q E → vs.length = ps.length := fun vs H Q E ⟨ws, S, Qd, Ed, r, rs, h, _⟩ => by rw [← rs.len]; exact len _ _ _ _ h
  refine ⟨many, fun A outer s H as us vs Q E room pinned around bound rel want => ?_⟩
  have inK : K.In s.heap := around.mod.kin.keeps fun b o e => (around.bs b o e).1
  have unlimited : s.heap.NoLimit := around.mod.nolimit.keeps fun b o e => (around.bs b o e).1
  have inSc : ∀ y ∈ ps.zip us, (defScope st).names.lookup y.1 = some .local ∨ ((defScope st).names.lookup y.1 = some .cell ∧ ((cellsFrom (s.heap.objs.size + 1) (defScope st).names []).lookup y.1).isSome = true) := by
    rintro ⟨n, v⟩ hy
    rcases sc.par n (List.of_mem_zip hy).1 with q | q
    · exact .inl q
    · exact .inr ⟨q, PySem.W.cellsFrom_some _ _ _ (.inl q)⟩
  refine codeAny_call_function room.depth (inK _ _ lk) rfl sc.co sc.gen rfl (PySem.W.codeRec_of inK hcd) (bound _ _ _ _ ?_)
  refine wpAny_newFunctionEnv_cells sc.kind inSc fun env made s1 started => ?_
  subst made
  refine ⟨unlimited.keeps started.toInCall.keep, codeAny_func ?_⟩
  have J := L2H.inv_startH (CX := CX0) (E := E) sc pinned around (many _ _ _ _ want) rel started
  obtain ⟨ws, S, Qd, Ed, r, rs, h, f', _⟩ := want
  have body := hb cdv A outer s H E (room.deeper _)
  have out : ∀ {σ' : L2.St} {H' : Hp} {v : V} {u : Value} {s' : Shared}, Inv (L2H.cxH CX0 P w K mg base N qual (defScope st) f cdv A outer s H E p) [] σ' H' s' → RelV v u → Q v H' → CE outer P w H s Q u s' := fun {σ' H' v u s'} J' rv q => ⟨v, H', J'.os, J'.bare, J'.base, J'.hok, rv, q⟩
  refine wpAny_mono (body.run [] s1 (L2.start N vs) H { nx := fun _ H' => Q .non H', rt := Q, bk := fun _ _ => False, ct := fun _ _ => False } J ⟨⟨ζg N ws, XF⟩, S, _, ⟨r, RS.start rs, .zero⟩, hd ws S Qd Ed h, ⟨fun ω' S' σ' H' x a q => f'.frz _ _ _ _ x a.rel .non q, f'.frz, fun _ _ _ _ _ _ q => q.elim, fun _ _ _ _ _ _ q => q.elim⟩⟩) (fun fl s' got => ?_) fun e s' z => z
  cases fl with
  | ret u => obtain ⟨v, σ', H', J', rv, q⟩ := got; exact out J' rv q
  | next => obtain ⟨σ', H', J', q⟩ := got; exact out (v := .non) (u := .none) J' rfl q
  | brk => obtain ⟨_, _, _, q⟩ := got; exact q.elim
  | cont => obtain ⟨_, _, _, q⟩ := got; exact q.elim
end
def HotD (P : Program) (w : World) (K : PySem.W.Frag) (mg : Str → Option Value) (base : Heap) (k : Nat) (x : Str) (dsp : Addr → Value → Option Addr → DSp) : Prop :=
  ∃ (f : Addr) (fd : FuncData) (ps : List Str), (∀ (p : Addr × Obj) (cls : Value) (d : Option Addr), Zc cls d p.2 → (∃ vs, p.2.data = .fields vs) → FnP P w K mg base k f fd ps (uSp K (dsp p.1 cls d)) p) ∧ mg x = some (.ref f) ∧ PySem.W.keepIn K (.ref f) = true ∧ Binds K fd ps []
section
variable {Y : Cx} {Z : WX} {a : Addr} {oe : Obj} {cls : Value} {d : Option Addr} {k j : Nat} {x : Str} {q pos : Pos} {e : Expr} {es : List Expr} {t : DA'} {dsp : Addr → Value → Option Addr → DSp}
theorem de_callP (c : HotD Y.prog Y.w Y.K Y.mg Y.base k x dsp) (hp : (a, oe) ∈ Y.pn) (hz : Zc cls d oe) (hf : ∃ vs, oe.data = .fields vs) (hr : L2H.RoomH j Y.A) (ha : DA Y Z (e :: es) t) (hk : k ≤ j := by decide) (hg : Gl Y x := by rfl)
    (hdb : (x == ("__debug__" : Str)) = false := by decide) (he : starEach (e :: es) Y.env = (false, eval e Y.env) :: starEach es Y.env := by rfl) (hpl : (backTo pos (starEach es Y.env)).any (·.1) = false := by rfl) :
    DE Y Z (.Call (.Name x q) (e :: es) [] pos) (ζu (dsp a cls d) t) := by
  obtain ⟨f, fd, ps, F, hm, kp, hb⟩ := c
  have F := F (a, oe) cls d hz hf
  refine ⟨fun pins s σ H Q I ⟨ω, S, Qd, at0, h, fi⟩ => ?_⟩
  refine wpAny_Call_Name_kw (ld_glob I hg hm ?_ hdb)
  refine PySem.W.callWith_K (h₀ := Y.base) I.ok.mod.kin kp (thn (ha.run pos pins s σ H (fun vs H1 => uSp Y.K (dsp a cls d) vs H1 Q fun _ _ _ => False) I ⟨ω, S, _, at0, h, fun ws S1 vs H1 x1 r1 q1 h1 => ⟨ws, S1, Qd, X0, r1, q1, h1, (fun w S' v H' x' r' q' h' => fi w S' v H' (x1.trans x') r' q' h'), .zero⟩⟩) fun xs s1 ⟨vs, H1, I1, rv, want⟩ => ⟨I1.kIn, ?_⟩) he hpl
  have hl : xs.length = ps.length := by rw [← rv.length]; exact F.many _ _ _ _ want
  have bound := hb s1 xs I1.kIn (by rw [List.append_nil]; exact hl)
  rw [List.append_nil] at bound
  obtain ⟨g1, g2, g3, g4, g5⟩ := I1.pin (a, oe) (List.mem_append_left _ hp)
  have pinned : L2H.PinOk Y.stack H1 s1 (a, oe) := ⟨g1, g2, fun hm => (List.mem_cons.mp (I1.stkSub a hm)).elim g3 g4, g5⟩
  refine wpAny_call (codeAny_mono (F.go Y.A Y.stack s1 H1 ⟨xs, []⟩ xs vs Q _ ⟨by have := hr.dp; omega, by have := hr.un; omega⟩ pinned I1.env0 bound rv want) fun res s' got => ?_)
  cases res with
  | error er => exact got.elim
  | ok fl =>
    cases fl with
    | ret u => exact I1.after got
    | next => exact False.elim got
    | brk => exact False.elim got
    | cont => exact False.elim got
end
section
variable {X : Cx} {Z : WX}
theorem oc_eqU (hu : X.A.units + 64 < cLine) : OD X (compareOp .Eq) dEq := OpR.im (op_eqD hu) fun x y H Q ⟨w1, w2, S, Qd, r, r1, r2, ⟨d1, d2, q⟩, fi⟩ =>
  let ⟨e1, e2⟩ := view_dp r r1 d1
  let ⟨e3, e4⟩ := view_dp r r2 d2
  ⟨_, _, e1, e3, e2, e4, fi.one r (.bl _) q⟩
theorem oc_neU (hu : X.A.units + 64 < cLine) : OD X (compareOp .NotEq) dNe := OpR.im (op_neD hu) fun x y H Q ⟨w1, w2, S, Qd, r, r1, r2, ⟨d1, d2, q⟩, fi⟩ =>
  let ⟨e1, e2⟩ := view_dp r r1 d1
  let ⟨e3, e4⟩ := view_dp r r2 d2
  ⟨_, _, e1, e3, e2, e4, fi.one r (.bl _) q⟩
theorem de_indexU {o e : Expr} {to : DE'} {t : DA'} {apos cpos : Pos} (hu : X.A.units + 65 < cLine) (ho : DE X Z o to) (ha : DA X Z [e] t) (hbase : attributeBase o "index" X.env (eval o X.env) = eval o X.env := by rfl)
    (hfew : ((backTo cpos (starEach [e] X.env)).all (fun x => !x.1) && (backToKw cpos (keywordEach [] X.env)).all (fun x => x.1.isSome) && decide (([e] : List Expr).length + ([] : List Keyword).length + (if ([] : List Keyword).isEmpty then 0 else 1) < 30)) = true := by rfl)
    (hline : (apos.endLine == cpos.line) = true := by rfl) (hs : starEach [e] X.env = (false, eval e X.env) :: starEach [] X.env := by rfl) (hplain : (backTo cpos (starEach [] X.env)).any (·.1) = false := by rfl) :
    DE X Z (.Call (.Attribute o "index" apos) [e] [] cpos) (dBM dIdx to t) := de_bm PySem.F.slot_list_index PySem.F.type_list_index (mt_idx hu) ho ha hbase hfew hline hs hplain
def dCount : DM' := fun w ws S Q => match w, ws with
  | .lst xs, [y] => okD (.lst xs) = true ∧ okD y = true ∧ Q (.int (xs.countP fun z => weq z y : Nat)) S
  | _, _ => False
theorem mt_cnt (hu : X.A.units + 65 < cLine) : MtR X "list.count" (uM X.K dCount) := fun pins s σ H x xs v us Q I rx rs ⟨w, ws, S, Qd, r, r1, r2, q, fi⟩ => by
  unfold dCount at q
  split at q
  · rename_i ys y
    obtain ⟨z, rfl, rz⟩ := r2.one
    obtain ⟨o1, o2, h1⟩ := q
    obtain ⟨e1, e2⟩ := r1.shaped o1
    obtain ⟨e3, e4⟩ := rz.shaped o2
    rw [pd] at e1 e2
    obtain ⟨a, rfl⟩ : ∃ a, x = V.ref a := by cases r1; exact ⟨_, rfl⟩
    obtain rfl : v = Value.ref a := rx
    obtain ⟨uy, rfl, ry⟩ := rs.one
    obtain ⟨bs, seen⟩ := Dp.reads I _ z uy e3 ry
    have flat : PyData.canLayAll0 (pds ys) = true := SeqAt.canLay_of_shaped e2
    have room : X.A.units + 1 + min (PyData.depthAll (pds ys)) (pd y).depth < cLine := room_in_shaped e4 hu
    cases e1 with
    | lst hs ha =>
      obtain ⟨its, rv, ⟨⟨cls, dd, data, sls⟩, n, ho, hc, hdn, hdt⟩, hlen⟩ := I.list hs
      simp only at hc hdt
      subst hc hdt
      obtain ⟨as, all⟩ := Dp.readsAll I _ _ its ha rv
      have same : its.map (SeqAt.readOf s.heap) = pds ys := SeqAt.readsAll_map _ its as flat all
      refine call_meets PySem.F.slot_list_count ⟨_, ho, rfl⟩ PySem.F.entry_list_count (PySem.F.args_list_count_2 _ _) (SeqAt.list_countAt a its.toArray n dd sls uy fun u => PyData.eqv (SeqAt.readOf s.heap u) (pd y))
        ⟨ho, SeqAt.items_eqAt (vs := its.toArray) (show ReadsAll s.heap its.toArray.toList (pds ys) as from all) seen flat (SeqAt.canLay_of_shaped e4) room, ?_⟩
      have told : its.countP (fun u => PyData.eqv (SeqAt.readOf s.heap u) (pd y)) = ys.countP fun z => weq z y := by
        have := List.countP_map (p := fun d => PyData.eqv d (pd y)) (f := SeqAt.readOf s.heap) (l := its)
        rw [same, pds_map, List.countP_map] at this
        exact this.symm
      refine ⟨.int (ys.countP fun z => weq z y : Nat), H, I.tok _, ⟨s.toks, ?_⟩, fi.one r (.int _) h1⟩
      show Value.int ((its.toArray.toList.countP _ : Nat) : Int) s.toks = _
      rw [show its.toArray.toList = its from rfl, told]
  · exact q.elim
theorem de_count {o e : Expr} {to : DE'} {t : DA'} {apos cpos : Pos} (hu : X.A.units + 65 < cLine) (ho : DE X Z o to) (ha : DA X Z [e] t) (hbase : attributeBase o "count" X.env (eval o X.env) = eval o X.env := by rfl)
    (hfew : ((backTo cpos (starEach [e] X.env)).all (fun x => !x.1) && (backToKw cpos (keywordEach [] X.env)).all (fun x => x.1.isSome) && decide (([e] : List Expr).length + ([] : List Keyword).length + (if ([] : List Keyword).isEmpty then 0 else 1) < 30)) = true := by rfl)
    (hline : (apos.endLine == cpos.line) = true := by rfl) (hs : starEach [e] X.env = (false, eval e X.env) :: starEach [] X.env := by rfl) (hplain : (backTo cpos (starEach [] X.env)).any (·.1) = false := by rfl) :
    DE X Z (.Call (.Attribute o "count" apos) [e] [] cpos) (dBM dCount to t) := de_bm PySem.F.slot_list_count PySem.F.type_list_count (mt_cnt hu) ho ha hbase hfew hline hs hplain
end
theorem rmH {j : Nat} {A : Around} (hr : Room j A) (h : Option Value) : L2H.RoomH j (A.mark h) := ⟨hr.dp, hr.un⟩
theorem unH {j : Nat} {A : Around} (hr : L2H.RoomH j A) : A.units + 64 < cLine := by have := hr.un; omega
theorem unH5 {j : Nat} {A : Around} (hr : L2H.RoomH j A) : A.units + 65 < cLine := by have := hr.un; omega
section
variable {X : Cx} {Z : WX} {e o : Expr} {es : List Expr} {t tk : DA'} {to : DE'} {C : Addr} {m : Str} {pos apos p : Pos} {k j n nk : Nat} {dsp : DSp} {us : List W} {ks : List Str} {ix : List Nat} {kws : List Keyword}
end
open LamX (CodeO TabB LamS lamEnv lamCx lamS_by)
structure Tab0 (H : Hp) (P : Addr) (q : Str) (ps : Array Value) : Prop where
  stands : H P = some (.tbl ps)
  threes : TriplesOk ps.toList
  tells : ∀ (pos : Pos) (cv : Value), codeAmong pos ps.toList = some cv → ∃ c, cv = .ref c ∧ H c = some (CodeO c q)
def Grown (H : Hp) (P : Addr) (q : Str) (H' : Hp) : Prop :=
  H' = H ∨ ∃ (ps : Array Value) (c : Addr), H c = none ∧ c ≠ P ∧ H' = upd (upd H P (.tbl ps)) c (CodeO c q) ∧ Tab0 H' P q ps
section
variable {X : Cx} {pins : List (Addr × Obj)} {σ : L2.St} {H : Hp} {s : Shared}
theorem lam_new {c P : Addr} {args : Arguments} {body : Expr} {scope : Scope} {pos : Pos} {E Q : Value → Shared → Prop} {ps : Array Value} (I : Inv X pins σ H s) (B : TabB X.base X.mg c P) (own : X.env.code = .ref c)
    (t : Tab0 H P (X.env.qual ++ "<lambda>") ps) (nodef : defaultsOf args X.env = ([], [])) (cells : ∀ y ∈ scope.names, y.2 = .free → ∃ c, X.env.cells.lookup y.1 = some c)
    (go : ∀ (f c' : Addr) (pm ctv : Value) (H1 : Hp) (s' : Shared), Inv X pins σ H1 s' → Grown H P (X.env.qual ++ "<lambda>") H1 →
      s'.heap.get? f = some (PySem.W.kla_obj "<lambda>" (X.env.qual ++ "<lambda>") args body scope (cloFrom X.env.cells scope.names []) pm c' ctv) → H1 f = none → f ∉ frs X.stack → H1 c' = some (CodeO c' (X.env.qual ++ "<lambda>")) → Q (.ref f) s') :
    wpAny (model X.prog X.w) X.A (eval (.Lambda args body scope pos) X.env) Q E s := by
  obtain ⟨stands, threes, tells⟩ := t
  refine PySem.W.kla_eval nodef ?_
  have known : s.heap.BuiltinsAt X.mg P := B.bm.keeps I.bk
  have there : s.heap.get? P = some { cls := .none, data := .fields ps } := I.hok P _ stands
  have away : ∀ f, s.heap.objs.size ≤ f → f ∉ frs X.stack := fun f big hm => by
    rcases List.mem_cons.mp (I.stkSub _ hm) with e | e
    · have small := I.lt
      rw [← e] at small
      exact absurd big (Nat.not_le_of_lt small)
    · exact I.nofs big e
  cases found : codeAmong pos ps.toList with
  | some cv =>
    obtain ⟨c', rfl, isCode⟩ := tells pos cv found
    refine PySem.W.kla_makeFunctionHit (mg := X.mg) (c := c) (P := P) (ps := ps) (closure_ok cells) I.ok.glob (I.mod.glob.keeps I.bk) own (B.code.keeps I.bk) there threes found known fun ctv h' tk ext big => ?_
    have J : Inv X pins σ H { s with heap := h'.push (PySem.W.kla_obj "<lambda>" (X.env.qual ++ "<lambda>") args body scope (cloFrom X.env.cells scope.names []) ((X.mg "__name__").getD .none) c' ctv), toks := tk } := I.kept fun b o e => Heap.get?_push_of_some _ (ext b o e)
    exact go _ c' _ ctv H _ J (.inl rfl) (Heap.get?_push_size _ rfl) (I.hok.fresh big) (away _ big) isCode
  | none =>
    refine PySem.W.kla_makeFunction (mg := X.mg) (c := c) (P := P) (ps := ps) (closure_ok cells) I.ok.glob (I.mod.glob.keeps I.bk) own (B.code.keeps I.bk) there threes found B.gP known fun c' ctv h' tk ext big less code tab => ?_
    obtain ⟨c2, oc, vs, w, e2, hoc, hd, hv⟩ := code
    cases e2
    have new : H c' = none := I.hok.fresh big
    have big' : s.heap.objs.size ≤ h'.objs.size := Nat.le_trans big (Nat.le_of_lt less)
    have J := LamX.inv_table (t' := tk) (more := #[rawInt pos.line, rawInt pos.col, .ref c']) (q := X.env.qual ++ "<lambda>") (h' := h'.push (PySem.W.kla_obj "<lambda>" (X.env.qual ++ "<lambda>") args body scope (cloFrom X.env.cells scope.names []) ((X.mg "__name__").getD .none) c' ctv))
      I stands (fun b o ne e => Heap.get?_push_of_some _ (ext b o ne e)) (Heap.get?_push_of_some _ tab) big ⟨oc, vs, w, Heap.get?_push_of_some _ hoc, hd, hv⟩
    have neP : c' ≠ P := fun e => by rw [e, stands] at new; cases new
    have at1 : ∀ b, b ≠ P → b ≠ c' → upd (upd H P (.tbl (ps ++ #[rawInt pos.line, rawInt pos.col, .ref c']))) c' (CodeO c' (X.env.qual ++ "<lambda>")) b = H b := fun b h1 h2 => by rw [upd_ne h2, upd_ne h1]
    refine go _ c' _ ctv _ _ J (.inr ⟨_, c', new, neP, rfl, ⟨by rw [upd_ne (Ne.symm neP), upd_same], ?_, fun p' cv hcv => ?_⟩⟩) (Heap.get?_push_size _ rfl) ?_ (away _ big') upd_same
    · rw [Array.toList_append]
      exact PySem.TriplesOk_snoc _ _ _ _ threes
    · rw [Array.toList_append] at hcv
      rcases LamX.among_app _ threes hcv with z | z
      · obtain ⟨c0, e1, e2⟩ := tells p' cv z
        refine ⟨c0, e1, ?_⟩
        rw [at1 c0 (fun e => by rw [e, stands] at e2; exact LamX.codeO_ne ps (Option.some.inj e2).symm) (fun e => by rw [e, new] at e2; cases e2)]
        exact e2
      · exact ⟨c', z, upd_same⟩
    · rw [at1 _ (fun e => absurd (Heap.lt_size there) (Nat.not_lt_of_le (by rw [← e]; exact big'))) (Nat.ne_of_gt less)]
      exact I.hok.fresh big'
end
def capW : List Nat → List (Option W) → Option (List W)
  | [], _ => some []
  | i :: is, l => match l[i]?, capW is l with
    | some (some w), some ws => some (w :: ws)
    | _, _ => none
def capV : List Nat → L2.St → Option (List V)
  | [], _ => some []
  | i :: is, l => match l[i]?, capV is l with
    | some (some w), some ws => some (w :: ws)
    | _, _ => none
def capt : Nat → List Nat → List (Option W) → List (Option W)
  | _, _, [] => []
  | j, is, x :: xs => (if j ∈ is then x else none) :: capt (j + 1) is xs
theorem capt_len : ∀ (j : Nat) (is : List Nat) (l : List (Option W)), (capt j is l).length = l.length
  | _, _, [] => rfl
  | j, is, x :: xs => by rw [capt, List.length_cons, List.length_cons, capt_len]
theorem capt_at : ∀ {l : List (Option W)} {j i : Nat} {is : List Nat} {w : W}, (capt j is l)[i]? = some (some w) → (j + i) ∈ is ∧ l[i]? = some (some w)
  | [], _, _, _, _, h => by simp [capt] at h
  | x :: xs, j, 0, is, w, h => by
    rw [capt, List.getElem?_cons_zero] at h
    by_cases c : j ∈ is
    · rw [if_pos c] at h
      exact ⟨c, by rw [List.getElem?_cons_zero]; exact h⟩
    · rw [if_neg c] at h; cases h
  | x :: xs, j, i + 1, is, w, h => by
    rw [capt, List.getElem?_cons_succ] at h
    obtain ⟨h1, h2⟩ := capt_at h
    exact ⟨by rw [show j + (i + 1) = j + 1 + i by omega]; exact h1, by rw [List.getElem?_cons_succ]; exact h2⟩
section
variable {K : PySem.W.Frag} {S S' : Sto} {H H' : Hp} {σ : L2.St} {l : List (Option W)}
theorem cap_rel (r : RS K S H σ l) : ∀ {is : List Nat} {ws : List W}, capW is l = some ws → ∃ vs, capV is σ = some vs ∧ RWs K S H ws vs
  | [], ws, h => by cases h; exact ⟨[], rfl, .nil⟩
  | i :: is, ws, h => by
    unfold capW at h
    cases e1 : l[i]? with
    | none => rw [e1] at h; cases h
    | some o =>
      cases o with
      | none => rw [e1] at h; cases h
      | some w =>
        cases e2 : capW is l with
        | none => rw [e1, e2] at h; cases h
        | some ws' =>
          rw [e1, e2] at h
          cases h
          obtain ⟨v, ev, rv⟩ := r.at' i w e1
          obtain ⟨vs, evs, rvs⟩ := cap_rel r e2
          exact ⟨v :: vs, by rw [capV, ev, evs], .cons rv rvs⟩
theorem cap_back : ∀ {is : List Nat} {ws : List W} {vs : List V}, capW is l = some ws → capV is σ = some vs → RWs K S H ws vs → ∀ i ∈ is, ∀ w, l[i]? = some (some w) → ∃ v, σ[i]? = some (some v) ∧ RW K S H w v
  | [], _, _, _, _, _, i, hi, _, _ => by cases hi
  | j :: is, ws, vs, h, h2, r, i, hi, w, hw => by
    unfold capW at h
    unfold capV at h2
    cases e1 : l[j]? with
    | none => rw [e1] at h; cases h
    | some o =>
      cases o with
      | none => rw [e1] at h; cases h
      | some w1 =>
        cases e2 : capW is l with
        | none => rw [e1, e2] at h; cases h
        | some ws' =>
          rw [e1, e2] at h
          cases h
          cases e3 : σ[j]? with
          | none => rw [e3] at h2; cases h2
          | some o3 =>
            cases o3 with
            | none => rw [e3] at h2; cases h2
            | some v1 =>
              cases e4 : capV is σ with
              | none => rw [e3, e4] at h2; cases h2
              | some vs' =>
                rw [e3, e4] at h2
                cases h2
                cases r with
                | cons q t =>
                  rcases List.mem_cons.mp hi with c | c
                  · subst c
                    rw [e1] at hw
                    cases hw
                    exact ⟨v1, e3, q⟩
                  · exact cap_back e2 e4 t i c w hw
theorem RS.cap {is : List Nat} {ws : List W} {vs : List V} (hl : σ.length = l.length) (h : capW is l = some ws) (h2 : capV is σ = some vs) (r : RWs K S H ws vs) : RS K S H σ (capt 0 is l) := by
  refine ⟨hl.trans (capt_len 0 is l).symm, fun i w e => ?_⟩
  obtain ⟨m, e2⟩ := capt_at e
  rw [Nat.zero_add] at m
  exact cap_back h h2 r i m w e2
end
abbrev LT := (XW → Sto → WQ → Prop) → Sto → WQ → Prop
def dAct (f c : Addr) (q : Str) (vs : List V) (xs : List W) (tl : XW → Sto → WQ → Prop) : DE' := fun ω S Q => ω.s[0]? = some (some (.lam f c q vs xs)) ∧ tl (fun c fs S' => ω.ex c fs ω.s S') S Q
def ActOk (Z : Cx) (a : Str) (f c : Addr) (q : Str) (vs : List V) (xs : List W) (tl : XW → Sto → WQ → Prop) : Prop :=
  ∀ (W : WX) (pn : List (Addr × Obj)) (xe : Value → Shared → Prop) (p1 p2 : Pos), Takes (Z.tr pn xe) W → DE (Z.tr pn xe) W (.Call (.Name a p1) [] [] p2) (dAct f c q vs xs tl)
section
variable (P : Program) (w : World) (K : PySem.W.Frag) (mg : Str → Option Value) (base : Heap)
def CalL (k : Nat) (x a : Str) (TT : LT) : Prop := ∃ (g : Addr) (st : Stmt) (fd : FuncData) (N : List Str), Fun K x x st g fd ∧ FnScope N [a] (defScope st) ∧ N[0]? = some a ∧ Vis (defScope st) a ∧ mg x = some (.ref g) ∧ PySem.W.keepIn K (.ref g) = true ∧ Binds K fd [a] [] ∧
  ∀ (cdv : Value) (A : Around) (outer : List Env) (s : Shared) (H : Hp) (f c : Addr) (q : Str) (vs : List V) (xs : List W) (tl : XW → Sto → WQ → Prop) (S : Sto) (Qd : WQ) (Q : VK), Room k (A.deeper (envOfC x (defScope st) s.heap.objs.size g cdv)) →
    ActOk (cxOf CX0 P w K mg base N x (defScope st) g cdv A outer s H C8.E0) a f c q vs xs tl → Rel K S H → RW K S H (.lam f c q vs xs) (.ref f) → TT tl S Qd → Fin K S H Qd Q →
    ∃ t, PSs (cxOf CX0 P w K mg base N x (defScope st) g cdv A outer s H C8.E0).nox (defBody st) t ∧ t { nx := fun _ H' => Q .non H', rt := Q } (L2.start N [.ref f]) H
end
section
variable {P : Program} {w : World} {K : PySem.W.Frag} {mg : Str → Option Value} {base : Heap}
theorem Fun.okL {x a : Str} {st : Stmt} {g : Addr} {fd : FuncData} {N : List Str} {k : Nat} {TT : LT} (F : Fun K x x st g fd) (sc : FnScope N [a] (defScope st)) (td : Addr → Addr → Str → List V → List W → (XW → Sto → WQ → Prop) → DS')
    (hb : ∀ (cdv : Value) (A : Around) (outer : List Env) (s : Shared) (H : Hp) (f c : Addr) (q : Str) (vs : List V) (xs : List W) (tl : XW → Sto → WQ → Prop), Room k (A.deeper (envOfC x (defScope st) s.heap.objs.size g cdv)) →
      ActOk (cxOf CX0 P w K mg base N x (defScope st) g cdv A outer s H C8.E0) a f c q vs xs tl → DSs (cxOf CX0 P w K mg base N x (defScope st) g cdv A outer s H C8.E0).nox Z0 (defBody st) (td f c q vs xs tl))
    (hd : ∀ f c q vs xs tl S Q, TT tl S Q → td f c q vs xs tl { nx := fun _ S' => frzQ Q .non S', rt := frzQ Q } ⟨ζg N [.lam f c q vs xs], XF⟩ S)
    (hm : mg x = some (.ref g)) (hk : PySem.W.keepIn K (.ref g) = true) (b : Binds K fd [a] []) (h0 : N[0]? = some a := by rfl) (hv : Vis (defScope st) a := by first | exact Or.inl rfl | exact Or.inr (Or.inl rfl)) : CalL P w K mg base k x a TT := by
  refine ⟨g, st, fd, N, F, sc, h0, hv, hm, hk, b, fun cdv A outer s H f c q vs xs tl S Qd Q hr act r rl h fi => ?_⟩
  refine ⟨_, hb cdv A outer s H f c q vs xs tl hr act, ?_⟩
  exact ⟨⟨ζg N [.lam f c q vs xs], XF⟩, S, _, ⟨r, RS.start (.cons rl .nil), .zero⟩, hd f c q vs xs tl S Qd h, ⟨fun ω' S' σ' H' x a q => fi.frz _ _ _ _ x a.rel .non q, fi.frz, fun _ _ _ _ _ _ q => q.elim, fun _ _ _ _ _ _ q => q.elim⟩⟩
end
def dLam (P : Addr) (q : Str) (is : List Nat) (TT : LT) (tb : DE') : DE' := fun ω S Q => S P = some (.tab q) ∧ (capW is ω.s).isSome = true ∧ TT (fun Ed S' Q' => tb ⟨capt 0 is ω.s, fun c fs _ S'' => Ed c fs S''⟩ S' Q') S Q
theorem Grown.nx {K : PySem.W.Frag} {S : Sto} {H H' : Hp} {P : Addr} {q : Str} (g : Grown H P q H') (r : Rel K S H) (hS : S P = some (.tab q)) : Nx S H S H' ∧ Rel K S H' := by
  rcases g with rfl | ⟨ps, c, n, ne, rfl, t⟩
  · exact ⟨.refl, r⟩
  · have x : Nx S H S (upd (upd H P (.tbl ps)) c (CodeO c q)) := ⟨fun b o hb nb => by rw [upd_ne (fun e => by subst e; rw [n] at hb; cases hb), upd_ne (fun e => by subst e; rw [hS] at nb; cases nb)]; exact hb, fun _ _ _ h => h⟩
    refine ⟨x, fun a o ho => ?_⟩
    by_cases e : a = P
    · subst e
      rw [hS] at ho
      cases ho
      cases r _ _ hS with
      | tab h0 t0 c0 =>
        refine .tab t.stands t.threes fun pos cv hcv => ?_
        obtain ⟨c1, e1, e2⟩ := t.tells pos cv hcv
        refine ⟨c1, e1, e2, ?_⟩
        by_cases ec : c1 = c
        · subst ec; exact r.free n
        · rw [upd_ne ec] at e2
          by_cases ep : c1 = a
          · subst ep; rw [upd_same] at e2; exact absurd (Option.some.inj e2).symm (LamX.codeO_ne ps)
          · rw [upd_ne ep] at e2
            cases hs : S c1 with
            | none => rfl
            | some o1 =>
              have ro := r _ _ hs
              cases ro with
              | lst q' _ => rw [q'] at e2; unfold CodeO at e2; cases e2
              | dK q' _ => rw [q'] at e2; unfold CodeO at e2; cases e2
              | dT q' _ => rw [q'] at e2; unfold CodeO at e2; cases e2
              | ins q' _ _ => rw [q'] at e2; unfold CodeO at e2; cases e2
              | own q' => rw [q'] at e2; unfold CodeO at e2; cases e2
              | tup q' _ => rw [q'] at e2; unfold CodeO at e2; cases e2
              | tab q' _ _ => rw [q'] at e2; unfold CodeO at e2; cases e2
              | tabF q' => rw [q'] at e2; unfold CodeO at e2; cases e2
    · exact (r a o ho).mono x (by rw [upd_ne (r.ne ho n).symm, upd_ne e]) fun _ h => h
section
variable {X : Cx} {Z : WX} {x a : Str} {c0 P : Addr} {k m j : Nat} {TT : LT} {args : Arguments} {body : Expr} {scope : Scope} {p lpos pos : Pos} {tb : DE'}
theorem de_lam {is : List Nat} (c : CalL X.prog X.w X.K X.mg X.base k x a TT) (B : TabB X.base X.mg c0 P) (own : X.env.code = .ref c0) (hr : Room j X.A) (L : LamS X.env.scope scope) (nodef : defaultsOf args X.env = ([], []))
    (nobind : ∀ (q : Str) (cl : List (Str × Addr)) (pm cv ctv : Value), bindArgs (PySem.W.kla_fn "<lambda>" q args body scope cl pm cv ctv) ⟨[], []⟩ = pure [])
    (hbody : ∀ (A : Around) (outer : List Env) (s : Shared) (H : Hp) (E : XK) (f c' : Addr), Room m (A.deeper (lamEnv X scope s.heap.objs.size f c')) → DE (lamCx X A outer s H E scope f c') (fun cls d _ H' => E cls d H') body tb)
    {q : Str} (hq : X.env.qual ++ "<lambda>" = q := by rfl) (hk : k + 1 ≤ j := by decide) (hm : m + 2 ≤ j := by decide) (hg : Gl X x := by rfl) (hdb : (x == ("__debug__" : Str)) = false := by decide) (hd : (a == ("__debug__" : Str)) = false := by decide) (hcd : (a == ("__classdict__" : Str)) = false := by decide) :
    DE X Z (.Call (.Name x p) [.Lambda args body scope lpos] [] pos) (dLam P q is TT tb) := by
  subst hq
  obtain ⟨g, st, fd, N, F, sc, h0N, hva, hmg, hkp, hb, giv⟩ := c
  obtain ⟨oc, od, kV, doc, pm, an, cdv, ct, osl, rfl, lk, hcg⟩ := F.ex
  refine ⟨fun pins s σ H Q I ⟨ω, S, Qd, at0, ⟨hS, hcap, ht⟩, fi⟩ => ?_⟩
  obtain ⟨ws, hws⟩ := Option.isSome_iff_exists.mp hcap
  obtain ⟨vs, hvs, rvs⟩ := cap_rel at0.rs hws
  obtain ⟨ps, t0⟩ : ∃ ps, Tab0 H P (X.env.qual ++ "<lambda>") ps := by
    cases at0.rel _ _ hS with
    | tab h1 h2 h3 => exact ⟨_, h1, h2, fun pos cv hcv => let ⟨c, e1, e2, _⟩ := h3 pos cv hcv; ⟨c, e1, e2⟩⟩
  refine wpAny_Call_Name_kw (ld_glob I hg hmg ?_ hdb)
  refine PySem.W.callWith_K (h₀ := X.base) I.ok.mod.kin hkp ?_ (by rfl) (by rfl)
  show wpAny _ _ (spliced ((false, eval (.Lambda args body scope lpos) X.env) :: backTo pos (starEach [] X.env))) _ _ s
  refine Calls.spliced_cons (lam_new I B own t0 nodef (L.has I.ok) fun f c' pm' ctv H1 s' I1 gr hf hfn hfr hco => ?_)
  refine Calls.spliced_nil ⟨I1.kIn, ?_⟩
  obtain ⟨x1, r1⟩ := gr.nx at0.rel hS
  have rl : RW X.K S H1 (.lam f c' (X.env.qual ++ "<lambda>") vs ws) (.ref f) := .lam hco (by
    rcases gr with rfl | ⟨ps2, c2, n2, ne2, rfl, t2⟩
    · cases hs : S c' with
      | none => rfl
      | some o1 =>
        cases at0.rel _ _ hs with
        | lst q' _ => rw [q'] at hco; unfold CodeO at hco; cases hco
        | dK q' _ => rw [q'] at hco; unfold CodeO at hco; cases hco
        | dT q' _ => rw [q'] at hco; unfold CodeO at hco; cases hco
        | ins q' _ _ => rw [q'] at hco; unfold CodeO at hco; cases hco
        | own q' => rw [q'] at hco; unfold CodeO at hco; cases hco
        | tup q' _ => rw [q'] at hco; unfold CodeO at hco; cases hco
        | tab q' _ _ => rw [q'] at hco; unfold CodeO at hco; cases hco
        | tabF q' => rw [q'] at hco; unfold CodeO at hco; cases hco
    · cases hs : S c' with
      | none => rfl
      | some o1 =>
        cases r1 _ _ hs with
        | lst q' _ => rw [q'] at hco; unfold CodeO at hco; cases hco
        | dK q' _ => rw [q'] at hco; unfold CodeO at hco; cases hco
        | dT q' _ => rw [q'] at hco; unfold CodeO at hco; cases hco
        | ins q' _ _ => rw [q'] at hco; unfold CodeO at hco; cases hco
        | own q' => rw [q'] at hco; unfold CodeO at hco; cases hco
        | tup q' _ => rw [q'] at hco; unfold CodeO at hco; cases hco
        | tab q' _ _ => rw [q'] at hco; unfold CodeO at hco; cases hco
        | tabF q' => rw [q'] at hco; unfold CodeO at hco; cases hco) (RWs.mono x1 rvs)
  have hr1 : Room (j - 1 + 1) X.A := hr.mono (by omega)
  have rc : codeAny (model X.prog X.w) X.A (.call (.ref g) ⟨[.ref f], []⟩) (CR C8.CX0 X.stack X.prog X.w H1 s' Q C8.E0) s' := by
    refine LamX.run_ofS (N := N) (ps := [a]) (us := [.ref f]) (vs := [.ref f]) lk hcg sc hr1 I1.env0 (hb s' [.ref f] I1.kIn rfl) (.cons rfl .nil) rfl fun hr' => ?_
    have act : ActOk (cxOf CX0 X.prog X.w X.K X.mg X.base N x (defScope st) g cdv X.A X.stack s' H1 C8.E0) a f c' (X.env.qual ++ "<lambda>") vs ws (fun Ed S' Q' => tb ⟨capt 0 is ω.s, fun c fs _ S'' => Ed c fs S''⟩ S' Q') := by
      intro W pn xe p1 p2 tk
      refine ⟨fun pinsZ sZ σZ HZ QZ IZ h => ?_⟩
      obtain ⟨ωZ, SZ, QdZ, aZ, ⟨h0, ht2⟩, fiZ⟩ := h
      obtain ⟨v0, hs0, rl2⟩ := aZ.rs.at' 0 _ h0
      cases rl2 with
      | lam hcZ hnZ rwsZ =>
      refine wpAny_Call_Name_kw (thn ((pe_var (pos := p1) (i := 0) h0N hva hd hcd).run pinsZ sZ σZ HZ (fun v H' => v = .ref f ∧ H' = HZ) IZ ⟨.ref f, hs0, rfl, rfl⟩) fun u s1 ⟨v, H2, I2, r2, q2⟩ => ?_)
      obtain ⟨ev, eH⟩ := q2
      subst ev eH
      obtain rfl : u = Value.ref f := r2
      have isF : s1.heap.get? f = some (PySem.W.kla_obj "<lambda>" (X.env.qual ++ "<lambda>") args body scope (cloFrom X.env.cells scope.names []) pm' c' ctv) := I2.base.keep f _ hf hfn hfr (fun z => nomatch (show f ∈ ([] : List Addr) from z))
      refine PySem.W.callWith_F0 ⟨_, _, _, _, isF⟩ ?_
      have un : Un (frs X.stack) [] H1 H2 s'.heap s1.heap := I2.base
      obtain ⟨⟨oc2, vs2, t2, hoc, hdc, hvc⟩, _, _⟩ := I2.hok c' _ hcZ
      have callee : codeAny (model X.prog X.w) (X.A.deeper (envOfC x (defScope st) s'.heap.objs.size g cdv)) (.call (.ref f) ⟨[], []⟩)
          (CR (L2.CX X.prog X.w) (envOfC x (defScope st) s'.heap.objs.size g cdv :: X.stack) X.prog X.w H2 s1 QZ (fun cls d H' => W cls d σZ H')) s1 := by
        refine PySem.W.kla_callFunE hr'.depth isF rfl L.co L.gen rfl ⟨c', oc2, vs2, t2, rfl, hoc, hdc, hvc⟩ ?_
        rw [nobind]
        refine wpAny_pure (wpAny_newFunctionEnv (fun y hy => (L.own y hy).2) (fun y hy => absurd hy (by simp)) (fun h₁ hns hsb => ⟨I2.nolimit.fresh _ hsb, ?_⟩) L.kind)
        show codeAny _ _ (.expr body (lamEnv X scope s1.heap.objs.size f c')) _ _
        have stays : ∀ b o, s1.heap.get? b = some o → h₁.get? b = some o := fun b o e =>
          hsb.extBut b o (Nat.ne_of_lt (Heap.lt_size e)) (Heap.get?_push_of_some _ e)
        have J := LamX.lam_start2 (A := X.A.deeper (envOfC x (defScope st) s'.heap.objs.size g cdv)) (outer := envOfC x (defScope st) s'.heap.objs.size g cdv :: X.stack) (E := fun cls d H' => W cls d σZ H') (f := f) (c' := c') (tk := s1.toks + ([] : List (Str × Value)).length) I1 L I2.env0 hr'.hd un hns stays
        have within := (hbody (X.A.deeper (envOfC x (defScope st) s'.heap.objs.size g cdv)) (envOfC x (defScope st) s'.heap.objs.size g cdv :: X.stack) s1 H2 (fun cls d H' => W cls d σZ H') f c' (Room.deeper (hr'.mono (show m + 1 ≤ j - 1 by omega)) _)).run [] _ σ H2 QZ J
          ⟨⟨capt 0 is ω.s, fun c fs _ S'' => ωZ.ex c fs ωZ.s S''⟩, SZ, QdZ, ⟨aZ.rel, RS.cap at0.rs.len hws hvs rwsZ, fun c fs l S' σ' H' d x' r' _ xr e => aZ.fx c fs ωZ.s S' σZ H' d x' r' (aZ.rs.mono x') xr e⟩, ht2, fiZ⟩
        refine PySem.W.kla_codeExpr (wpAny_mono within (fun v s3 got => ?_) fun e s3 got => got)
        obtain ⟨w', H', J', rv, q'⟩ := got
        exact ⟨w', H', J'.os, J'.bare, J'.base, J'.hok, rv, q'⟩
      refine wpAny_call (codeAny_mono callee fun res s2 got => ?_)
      cases res with
      | error e => exact tk e s2 (XE.of_call I2 (fun _ _ _ z => z) got)
      | ok fl =>
        cases fl with
        | ret u => exact I2.after got
        | next => exact False.elim got
        | brk => exact False.elim got
        | cont => exact False.elim got
    obtain ⟨t', ht', hq'⟩ := giv cdv X.A X.stack s' H1 f c' (X.env.qual ++ "<lambda>") vs ws _ S Qd Q (hr'.mono (by omega)) act r1 rl ht (fun w S' v H' x' r' q' h' => fi w S' v H' (x1.trans x') r' q' h')
    exact ⟨t', ht'.nox, hq'⟩
  refine wpAny_call (codeAny_mono rc fun res s2 got => ?_)
  cases res with
  | error e => exact (show False from got).elim
  | ok fl =>
    cases fl with
    | ret u => exact I1.after got
    | next => exact False.elim got
    | brk => exact False.elim got
    | cont => exact False.elim got
end
section
variable {P : Program} {w : World} {K : PySem.W.Frag} {mg : Str → Option Value} {base : Heap}
theorem Fun.okFc {x qual : Str} {st : Stmt} {f c0 : Addr} {fd : FuncData} {N ps : List Str} {k : Nat} {dsp : DSp} (F : Fun K x qual st f fd) (hc : fd.code = .ref c0) (sc : FnScope N ps (defScope st)) (td : DS')
    (hb : ∀ (cdv : Value) (own : cdv = .ref c0) (A : Around) (outer : List Env) (s : Shared) (H : Hp) (E : XK), Room k (A.deeper (envOfC qual (defScope st) s.heap.objs.size f cdv)) → DSs (cxOf CX0 P w K mg base N qual (defScope st) f cdv A outer s H E).nox Z0 (defBody st) td)
    (len : ∀ ws S Q E, dsp ws S Q E → ws.length = ps.length) (hd : ∀ ws S Q E, dsp ws S Q E → td { nx := fun _ S' => frzQ Q .non S', rt := frzQ Q } ⟨ζg N ws, XF⟩ S) : FnOk P w K mg base CX0 (k + 1) f fd ps (uSp K dsp) := by
  obtain ⟨oc, od, kV, doc, pm, an, cdv, ct, osl, rfl, lk, hcd⟩ := F.ex
  have own : cdv = .ref c0 := hc
  refine ⟨fun vs H Q E ⟨ws, S, Qd, Ed, r, rs, h, _⟩ => by rw [← rs.len]; exact len _ _ _ _ h, fun A outer s H args us vs Q E hr e0 hbi rv want => ?_⟩
  have many : vs.length = ps.length := by
    obtain ⟨ws, S, Qd, Ed, r, rs, h, _⟩ := want
    rw [← rs.len]; exact len _ _ _ _ h
  refine LamX.run_ofS lk hcd sc hr e0 hbi rv many fun hr' => ?_
  obtain ⟨ws, S, Qd, Ed, r, rs, h, f', _⟩ := want
  refine ⟨_, (hb cdv own A outer s H E hr').nox, ?_⟩
  exact ⟨⟨ζg N ws, XF⟩, S, _, ⟨r, RS.start rs, .zero⟩, hd ws S Qd Ed h, ⟨fun ω' S' σ' H' x a q => f'.frz _ _ _ _ x a.rel .non q, f'.frz, fun _ _ _ _ _ _ q => q.elim, fun _ _ _ _ _ _ q => q.elim⟩⟩
end
def TabFacts (q : Program) (K : PySem.W.Frag) (h : Heap) : Prop := ∀ (x : Str) (d : DefRec) (c P : Addr), (recsOf q).find? (fun e => e.name == x) = some d → PySem.W.tabIn K x = some (c, P) → PySem.W.CodeHd h c P ∧ h.get? P = some { cls := .none, data := .fields #[] }
def stoT : List (Addr × Str) → Sto
  | [] => fun _ => none
  | p :: ps => up (stoT ps) p.1 (.tab p.2)
theorem stoT_at {a : Addr} {o : WO} : ∀ {ps : List (Addr × Str)}, stoT ps a = some o → ∃ p ∈ ps, p.1 = a ∧ o = .tab p.2
  | [], h => by cases h
  | p :: ps, h => by
    by_cases e : a = p.1
    · subst e
      have h : up (stoT ps) p.1 (.tab p.2) p.1 = some o := h
      rw [up_same] at h
      exact ⟨p, List.mem_cons_self, rfl, (Option.some.inj h).symm⟩
    · have h : up (stoT ps) p.1 (.tab p.2) a = some o := h
      rw [up_ne e] at h
      obtain ⟨p', h1, h2⟩ := stoT_at h
      exact ⟨p', List.mem_cons_of_mem _ h1, h2⟩
theorem law_spT {K : PySem.W.Frag} {H : Hp} {a : Addr} {ns : List Int} {dsp : DSp} (ps : List (Addr × Str)) (hT : ∀ p ∈ ps, H p.1 = some (.tbl #[])) (hS : SqL K H a (ns.map V.int)) (h : dsp [.scr ns] (stoT ps) (fun w _ => w = .bl true) X0) : uSp K dsp [.ref a] H (fun v _ => v = .bl true) fun _ _ _ => False := by
  refine ⟨[.scr ns], stoT ps, fun w _ => w = .bl true, X0, fun b o hb => ?_, .cons (.scr ?_) .nil, h, (fun w S' v H' _ _ r e => by subst e; cases r; rfl), .zero⟩
  · obtain ⟨p, hp, rfl, rfl⟩ := stoT_at hb
    refine .tab (hT p hp) True.intro fun pos cv hc => ?_
    have z : codeAmong pos [] = some cv := hc
    simp [codeAmong] at z
  · rcases hS with z | h
    · refine .inl ⟨z, ?_⟩
      cases e : stoT ps a with
      | none => rfl
      | some u =>
        obtain ⟨p, hp, rfl, _⟩ := stoT_at e
        rcases z with h | ⟨o, h⟩
        · rw [hT p hp] at h; cases h
        · rw [hT p hp] at h; cases h
    · exact .inr h
end DL
namespace My
open PySem PySem.Spec PyProof.Rows L2
section
variable {X : Cx} {pins : List (Addr × Obj)} {σ : L2.St} {H : Hp} {s : Shared} {a C : Addr} {f : Str} {y : V} {u : Value} {Q : Unit → Shared → Prop} {E : Value → Shared → Prop} {A : Around}
end
section
variable {X : Cx} {o e : Expr} {es : List Expr} {to te : TE} {ta : TA} {f : Str} {p p' p1 p2 pos : Pos}
end
section
variable {X : Cx} {pins : List (Addr × Obj)} {σ : L2.St} {H : Hp} {s : Shared} {a C dx : Addr} {f : Str} {y : V} {u : Value} {fs : List (Str × V)} {Q : Unit → Shared → Prop} {E : Value → Shared → Prop} {A : Around}
end
section
variable {X : Cx} {o e : Expr} {to te : TE} {f : Str} {p' pos : Pos}
end
end My
namespace DL
open PySem PySem.Spec PyProof.Rows L2
section
variable {X : Cx} {Z : WX} {e : Expr} {es : List Expr} {t : DA'} {C : Addr} {ns : List Str} {okV : List V → Prop} {okW : List W → Prop} {x : Str} {p pos pos' : Pos} {k j : Nat}
end
theorem pvN {X : Cx} (i : Nat) {x : Str} {pos : Pos} (hN : X.N[i]? = some x := by rfl) (hv : Vis X.env.scope x := by first | exact Or.inl rfl | exact Or.inr (Or.inl rfl) | exact Or.inr (Or.inr rfl)) (hd : (x == ("__debug__" : Str)) = false := by decide) (hcd : (x == ("__classdict__" : Str)) = false := by decide) : PE X (.Name x pos) (tVar i) := pe_var hN hv hd hcd
end DL
namespace My
open PySem PySem.Spec PyProof.Rows L2 PpSet
section
variable {prog : Program} {w : World} {A : Around} {R : Result → Shared → Prop} {s : Shared} {item to0 from0 to1 from1 : Expr} {only0 only1 : List Expr} {scope : Scope} {pos : Pos} {it held : Value} {env : Env}
end
section
variable {X : Cx}
end
end My
namespace DL
open PySem PySem.Spec PyProof.Rows L2 PpSet
section
variable {X : Cx} {Z : WX}
end
end DL
namespace DL
open PySem PySem.Spec PyProof.Rows L2
def PrsV (K : PySem.W.Frag) (H : Hp) : List V → List (Key × V) → Prop
  | [], [] => True
  | y :: ys, p :: m => (∃ T, y = .ref T ∧ SqT K H T [kV p.1, p.2]) ∧ PrsV K H ys m
  | _, _ => False
theorem prsV_vals {X : Cx} {pins : List (Addr × Obj)} {σ : L2.St} {H : Hp} {s : Shared} (I : Inv X pins σ H s) : ∀ {ys : List V} {more : List (Key × V)} {its : List Value}, PrsV X.K H ys more → Vals ys its →
    ∃ (Tl : List Addr) (ps : List (Value × Value)) (kvs : List (Key × Value)), its = Tl.map Value.ref ∧ Tl.length = ps.length ∧ kvs.length = ps.length ∧ KV more kvs ∧ (∀ (j : Nat) k v, ps[j]? = some (k, v) → ∃ T, Tl[j]? = some T ∧ s.heap.IsTuple T #[k, v]) ∧ ∀ (i : Nat) key v, ps[i]? = some (key, v) → ∃ k, kvs[i]? = some (k, v) ∧ (mixKind X.prog X.w).is k key = true
  | [], [], _, _, .nil => ⟨[], [], [], rfl, rfl, rfl, .nil, fun j k v e => by simp at e, fun j k v e => by simp at e⟩
  | y :: ys, p :: more, _, h, .cons (b := u) ry rs => by
    obtain ⟨⟨T, rfl, hT⟩, h2⟩ := h
    obtain ⟨Tl, ps, kvs, rfl, l1, l2, kv, at1, at2⟩ := prsV_vals I h2 rs
    obtain rfl : u = Value.ref T := ry
    obtain ⟨xs, rv, isT, _⟩ := I.tuple hT
    cases rv with
    | cons r1 rv =>
      cases rv with
      | cons r2 rv =>
        cases rv
        rename_i ku vu
        refine ⟨T :: Tl, (ku, vu) :: ps, (p.1, vu) :: kvs, rfl, by rw [List.length_cons, List.length_cons, l1], by rw [List.length_cons, List.length_cons, l2], .cons ⟨rfl, r2⟩ kv, fun j k v e => ?_, fun i key v e => ?_⟩
        · cases j with
          | zero => cases e; exact ⟨T, rfl, isT⟩
          | succ j => exact at1 j k v e
        · cases i with
          | zero => cases e; exact ⟨p.1, rfl, kV_is r1⟩
          | succ i => exact at2 i key v e
def rUpdL (K : PySem.W.Frag) : V → List V → Hp → VK → Prop := fun x vs H Q => ∃ (d l : Addr) (ys : List V) (kvs more : List (Key × V)), x = .ref d ∧ vs = [.ref l] ∧ H d = some (.dK kvs) ∧ H l = some (.lst ys) ∧ PrsV K H ys more ∧ kvs.length + more.length ≤ 1000000 ∧ Q .non (upd H d (.dK (mergeK kvs more)))
theorem mt_updL {X : Cx} (hA : X.A.handled = none) : MtR X "dict.update" (rUpdL X.K) := by
  intro pins s σ H x vs v us Q I rx rv h
  obtain ⟨d, l, ys, kvs, more, rfl, rfl, hd, hl, hp, hz, q⟩ := h
  obtain rfl : v = Value.ref d := rx
  obtain ⟨u, rfl, ru⟩ := vals1 rv
  obtain rfl : u = Value.ref l := ru
  obtain ⟨z1, lo1, vs1, rel1, dd1⟩ := dk_of I.hok hd
  obtain ⟨its, rvs, ⟨o, n, ho, hc, hdn, hdt⟩, hlen⟩ := I.list (.inl (.inl hl) : SqL X.K H l ys)
  obtain ⟨Tl, ps, kvs2, rfl, l1, l2, kv, at1, at2⟩ := prsV_vals I hp rvs
  have dcls : ∀ T o', s.heap.get? T = some o' → o'.cls = .type "tuple" ∨ o'.cls = .type "list" → d ≠ T := fun T o' e hcl eq => by
    subst eq
    obtain ⟨o2, e2, c2⟩ := dd1.typeIs (s := s)
    rw [e] at e2
    cases e2
    rcases hcl with z | z
    · rw [z] at c2; injection c2 with c2; exact absurd c2 (by decide)
    · rw [z] at c2; injection c2 with c2; exact absurd c2 (by decide)
  have items : PairItems s.heap (Tl.map Value.ref).toArray (fun j => Tl.getD j 0) ps := ⟨by simp [l1], fun j k v e => by
    obtain ⟨T, eT, isT⟩ := at1 j k v e
    have g : Tl.getD j 0 = T := by rw [List.getD_eq_getElem?_getD, eT]; rfl
    refine ⟨by simp [eT], ?_⟩
    dsimp only
    rw [g]
    exact .inl isT⟩
  have off : d ∉ l :: (List.range ps.length).map (fun j => Tl.getD j 0) := fun hm => by
    rcases List.mem_cons.mp hm with z | z
    · exact dcls l o ho (.inr hc) z
    · obtain ⟨j, hj, e⟩ := List.mem_map.mp z
      have hj := List.mem_range.mp hj
      obtain ⟨T, eT, isT⟩ := at1 j ps[j].1 ps[j].2 (List.getElem?_eq_getElem hj)
      have g : Tl.getD j 0 = T := by rw [List.getD_eq_getElem?_getD, eT]; rfl
      rw [g] at e
      obtain ⟨o', h1, h2, _⟩ := isT
      exact dcls T o' h1 (.inl h2) e.symm
  have e1 : kvs.length = vs1.length := Paired.length rel1
  have e2 : more.length = kvs2.length := Paired.length kv
  refine call_update_pairs (knd := mixKind X.prog X.w) (acc := vs1) (kvs := kvs2) (PairArg.list (prog := X.prog) (w := X.w) l (Tl.map Value.ref).toArray (fun j => Tl.getD j 0) ps) hA ⟨⟨o, n, ho, hc, hdn, hdt⟩, items⟩ off ⟨l2, at2⟩ dd1 (by rw [← l2, ← e1, ← e2]; exact sz_of hz) fun h' tk hmm hs => ?_
  have hz' : (mergeK kvs more).length ≤ sizeLine := Nat.le_trans (length_mergeK more kvs) (sz_of hz)
  have he : ∃ q, h'.get? d = some q := let ⟨q, _, _, hq, _⟩ := hmm; ⟨q, hq⟩
  exact ⟨.non, _, I.write (x := d) (e := d) (by rw [hd]; exact True.intro) (.inl rfl) (fun b q hb z => hs b q hb (fun e => nomatch e) z) he (dk_new hz' lo1 (kv.merge rel1) hmm), rfl, q⟩
def prsW : List W → Option (List (Key × W))
  | [] => some []
  | .tup [a, b] :: ws => match wkey a, prsW ws with
    | some k, some m => some ((k, b) :: m)
    | _, _ => none
  | _ => none
theorem prsW_rel {K : PySem.W.Frag} {S : Sto} {H : Hp} : ∀ {ws : List W} {vs : List V} {more : List (Key × W)}, prsW ws = some more → RWs K S H ws vs → ∃ ms, PrsV K H vs ms ∧ RWp K S H more ms
  | [], _, _, h, .nil => by cases h; exact ⟨[], trivial, .nil⟩
  | w :: ws, _, more, h, .cons r rs => by
    unfold prsW at h
    split at h
    · rename_i e; cases e
    · rename_i a b ws' e
      cases e
      split at h
      · rename_i k m hk hm
        cases h
        obtain ⟨ms, h1, h2⟩ := prsW_rel hm rs
        obtain ⟨T, us, rfl, hT, ru⟩ := view_tup (xs := [a, b]) r rfl
        cases ru with
        | cons ra ru =>
          cases ru with
          | cons rb ru =>
            cases ru
            rename_i va vb
            have ea : va = kV k := wkey_rel ra hk
            subst ea
            exact ⟨(k, vb) :: ms, ⟨⟨T, rfl, hT⟩, h1⟩, .cons ⟨rfl, rb⟩ h2⟩
      · cases h
    · cases h
def dUpdL (to : DE') (t : DA') : DE' := fun ω S Q => to ω S fun w S1 => isDc S1 w = true ∧ t ω S1 fun ws S2 => match w, ws with
  | .ref a, [.lst ys] => match S2 a, prsW ys with
    | some (.dK kvs), some more => kvs.length + more.length ≤ 1000000 ∧ Q .non (up S2 a (.dK (wmerge kvs more)))
    | _, _ => False
  | _, _ => False
theorem de_updateL {X : Cx} {Z : WX} {o e : Expr} {to : DE'} {t : DA'} {j : Nat} {apos cpos : Pos} (hr : Room j X.A) (ho : DE X Z o to) (ha : DA X Z [e] t) (hbase : attributeBase o "update" X.env (eval o X.env) = eval o X.env := by rfl)
    (hfew : ((backTo cpos (starEach [e] X.env)).all (fun x => !x.1) && (backToKw cpos (keywordEach [] X.env)).all (fun x => x.1.isSome) && decide (([e] : List Expr).length + ([] : List Keyword).length + (if ([] : List Keyword).isEmpty then 0 else 1) < 30)) = true := by rfl)
    (hline : (apos.endLine == cpos.line) = true := by rfl) (hs : starEach [e] X.env = (false, eval e X.env) :: starEach [] X.env := by rfl) (hplain : (backTo cpos (starEach [] X.env)).any (·.1) = false := by rfl) :
    DE X Z (.Call (.Attribute o "update" apos) [e] [] cpos) (dUpdL to t) := PE.im (pe_bm PySem.F.plainAttrs_dict PySem.F.slot_dict_update PySem.F.type_dict_update (mt_updL hr.hd) ho ha hbase hfew hline hs hplain) fun σ H Q ⟨ω, S, Qd, a, h, f⟩ => by
  refine ⟨ω, S, _, a, h, fun w S1 v H1 x1 r1 q1 ⟨il, h1⟩ => ⟨?_, ω, S1, _, a.to x1 r1, h1, fun ws S2 vs H2 x2 r2 q2 h2 => ?_⟩⟩
  · cases q1 <;> simp only [isDc] at il <;> try cases il
    rename_i ad
    split at il
    · rename_i kvs hs
      cases r1 _ _ hs with
      | dK hh _ => exact .inr (.inr (.inl ⟨rfl, .inl ⟨_, hh⟩⟩))
    · cases il
  · split at h2
    · cases q1
      obtain ⟨z, rfl, rz⟩ := q2.one
      obtain ⟨l, us, rfl, hl, rus⟩ := view_lst r2 rz rfl
      split at h2
      · rename_i kvs more hs1 hs2
        obtain ⟨hz, h2⟩ := h2
        obtain ⟨ms, p1, p2⟩ := prsW_rel hs2 rus
        cases r2 _ _ hs1 with
        | @dK _ gs1 hh1 rs1 =>
          refine ⟨_, _, us, gs1, ms, rfl, rfl, hh1, hl, p1, by rw [← RWp.len rs1, ← RWp.len p2]; exact hz, ?_⟩
          exact f _ _ _ _ (x1.trans (x2.trans (Nx.wr hs1))) (r2.wr hs1 (fun _ e => nomatch e) (.dK upd_same (RWp.mono (Nx.wr hs1) (wmerge_rel p2 rs1)))) .non h2
      · exact h2.elim
    · exact h2.elim
def topS (i : Nat) : Stmt := PySem.Challenge.pw_whistleboard_k46_whole_lines.main.body.getD i (.Pass ⟨0, 0, 0, 0⟩)
abbrev w_SOURCES : W := .tup [.tup [.str "hydrant", .tup [.tup [.int 0, .int 150], .tup [.int 1, .int 5000]]], .tup [.str "pond", .tup [.tup [.int 0, .int 8]]]]
abbrev w_JOINS : W := .tup [.tup [.str "hose", .tup [.tup [.int 1, .int 20], .tup [.int (-60), .int 60]]], .tup [.str "pump", .tup [.tup [.int 0, .int 120], .tup [.int 1, .int 5000]]], .tup [.str "leak", .tup [.tup [.int 0, .int 1000]]], .tup [.str "nozzle", .tup [.tup [.int 0, .int 2000], .tup [.int 0, .int 100]]]]
abbrev w_MOST_PARTS : W := .int 8
abbrev w_MOST_FORKS : W := .int 3
abbrev w_WHOLE_SHARE : W := .int 100
abbrev w_LEAST_IN_HOSE : W := .int (-70)
abbrev w_MOST_BEHIND_PUMP : W := .int 120
abbrev w_HOSE_DIVISOR : W := .int 40000
structure Txt (K : PySem.W.Frag) (w : World) (mg : Str → Option Value) (c_Line c_BadTime c_NoGround c_NoPlace c_NoProof c_NoKind c_BadText c_NoDeed c_NoRow c_TooMany c_NotDone c_NoBook c_NoCall c_NoEngine c_NoEngines c_NoLine c_NoJoin c_NoFlow c_Late c_Inside c_Dead c_NoTeam c_NoWearer c_NoBoard c_NoText c_Nothing c_NoSaying : Addr) : Prop where
  z_len : mg "len" = none
  z_abs : mg "abs" = none
  z_all : mg "all" = none
  z_str : mg "str" = none
  z_int : mg "int" = none
  z_isinstance : mg "isinstance" = none
  z_range : mg "range" = none
  z_max : mg "max" = none
  z_min : mg "min" = none
  z_bool : mg "bool" = none
  z_list : mg "list" = none
  z_tuple : mg "tuple" = none
  z_zip : mg "zip" = none
  z_enumerate : mg "enumerate" = none
  z_sum : mg "sum" = none
  z_ArithmeticError : mg "ArithmeticError" = none
  z_IndexError : mg "IndexError" = none
  g_SOURCES : GW K mg "SOURCES" w_SOURCES
  g_JOINS : GW K mg "JOINS" w_JOINS
  g_MOST_PARTS : GW K mg "MOST_PARTS" w_MOST_PARTS
  g_MOST_FORKS : GW K mg "MOST_FORKS" w_MOST_FORKS
  g_WHOLE_SHARE : GW K mg "WHOLE_SHARE" w_WHOLE_SHARE
  g_LEAST_IN_HOSE : GW K mg "LEAST_IN_HOSE" w_LEAST_IN_HOSE
  g_MOST_BEHIND_PUMP : GW K mg "MOST_BEHIND_PUMP" w_MOST_BEHIND_PUMP
  g_HOSE_DIVISOR : GW K mg "HOSE_DIVISOR" w_HOSE_DIVISOR
  gk_BadTime : GW K mg "BadTime" (.ref c_BadTime)
  gk_NoGround : GW K mg "NoGround" (.ref c_NoGround)
  gk_NoPlace : GW K mg "NoPlace" (.ref c_NoPlace)
  gk_NoProof : GW K mg "NoProof" (.ref c_NoProof)
  gk_NoKind : GW K mg "NoKind" (.ref c_NoKind)
  gk_BadText : GW K mg "BadText" (.ref c_BadText)
  gk_NoDeed : GW K mg "NoDeed" (.ref c_NoDeed)
  gk_NoRow : GW K mg "NoRow" (.ref c_NoRow)
  gk_TooMany : GW K mg "TooMany" (.ref c_TooMany)
  gk_NotDone : GW K mg "NotDone" (.ref c_NotDone)
  gk_NoBook : GW K mg "NoBook" (.ref c_NoBook)
  gk_NoCall : GW K mg "NoCall" (.ref c_NoCall)
  gk_NoEngine : GW K mg "NoEngine" (.ref c_NoEngine)
  gk_NoEngines : GW K mg "NoEngines" (.ref c_NoEngines)
  gk_NoLine : GW K mg "NoLine" (.ref c_NoLine)
  gk_NoJoin : GW K mg "NoJoin" (.ref c_NoJoin)
  gk_NoFlow : GW K mg "NoFlow" (.ref c_NoFlow)
  gk_Late : GW K mg "Late" (.ref c_Late)
  gk_Inside : GW K mg "Inside" (.ref c_Inside)
  gk_Dead : GW K mg "Dead" (.ref c_Dead)
  gk_NoTeam : GW K mg "NoTeam" (.ref c_NoTeam)
  gk_NoWearer : GW K mg "NoWearer" (.ref c_NoWearer)
  gk_NoBoard : GW K mg "NoBoard" (.ref c_NoBoard)
  gk_NoText : GW K mg "NoText" (.ref c_NoText)
  gk_Nothing : GW K mg "Nothing" (.ref c_Nothing)
  gk_NoSaying : GW K mg "NoSaying" (.ref c_NoSaying)
  kk_NoFlow_BadTime : PySem.W.kitOne K (.ref c_NoFlow) (.ref c_BadTime) = some false
  kk_NoFlow_NoGround : PySem.W.kitOne K (.ref c_NoFlow) (.ref c_NoGround) = some false
  kk_NoFlow_NoPlace : PySem.W.kitOne K (.ref c_NoFlow) (.ref c_NoPlace) = some false
  kk_NoFlow_NoProof : PySem.W.kitOne K (.ref c_NoFlow) (.ref c_NoProof) = some false
  kk_NoFlow_NoKind : PySem.W.kitOne K (.ref c_NoFlow) (.ref c_NoKind) = some false
  kk_NoFlow_BadText : PySem.W.kitOne K (.ref c_NoFlow) (.ref c_BadText) = some false
  kk_NoFlow_NoDeed : PySem.W.kitOne K (.ref c_NoFlow) (.ref c_NoDeed) = some false
  kk_NoFlow_NoRow : PySem.W.kitOne K (.ref c_NoFlow) (.ref c_NoRow) = some false
  kk_NoFlow_TooMany : PySem.W.kitOne K (.ref c_NoFlow) (.ref c_TooMany) = some false
  kk_NoFlow_NotDone : PySem.W.kitOne K (.ref c_NoFlow) (.ref c_NotDone) = some false
  kk_NoFlow_NoBook : PySem.W.kitOne K (.ref c_NoFlow) (.ref c_NoBook) = some false
  kk_NoFlow_NoCall : PySem.W.kitOne K (.ref c_NoFlow) (.ref c_NoCall) = some false
  kk_NoFlow_NoEngine : PySem.W.kitOne K (.ref c_NoFlow) (.ref c_NoEngine) = some false
  kk_NoFlow_NoEngines : PySem.W.kitOne K (.ref c_NoFlow) (.ref c_NoEngines) = some false
  kk_NoFlow_NoLine : PySem.W.kitOne K (.ref c_NoFlow) (.ref c_NoLine) = some false
  kk_NoFlow_NoJoin : PySem.W.kitOne K (.ref c_NoFlow) (.ref c_NoJoin) = some false
  kk_NoFlow_NoFlow : PySem.W.kitOne K (.ref c_NoFlow) (.ref c_NoFlow) = some true
  kk_NoFlow_Late : PySem.W.kitOne K (.ref c_NoFlow) (.ref c_Late) = some false
  kk_NoFlow_Inside : PySem.W.kitOne K (.ref c_NoFlow) (.ref c_Inside) = some false
  kk_NoFlow_Dead : PySem.W.kitOne K (.ref c_NoFlow) (.ref c_Dead) = some false
  kk_NoFlow_NoTeam : PySem.W.kitOne K (.ref c_NoFlow) (.ref c_NoTeam) = some false
  kk_NoFlow_NoWearer : PySem.W.kitOne K (.ref c_NoFlow) (.ref c_NoWearer) = some false
  kk_NoFlow_NoBoard : PySem.W.kitOne K (.ref c_NoFlow) (.ref c_NoBoard) = some false
  kk_NoFlow_NoText : PySem.W.kitOne K (.ref c_NoFlow) (.ref c_NoText) = some false
  kk_NoFlow_Nothing : PySem.W.kitOne K (.ref c_NoFlow) (.ref c_Nothing) = some false
  kk_NoFlow_NoSaying : PySem.W.kitOne K (.ref c_NoFlow) (.ref c_NoSaying) = some false
  kb_NoFlow_ArithmeticError : PySem.W.kitOne K (.ref c_NoFlow) (.type "ArithmeticError") = some true
  xc_NoFlow : ExcC K c_NoFlow
  xf_NoFlow_join : PySem.W.findIn K (.ref c_NoFlow) "join" = some none
  xf_NoFlow_why : PySem.W.findIn K (.ref c_NoFlow) "why" = some none
  xall_NoFlow : ∀ D ∈ [c_NoFlow], ExcC K D
  xfld_NoFlow_join : ∀ D ∈ [c_NoFlow], ExcC K D ∧ PySem.W.findIn K (.ref D) "join" = some none
  xfld_NoFlow_why : ∀ D ∈ [c_NoFlow], ExcC K D ∧ PySem.W.findIn K (.ref D) "why" = some none
  nf_Line : NotFst K c_Line
  ow_Line : OwnC K c_Line
  ne_Line : PySem.W.findIn K (.ref c_Line) "__ne__" = some (some (.builtin "object.__ne__"))
  gc_Line : mg "Line" = some (.ref c_Line)
  cl_Line : Cls K c_Line
  n_Line_source : NoAttr K c_Line "source"
  n_Line_parts : NoAttr K c_Line "parts"
abbrev s_is_whole : Stmt := topS 28
abbrev N_is_whole : List Str := ["thing"]
theorem sc_is_whole : FnScope N_is_whole ["thing"] (defScope s_is_whole) := ⟨rfl, rfl, rfl, by decide +kernel, rfl, by decide +kernel, by decide +kernel⟩
def td_is_whole : DS' :=
    (ζV (ζj (dUn (dIs .int) (ζB 0)) (ζk (dUn (dIs .bool) (ζB 0)))))
def sp_is_whole : DSp := fun ws S Q _ => ∃ x, ws = [x] ∧ Pl x = true ∧ Q (.bl (whole x)) S
theorem len_is_whole {ws S Q E} (h : sp_is_whole ws S Q E) : ws.length = 1 := by obtain ⟨x, rfl, _⟩ := h; rfl
def κa := @view_c_non
def κb := @view_c_bl
def κc := @view_c_int
def κd := @view_c_str
def κe := @view_c_tup
def κf := @view_c_lst
def κg := @view_c_scr
def κh := @view_c_dct
def κi := @view_c_ins
def κj := @List.getElem?_cons_zero
def κk := @List.getElem?_cons_succ
def κl := @List.set_cons_zero
def κm := @List.set_cons_succ
def κn := @List.map_cons
def κo := @List.map_nil
def κp := @List.length_cons
def κq := @List.length_nil
def κr := @List.replicate_succ
def κs := @List.replicate_zero
def κt := @List.nil_append
def κu := @List.cons_append
def κv := @Bool.not_true
def κw := @Bool.not_false
def κx := @if_true
def κy := @wkey_int
def κz := @wkey_str
def κA := @atI_0
def κB := @atI_1
def κC := @atI_2
def κD := @atI_3
def κE := @up_same
def κF := @if_false
def κG := @Bool.false_eq_true
def κH := @Bool.true_eq_false
def κI := @tru_non
def κJ := @isi_int_non
def κK := @isi_bool_non
def κL := @isi_str_non
def κM := @isi_tup_non
def κN := @isi_lst_non
def κO := @tru_bl
def κP := @isi_int_bl
def κQ := @isi_bool_bl
def κR := @isi_str_bl
def κS := @isi_tup_bl
def κT := @isi_lst_bl
def κU := @tru_int
def κV := @isi_int_int
def κW := @isi_bool_int
def κX := @isi_str_int
def κY := @isi_tup_int
def κZ := @isi_lst_int
def ιa := @tru_str
def ιb := @isi_int_str
def ιc := @isi_bool_str
def ιd := @isi_str_str
def ιe := @isi_tup_str
def ιf := @isi_lst_str
def ιg := @tru_tup
def ιh := @isi_int_tup
def ιi := @isi_bool_tup
def ιj := @isi_str_tup
def ιk := @isi_tup_tup
def ιl := @isi_lst_tup
def ιm := @tru_lst
def ιn := @isi_int_lst
def ιo := @isi_bool_lst
def ιp := @isi_str_lst
def ιq := @isi_tup_lst
def ιr := @isi_lst_lst
def ιs := @isL_lst
def ιt := @seqW_lst
def ιu := @seqW_tup
def ιv := @seqW_str
def ιw := @seqW_scr
def ιx := @sq2_lst
def ιy := @sq2_tup
def ιz := @inW_sign
local macro_rules | `(tactic| array_get_dec) => `(tactic| simp only [↓ζB,↓dC,↓dOp,↓dUn,↓dI,↓dI0,↓ζC,↓ζD,↓ζE,↓ζF,↓ζG,↓ζH,↓ζI,↓dEq,↓dNe,↓dLt,↓dLe,↓dGt,↓dGe,↓ζJ,↓ζh,↓ζK,↓ζi,↓ζb,↓ζL,↓dOr,↓ζM,↓ζj,↓ζN,↓ζk,↓dIf,↓ζO,↓ζl,↓ζP,↓ζQ,↓ζm,↓dCB,↓ζR,↓ζS,↓ζn,↓ζo,↓ζT,↓ζa,↓ζc,↓ζp,↓ζU,↓ζq,↓ζV,↓ζW,↓ζX,↓ζY,↓ζr,↓ζs,↓ζt,↓ζd,↓Om.set,↓ζu,↓dIx,↓dNo,↓ζv,↓dSl,↓ζZ,↓dBM,↓ξa,↓ξb,↓ζf,↓dIs,↓ξc,↓ξd,↓ζw,↓ζx,↓ζy,↓ζz,↓ξe,↓ζA,κa,κb,κc,κd,κe,κf,κg,κh,κi,↓ζg,↓wp,↓wps,↓dIn,κj,κk,κl,κm,κn,κo,κp,κq,κr,κs,κt,κu,κv,κw,κx,κy,κz,κA,κB,κC,κD,κE,κF,κG,κH,κI,κJ,κK,κL,κM,κN,κO,κP,κQ,κR,κS,κT,κU,κV,κW,κX,κY,κZ,ιa,ιb,ιc,ιd,ιe,ιf,ιg,ιh,ιi,ιj,ιk,ιl,ιm,ιn,ιo,ιp,ιq,ιr,ιs,ιt,ιu,ιv,ιw,ιx,ιy,ιz])
theorem hd_is_whole (ws S Q E) (h : sp_is_whole ws S Q E) : td_is_whole { nx := fun _ S' => frzQ Q .non S', rt := frzQ Q } ⟨ζg N_is_whole ws, XF⟩ S := by
  obtain ⟨x, rfl, d, q⟩ := h
  have q := frzQ.mk q
  cases x <;> first | cases d | skip
  all_goals simp only [whole, td_is_whole] at q ⊢
  all_goals (array_get_dec)
  all_goals exact q
section
variable {P : Program} {w : World} {K : PySem.W.Frag} {mg : Str → Option Value} {base : Heap} {c_Line c_BadTime c_NoGround c_NoPlace c_NoProof c_NoKind c_BadText c_NoDeed c_NoRow c_TooMany c_NotDone c_NoBook c_NoCall c_NoEngine c_NoEngines c_NoLine c_NoJoin c_NoFlow c_Late c_Inside c_Dead c_NoTeam c_NoWearer c_NoBoard c_NoText c_Nothing c_NoSaying : Addr}
theorem ok_is_whole {f : Addr} {fd : FuncData} (F : Fun K "is_whole" "is_whole" s_is_whole f fd) (T : Txt K w mg c_Line c_BadTime c_NoGround c_NoPlace c_NoProof c_NoKind c_BadText c_NoDeed c_NoRow c_TooMany c_NotDone c_NoBook c_NoCall c_NoEngine c_NoEngines c_NoLine c_NoJoin c_NoFlow c_Late c_Inside c_Dead c_NoTeam c_NoWearer c_NoBoard c_NoText c_Nothing c_NoSaying) : FnOk P w K mg base CX0 1 f fd ["thing"] (uSp K (sp_is_whole)) :=
  Fun.okF F sc_is_whole (td_is_whole) (fun cdv A outer s H E hr =>
    (dss_one (ds_ret (de_and (de_isi .int (dv 0) T.z_isinstance T.z_int) (de_one (de_not (de_isi .bool (dv 0) T.z_isinstance T.z_bool))))))) (fun ws S Q E h => len_is_whole h) (hd_is_whole)
end
abbrev s_is_whole_within : Stmt := topS 29
abbrev N_is_whole_within : List Str := ["thing", "least", "most"]
theorem sc_is_whole_within : FnScope N_is_whole_within ["thing", "least", "most"] (defScope s_is_whole_within) := ⟨rfl, rfl, rfl, by decide +kernel, rfl, by decide +kernel, by decide +kernel⟩
theorem st_is_whole_within {x0 x1 x2 : W} : ζg N_is_whole_within [x0, x1, x2] = [some x0, some x1, some x2] := rfl
def td_is_whole_within : DS' :=
    (ζV (ζj (ζu sp_is_whole (ζl (ζB 0) ζO)) (ζb dLe dLe (ζB 1) (ζB 0) (ζB 2))))
def sp_is_whole_within : DSp := fun ws S Q _ => ∃ x lo hi, ws = [x, .int lo, .int hi] ∧ Pl x = true ∧ Q (.bl (within lo hi x)) S
theorem len_is_whole_within {ws S Q E} (h : sp_is_whole_within ws S Q E) : ws.length = 3 := by obtain ⟨x, lo, hi, rfl, _⟩ := h; rfl
theorem hd_is_whole_within (ws S Q E) (h : sp_is_whole_within ws S Q E) : td_is_whole_within { nx := fun _ S' => frzQ Q .non S', rt := frzQ Q } ⟨ζg N_is_whole_within ws, XF⟩ S := by
  obtain ⟨x, lo, hi, rfl, d, q⟩ := h
  have q := frzQ.mk q
  simp only [st_is_whole_within, td_is_whole_within]
  (array_get_dec)
  refine ⟨x, rfl, d, ?_⟩
  cases x <;> first | cases d | skip
  all_goals simp only [whole, within] at q ⊢
  all_goals (array_get_dec)
  all_goals try exact q
  rename_i i _
  cases c : decide (lo ≤ i) <;> rw [c] at q <;> exact q
section
variable {P : Program} {w : World} {K : PySem.W.Frag} {mg : Str → Option Value} {base : Heap} {c_Line c_BadTime c_NoGround c_NoPlace c_NoProof c_NoKind c_BadText c_NoDeed c_NoRow c_TooMany c_NotDone c_NoBook c_NoCall c_NoEngine c_NoEngines c_NoLine c_NoJoin c_NoFlow c_Late c_Inside c_Dead c_NoTeam c_NoWearer c_NoBoard c_NoText c_Nothing c_NoSaying : Addr}
theorem ok_is_whole_within {f : Addr} {fd : FuncData} (F : Fun K "is_whole_within" "is_whole_within" s_is_whole_within f fd) (T : Txt K w mg c_Line c_BadTime c_NoGround c_NoPlace c_NoProof c_NoKind c_BadText c_NoDeed c_NoRow c_TooMany c_NotDone c_NoBook c_NoCall c_NoEngine c_NoEngines c_NoLine c_NoJoin c_NoFlow c_Late c_Inside c_Dead c_NoTeam c_NoWearer c_NoBoard c_NoText c_Nothing c_NoSaying) (C_is_whole : CalD P w K mg base 1 "is_whole" sp_is_whole) : FnOk P w K mg base CX0 2 f fd ["thing", "least", "most"] (uSp K (sp_is_whole_within)) :=
  Fun.okF F sc_is_whole_within (td_is_whole_within) (fun cdv A outer s H E hr =>
    (dss_one (ds_ret (de_and (de_call C_is_whole hr (da_cons (dv 0) da_nil)) (de_one (de_chain oc_le oc_le (dv 1) (dv 0) (dv 2))))))) (fun ws S Q E h => len_is_whole_within h) (hd_is_whole_within)
end
abbrev s_is_tuple_within : Stmt := topS 30
abbrev N_is_tuple_within : List Str := ["thing", "least", "most"]
theorem sc_is_tuple_within : FnScope N_is_tuple_within ["thing", "least", "most"] (defScope s_is_tuple_within) := ⟨rfl, rfl, rfl, by decide +kernel, rfl, by decide +kernel, by decide +kernel⟩
theorem st_is_tuple_within {x0 x1 x2 : W} : ζg N_is_tuple_within [x0, x1, x2] = [some x0, some x1, some x2] := rfl
def td_is_tuple_within : DS' :=
    (ζV (ζj (dUn (dIs .tup) (ζB 0)) (ζb dLe dLe (ζB 1) (dCB ζR (ζl (ζB 0) ζO)) (ζB 2))))
def sp_is_tuple_within : DSp := fun ws S Q _ => ∃ x lo hi, ws = [x, .int lo, .int hi] ∧ Pl x = true ∧ Q (.bl (tupIn lo hi x)) S
theorem len_is_tuple_within {ws S Q E} (h : sp_is_tuple_within ws S Q E) : ws.length = 3 := by obtain ⟨x, lo, hi, rfl, _⟩ := h; rfl
theorem hd_is_tuple_within (ws S Q E) (h : sp_is_tuple_within ws S Q E) : td_is_tuple_within { nx := fun _ S' => frzQ Q .non S', rt := frzQ Q } ⟨ζg N_is_tuple_within ws, XF⟩ S := by
  obtain ⟨x, lo, hi, rfl, d, q⟩ := h
  have q := frzQ.mk q
  cases x <;> first | cases d | skip
  all_goals simp only [st_is_tuple_within, td_is_tuple_within, tupIn] at q ⊢
  all_goals (array_get_dec)
  all_goals try exact q
  rename_i xs _
  cases c : decide (lo ≤ (xs.length : Int)) <;> rw [c] at q <;> exact q
section
variable {P : Program} {w : World} {K : PySem.W.Frag} {mg : Str → Option Value} {base : Heap} {c_Line c_BadTime c_NoGround c_NoPlace c_NoProof c_NoKind c_BadText c_NoDeed c_NoRow c_TooMany c_NotDone c_NoBook c_NoCall c_NoEngine c_NoEngines c_NoLine c_NoJoin c_NoFlow c_Late c_Inside c_Dead c_NoTeam c_NoWearer c_NoBoard c_NoText c_Nothing c_NoSaying : Addr}
theorem ok_is_tuple_within {f : Addr} {fd : FuncData} (F : Fun K "is_tuple_within" "is_tuple_within" s_is_tuple_within f fd) (T : Txt K w mg c_Line c_BadTime c_NoGround c_NoPlace c_NoProof c_NoKind c_BadText c_NoDeed c_NoRow c_TooMany c_NotDone c_NoBook c_NoCall c_NoEngine c_NoEngines c_NoLine c_NoJoin c_NoFlow c_Late c_Inside c_Dead c_NoTeam c_NoWearer c_NoBoard c_NoText c_Nothing c_NoSaying) : FnOk P w K mg base CX0 1 f fd ["thing", "least", "most"] (uSp K (sp_is_tuple_within)) :=
  Fun.okF F sc_is_tuple_within (td_is_tuple_within) (fun cdv A outer s H E hr =>
    (dss_one (ds_ret (de_and (de_isi .tup (dv 0) T.z_isinstance T.z_tuple) (de_one (de_chain oc_le oc_le (dv 1) (de_callB cd_len T.z_len (da_cons (dv 0) da_nil)) (dv 2))))))) (fun ws S Q E h => len_is_tuple_within h) (hd_is_tuple_within)
end
inductive Jn where
  | hose (n h : Int)
  | pump (p f : Int)
  | leak (l : Int)
def Jn.w : Jn → W
  | .hose n h => .tup [.str "hose", .int n, .int h]
  | .pump p f => .tup [.str "pump", .int p, .int f]
  | .leak l => .tup [.str "leak", .int l]
def Jn.ok : Jn → Prop
  | .hose n h => (1 ≤ n ∧ n ≤ 20) ∧ (-60 ≤ h ∧ h ≤ 60)
  | .pump p f => (0 ≤ p ∧ p ≤ 120) ∧ (1 ≤ f ∧ f ≤ 5000)
  | .leak l => 0 ≤ l ∧ l ≤ 1000
def nozW (f p : Int) : W := .tup [.str "nozzle", .int f, .int p]
inductive So where
  | hyd (p f : Int)
  | pond (d : Int)
def So.w : So → W
  | .hyd p f => .tup [.str "hydrant", .int p, .int f]
  | .pond d => .tup [.str "pond", .int d]
def So.ok : So → Prop
  | .hyd p f => (0 ≤ p ∧ p ≤ 150) ∧ (1 ≤ f ∧ f ≤ 5000)
  | .pond d => 0 ≤ d ∧ d ≤ 8
inductive Pt where
  | noz (js : List Jn) (f p : Int)
  | fork (js : List Jn) (a b : Pt)
def forkW (a b : List W) : W := .tup [.str "fork", .tup a, .tup b]
def Pt.ws : Pt → List W
  | .noz js f p => js.map Jn.w ++ [nozW f p]
  | .fork js a b => js.map Jn.w ++ [forkW a.ws b.ws]
def Pt.joins : Pt → List W
  | .noz js f p => js.map Jn.w ++ [nozW f p]
  | .fork js a b => js.map Jn.w ++ (a.joins ++ b.joins)
def Pt.ok : Pt → Nat → Prop
  | .noz js f p, _ => js.length ≤ 7 ∧ (∀ j ∈ js, j.ok) ∧ (0 ≤ f ∧ f ≤ 2000) ∧ (0 ≤ p ∧ p ≤ 100)
  | .fork js a b, d => 0 < d ∧ js.length ≤ 7 ∧ (∀ j ∈ js, j.ok) ∧ a.ok (d - 1) ∧ b.ok (d - 1)
def JW (w : W) : Prop := (∃ j : Jn, j.ok ∧ w = j.w) ∨ ∃ f p : Int, (0 ≤ f ∧ f ≤ 2000) ∧ (0 ≤ p ∧ p ≤ 100) ∧ w = nozW f p
theorem Pt.joins_ok {t : Pt} : ∀ {d : Nat}, t.ok d → ∀ w ∈ t.joins, JW w := by
  induction t with
  | noz js f p =>
    rintro d ⟨_, h2, h3, h4⟩ w hw
    rcases List.mem_append.mp hw with hw | hw
    · obtain ⟨j, hj, rfl⟩ := List.mem_map.mp hw
      exact .inl ⟨j, h2 j hj, rfl⟩
    · rw [List.mem_singleton.mp hw]
      exact .inr ⟨f, p, h3, h4, rfl⟩
  | fork js a b iha ihb =>
    rintro d ⟨_, _, h2, h3, h4⟩ w hw
    rcases List.mem_append.mp hw with hw | hw
    · obtain ⟨j, hj, rfl⟩ := List.mem_map.mp hw
      exact .inl ⟨j, h2 j hj, rfl⟩
    · rcases List.mem_append.mp hw with hw | hw
      · exact iha h3 w hw
      · exact ihb h4 w hw
theorem Pt.joins_len {t : Pt} : ∀ {d : Nat}, t.ok d → t.joins.length + 8 ≤ 16 * 2 ^ d := by
  induction t with
  | noz js f p =>
    rintro d ⟨h1, _⟩
    have : 1 ≤ 2 ^ d := Nat.one_le_two_pow
    show (js.map Jn.w ++ [nozW f p]).length + 8 ≤ _
    rw [List.length_append, List.length_map]
    simp only [List.length_cons, List.length_nil]
    omega
  | fork js a b iha ihb =>
    rintro d ⟨h0, h1, _, h3, h4⟩
    obtain ⟨e, rfl⟩ : ∃ e, d = e + 1 := ⟨d - 1, by omega⟩
    have la := iha h3
    have lb := ihb h4
    rw [Nat.add_sub_cancel] at la lb
    show (js.map Jn.w ++ (a.joins ++ b.joins)).length + 8 ≤ _
    rw [List.length_append, List.length_append, List.length_map, Nat.pow_succ]
    omega
theorem Pt.ws_len {d : Nat} {t : Pt} (h : t.ok d) : 1 ≤ t.ws.length ∧ t.ws.length ≤ 8 := by
  cases t with
  | noz js f p =>
    have h1 := h.1
    unfold Pt.ws
    rw [List.length_append, List.length_map]
    simp only [List.length_cons, List.length_nil]
    omega
  | fork js a b =>
    have h1 := h.2.1
    unfold Pt.ws
    rw [List.length_append, List.length_map]
    simp only [List.length_cons, List.length_nil]
    omega
abbrev s_are_within : Stmt := topS 42
abbrev N_are_within : List Str := ["bounds", "numbers", "number", "least", "most"]
theorem sc_are_within : FnScope N_are_within ["bounds", "numbers"] (defScope s_are_within) := ⟨rfl, rfl, rfl, by decide +kernel, rfl, by decide +kernel, by decide +kernel⟩
theorem st_are_within {x0 x1 : W} : ζg N_are_within [x0, x1] = [some x0, some x1, none, none, none] := rfl
def td_are_within : DS' :=
    (ζU (ζW (ζi (dOp dNe (dCB ζR (ζl (ζB 1) ζO)) (dCB ζR (ζl (ζB 0) ζO)))) (ζV (dC (.bl false))) ζp)
    (ζV (dCB ζT (ζl (dLc (ξe (ζl (ζB 1) (ζl (ζB 0) ζO))) (.tp ((.nm 2) :: ((.tp ((.nm 3) :: ((.nm 4) :: []))) :: []))) dYes (ζu sp_is_whole_within (ζl (ζB 2) (ζl (ζB 3) (ζl (ζB 4) ζO)))) [2, 3, 4]) ζO))))
def sp_are_within : DSp := fun ws S Q _ => (∃ a b x, ws = [.tup [.tup [.int a, .int b]], .tup [.int x]] ∧ (a ≤ x ∧ x ≤ b) ∧ Q (.bl true) S) ∨ ∃ a b c d x y, ws = [.tup [.tup [.int a, .int b], .tup [.int c, .int d]], .tup [.int x, .int y]] ∧ (a ≤ x ∧ x ≤ b) ∧ (c ≤ y ∧ y ≤ d) ∧ Q (.bl true) S
theorem len_are_within {ws S Q E} (h : sp_are_within ws S Q E) : ws.length = 2 := by rcases h with ⟨_, _, _, rfl, _⟩ | ⟨_, _, _, _, _, _, rfl, _⟩ <;> rfl
theorem hd_are_within (ws S Q E) (h : sp_are_within ws S Q E) : td_are_within { nx := fun _ S' => frzQ Q .non S', rt := frzQ Q } ⟨ζg N_are_within ws, XF⟩ S := by
  simp only [st_are_within, td_are_within]
  have go : ∀ (bs : List W) (ns : List W), (∀ w ∈ izip ns bs, ∃ x a b : Int, w = .tup [.int x, .tup [.int a, .int b]] ∧ (a ≤ x ∧ x ≤ b)) → ns.length = bs.length → bs.length ≤ 2 → Q (.bl true) S → (ζU (ζW (ζi (dOp dNe (dCB ζR (ζl (ζB 1) ζO)) (dCB ζR (ζl (ζB 0) ζO)))) (ζV (dC (.bl false))) ζp)
    (ζV (dCB ζT (ζl (dLc (ξe (ζl (ζB 1) (ζl (ζB 0) ζO))) (.tp ((.nm 2) :: ((.tp ((.nm 3) :: ((.nm 4) :: []))) :: []))) dYes (ζu sp_is_whole_within (ζl (ζB 2) (ζl (ζB 3) (ζl (ζB 4) ζO)))) [2, 3, 4]) ζO)))) { nx := fun _ S' => frzQ Q .non S', rt := frzQ Q } ⟨ζg N_are_within [.tup bs, .tup ns], XF⟩ S := by
    intro bs ns hall hl h2 q
    refine seq_go (if_b false (fun Q hq => ?_) (fun e => (nomatch e)) (fun _ => ?_))
    · (array_get_dec)
      rw [hl]
      refine ⟨rfl, rfl, ?_⟩
      rw [weq_refl (show isD (.int (bs.length : Int)) = true from rfl)]
      exact hq
    (((try unfold ζp); dsimp only))
    refine ret_go ?_
    simp only [dCB, ζl, ζO]
    refine lcZF (w1 := .tup ns) (w2 := .tup bs) (xs := ns) (ys := bs) (fun Q' h => by (array_get_dec); exact h) (fun _ => rfl) (fun _ => rfl) (fun _ => true) (fun _ => .bl true) (by omega) (fun w hw => ?_) ?_
    · obtain ⟨x, a, b, rfl, h1, h2⟩ := hall w hw
      refine ⟨_, rfl, fun p' acc hp' => ⟨fun Qt ht => ht, fun _ Qe he => ?_⟩⟩
      (array_get_dec)
      refine ⟨.int x, a, b, rfl, rfl, ?_⟩
      show Qe (.bl (decide (a ≤ x) && decide (x ≤ b))) _
      rw [decide_eq_true h1, decide_eq_true h2]
      exact he
    · have e : ∀ xs : List W, bls (xs.map fun _ => W.bl true) = some (xs.map fun _ => true) := fun xs => by
        induction xs with
        | nil => rfl
        | cons x xs ih => simp only [List.map_cons, bls, ih]; rfl
      have e2 : ∀ xs : List W, ((xs.map fun _ => true).all id) = true := fun xs => by
        induction xs with
        | nil => rfl
        | cons x xs ih => rw [List.map_cons, List.all_cons, ih]; rfl
      simp only [ζT, view_c_lst, e, e2]
      exact frzQ.mk q
  rcases h with ⟨a, b, x, rfl, h1, q⟩ | ⟨a, b, c, d, x, y, rfl, h1, h2, q⟩
  · refine go _ _ (fun w hw => ?_) rfl (by show 1 ≤ 2; decide) q
    simp only [izip, List.zip_cons_cons, List.zip_nil_right, List.map_cons, List.map_nil, List.mem_singleton] at hw
    exact ⟨x, a, b, hw, h1⟩
  · refine go _ _ (fun w hw => ?_) rfl (by show 2 ≤ 2; decide) q
    simp only [izip, List.zip_cons_cons, List.zip_nil_right, List.map_cons, List.map_nil, List.mem_cons, List.not_mem_nil, or_false] at hw
    rcases hw with hw | hw
    · exact ⟨x, a, b, hw, h1⟩
    · exact ⟨y, c, d, hw, h2⟩
section
variable {P : Program} {w : World} {K : PySem.W.Frag} {mg : Str → Option Value} {base : Heap} {c_Line c_BadTime c_NoGround c_NoPlace c_NoProof c_NoKind c_BadText c_NoDeed c_NoRow c_TooMany c_NotDone c_NoBook c_NoCall c_NoEngine c_NoEngines c_NoLine c_NoJoin c_NoFlow c_Late c_Inside c_Dead c_NoTeam c_NoWearer c_NoBoard c_NoText c_Nothing c_NoSaying : Addr}
theorem ok_are_within {f : Addr} {fd : FuncData} (F : Fun K "are_within" "are_within" s_are_within f fd) (T : Txt K w mg c_Line c_BadTime c_NoGround c_NoPlace c_NoProof c_NoKind c_BadText c_NoDeed c_NoRow c_TooMany c_NotDone c_NoBook c_NoCall c_NoEngine c_NoEngines c_NoLine c_NoJoin c_NoFlow c_Late c_Inside c_Dead c_NoTeam c_NoWearer c_NoBoard c_NoText c_Nothing c_NoSaying) (C_is_whole_within : CalD P w K mg base 2 "is_whole_within" sp_is_whole_within) : FnOk P w K mg base CX0 3 f fd ["bounds", "numbers"] (uSp K (sp_are_within)) :=
  Fun.okF F sc_are_within (td_are_within) (fun cdv A outer s H E hr =>
    (dss_cons (ds_if (dt_cmp (oc_ne hr) (de_callB cd_len T.z_len (da_cons (dv 1) da_nil)) (de_callB cd_len T.z_len (da_cons (dv 0) da_nil))) (dss_one (ds_ret de_bl)) dss_nil)
    (dss_one (ds_ret (de_callB cd_all T.z_all (da_cons (de_lc (own := [("number", 2), ("least", 3), ("most", 4)]) sc_are_within.nd (di_zip T.z_zip (da_cons (dv 1) (da_cons (dv 0) da_nil))) (blkOk_by (own := [("number", 2), ("least", 3), ("most", 4)]) (N := N_are_within) (sc := defScope s_are_within) (by decide +kernel)) (fun _ _ _ _ _ => (dg_tp (dgs_cons (dg_nm (i := 2) sc_are_within.nd) (dgs_cons (dg_tp (dgs_cons (dg_nm (i := 3) sc_are_within.nd) (dgs_cons (dg_nm (i := 4) sc_are_within.nd) dgs_nil))) dgs_nil)))) (fun _ _ _ _ _ => dts_nil) (fun _ _ _ _ _ => (de_call C_is_whole_within hr (da_cons (dv 2) (da_cons (dv 3) (da_cons (dv 4) da_nil)))))) da_nil)))))) (fun ws S Q E h => len_are_within h) (hd_are_within)
end
def sortW (p : Str × W) : W := .tup [.str p.1, p.2]
abbrev s_is_among : Stmt := topS 41
abbrev N_is_among : List Str := ["sorts", "thing", "word", "bounds"]
theorem sc_is_among : FnScope N_is_among ["sorts", "thing"] (defScope s_is_among) := ⟨rfl, rfl, rfl, by decide +kernel, rfl, by decide +kernel, by decide +kernel⟩
theorem st_is_among {x0 x1 : W} : ζg N_is_among [x0, x1] = [some x0, some x1, none, none] := rfl
def td_is_among : DS' :=
    (ζU (ζW (dOr (ζM (ζK (dUn (dIs .tup) (ζB 1)))) (ζi (dOp dEq (dCB ζR (ζl (ζB 1) ζO)) (dC (.int 0))))) (ζV (dC (.bl false))) ζp)
    (ζU (dFor (ζA (ζB 0)) (.tp ((.nm 2) :: ((.nm 3) :: [])))
      (ζW (ζi (dOp dEq (dOp dIx (ζB 1) (dC (.int 0))) (ζB 2))) (ζV (ζu sp_are_within (ζl (ζB 3) (ζl (dSl (ζB 1) (ζv (dC (.int 1))) dNo) ζO)))) ζp))
    (ζV (dC (.bl false)))))
def sp_is_among : DSp := fun ws S Q _ => ∃ (pre post : List (Str × W)) (word : Str) (bnds : W) (ns : List W), ws = [.tup ((pre ++ (word, bnds) :: post).map sortW), .tup (.str word :: ns)] ∧ (∀ p ∈ pre, p.1 ≠ word) ∧ (∀ Q' : WQ, Q' (.bl true) S → sp_are_within [bnds, .tup ns] S Q' X0) ∧ Q (.bl true) S
theorem len_is_among {ws S Q E} (h : sp_is_among ws S Q E) : ws.length = 2 := by obtain ⟨_, _, _, _, _, rfl, _⟩ := h; rfl
theorem hd_is_among (ws S Q E) (h : sp_is_among ws S Q E) : td_is_among { nx := fun _ S' => frzQ Q .non S', rt := frzQ Q } ⟨ζg N_is_among ws, XF⟩ S := by
  obtain ⟨pre, post, word, bnds, ns, rfl, hpre, hw, q⟩ := h
  simp only [st_is_among, td_is_among]
  refine seq_go (if_b false (fun Q hq => ?_) (fun e => (nomatch e)) (fun _ => ?_))
  · refine or_b (a := false) (b := false) (fun Q h => by (array_get_dec); exact h) (fun _ Q h => ?_) hq
    (array_get_dec)
    refine ⟨rfl, rfl, ?_⟩
    have e : weq (.int ((ns.length + 1 : Nat) : Int)) (.int 0) = false := by
      rw [weq_int]
      exact decide_eq_false (by omega)
    rw [e]
    exact h
  (((try unfold ζp); dsimp only; refine seq_go ?_))
  obtain ⟨bs, hbs⟩ : ∃ bs, bs = pre ++ (word, bnds) :: post := ⟨_, rfl⟩
  rw [← hbs]
  have c1 : cut (.str word :: ns) (some 1) none = ns := cut_drop (i := 1) (by show 1 ≤ ns.length + 1; omega)
  refine forS (w := .tup (bs.map sortW)) (xs := bs.map sortW) (fun Q' h => by (array_get_dec); exact h) rfl (fun i ω' S' => ∃ y2 y3, ω' = ⟨[some (.tup (bs.map sortW)), some (.tup (.str word :: ns)), y2, y3], XF⟩ ∧ S' = S ∧ i ≤ pre.length) ⟨_, _, rfl, rfl, Nat.zero_le _⟩ (fun _ _ _ _ => rfl) ?_ ?_
  · rintro i w ω' S' hi ⟨y2, y3, rfl, rfl, hle⟩
    rw [List.getElem?_map] at hi
    cases hb : bs[i]? with
    | none => rw [hb] at hi; cases hi
    | some p =>
    rw [hb] at hi
    cases hi
    obtain ⟨n, x⟩ := p
    refine ⟨_, rfl, ?_⟩
    rw [hbs] at hb
    by_cases lt : i < pre.length
    · have hm : (n, x) ∈ pre := by
        rw [List.getElem?_append_left lt] at hb
        exact List.mem_of_getElem? hb
      have ne : word ≠ n := fun e => hpre _ hm e.symm
      refine if_b false (fun Q hq => ?_) (fun e => (nomatch e)) (fun _ => ?_)
      · (array_get_dec)
        refine ⟨rfl, rfl, ?_⟩
        rw [weq_str, decide_eq_false ne]
        exact hq
      · (((try unfold ζp); dsimp only))
        exact ⟨_, _, rfl, rfl, lt⟩
    · have ei : i = pre.length := by omega
      rw [ei, List.getElem?_append_right (Nat.le_refl _), Nat.sub_self] at hb
      cases hb
      refine if_b true (fun Q hq => ?_) (fun _ => ?_) (fun e => (nomatch e))
      · (array_get_dec)
        refine ⟨rfl, rfl, ?_⟩
        rw [weq_str, decide_eq_true rfl]
        exact hq
      · (((try unfold ζp); dsimp only))
        refine ret_go ?_
        (array_get_dec)
        rw [c1]
        exact hw _ (frzQ.mk q)
  · rintro ω' S' ⟨y2, y3, rfl, rfl, hle⟩
    rw [hbs, List.length_map, List.length_append, List.length_cons] at hle
    omega
section
variable {P : Program} {w : World} {K : PySem.W.Frag} {mg : Str → Option Value} {base : Heap} {c_Line c_BadTime c_NoGround c_NoPlace c_NoProof c_NoKind c_BadText c_NoDeed c_NoRow c_TooMany c_NotDone c_NoBook c_NoCall c_NoEngine c_NoEngines c_NoLine c_NoJoin c_NoFlow c_Late c_Inside c_Dead c_NoTeam c_NoWearer c_NoBoard c_NoText c_Nothing c_NoSaying : Addr}
theorem ok_is_among {f : Addr} {fd : FuncData} (F : Fun K "is_among" "is_among" s_is_among f fd) (T : Txt K w mg c_Line c_BadTime c_NoGround c_NoPlace c_NoProof c_NoKind c_BadText c_NoDeed c_NoRow c_TooMany c_NotDone c_NoBook c_NoCall c_NoEngine c_NoEngines c_NoLine c_NoJoin c_NoFlow c_Late c_Inside c_Dead c_NoTeam c_NoWearer c_NoBoard c_NoText c_Nothing c_NoSaying) (C_are_within : CalD P w K mg base 3 "are_within" sp_are_within) : FnOk P w K mg base CX0 4 f fd ["sorts", "thing"] (uSp K (sp_is_among)) :=
  Fun.okF F sc_is_among (td_is_among) (fun cdv A outer s H E hr =>
    (dss_cons (ds_if (PW.pt (dw_or (dt_not (dt_tru (de_isi .tup (dv 1) T.z_isinstance T.z_tuple))) (dw_or1 (dt_cmp (oc_eq hr) (de_callB cd_len T.z_len (da_cons (dv 1) da_nil)) de_int)))) (dss_one (ds_ret de_bl)) dss_nil)
    (dss_cons (ds_for PassesOwn.never (di_seq (dv 0)) (dg_tp (dgs_cons (dg_nm (i := 2) sc_is_among.nd) (dgs_cons (dg_nm (i := 3) sc_is_among.nd) dgs_nil)))
      (dss_one (ds_if (dt_cmp (oc_eq hr) (de_ix (dv 1) de_int) (dv 2)) (dss_one (ds_ret (de_call C_are_within hr (da_cons (dv 3) (da_cons (de_sl (dv 1) (do_some de_int) do_none) da_nil))))) dss_nil)))
    (dss_one (ds_ret de_bl))))) (fun ws S Q E h => len_is_among h) (hd_is_among)
end
theorem among_src {s : So} (h : s.ok) {S : Sto} {Q : WQ} (q : Q (.bl true) S) : sp_is_among [w_SOURCES, s.w] S Q X0 := by
  cases s with
  | hyd p f => exact ⟨[], [("pond", .tup [.tup [.int 0, .int 8]])], "hydrant", .tup [.tup [.int 0, .int 150], .tup [.int 1, .int 5000]], [.int p, .int f], rfl, fun _ e => (nomatch e), fun Q' q' => .inr ⟨_, _, _, _, _, _, rfl, h.1, h.2, q'⟩, q⟩
  | pond d => exact ⟨[("hydrant", .tup [.tup [.int 0, .int 150], .tup [.int 1, .int 5000]])], [], "pond", .tup [.tup [.int 0, .int 8]], [.int d], rfl, fun p hp => by rw [List.mem_singleton.mp hp]; decide, fun Q' q' => .inl ⟨_, _, _, rfl, h, q'⟩, q⟩
abbrev bHose : Str × W := ("hose", .tup [.tup [.int 1, .int 20], .tup [.int (-60), .int 60]])
abbrev bPump : Str × W := ("pump", .tup [.tup [.int 0, .int 120], .tup [.int 1, .int 5000]])
abbrev bLeak : Str × W := ("leak", .tup [.tup [.int 0, .int 1000]])
abbrev bNoz : Str × W := ("nozzle", .tup [.tup [.int 0, .int 2000], .tup [.int 0, .int 100]])
theorem among_join {j : Jn} (h : j.ok) {S : Sto} {Q : WQ} (q : Q (.bl true) S) : sp_is_among [w_JOINS, j.w] S Q X0 := by
  cases j with
  | hose n e => exact ⟨[], [bPump, bLeak, bNoz], "hose", bHose.2, [.int n, .int e], rfl, fun _ e => (nomatch e), fun Q' q' => .inr ⟨_, _, _, _, _, _, rfl, h.1, h.2, q'⟩, q⟩
  | pump p f => exact ⟨[bHose], [bLeak, bNoz], "pump", bPump.2, [.int p, .int f], rfl, fun p hp => by rw [List.mem_singleton.mp hp]; decide, fun Q' q' => .inr ⟨_, _, _, _, _, _, rfl, h.1, h.2, q'⟩, q⟩
  | leak l => exact ⟨[bHose, bPump], [bNoz], "leak", bLeak.2, [.int l], rfl, fun p hp => by
      simp only [List.mem_cons, List.not_mem_nil, or_false] at hp
      rcases hp with rfl | rfl <;> decide, fun Q' q' => .inl ⟨_, _, _, rfl, h, q'⟩, q⟩
theorem among_noz {f p : Int} (h1 : 0 ≤ f ∧ f ≤ 2000) (h2 : 0 ≤ p ∧ p ≤ 100) {S : Sto} {Q : WQ} (q : Q (.bl true) S) : sp_is_among [w_JOINS, nozW f p] S Q X0 :=
  ⟨[bHose, bPump, bLeak], [], "nozzle", bNoz.2, [.int f, .int p], rfl, fun p hp => by
      simp only [List.mem_cons, List.not_mem_nil, or_false] at hp
      rcases hp with rfl | rfl | rfl <;> decide, fun Q' q' => .inr ⟨_, _, _, _, _, _, rfl, h1, h2, q'⟩, q⟩
theorem Pt.split {d : Nat} {t : Pt} (h : t.ok d) : ∃ (js : List Jn) (last : W) (lj : List W), t.ws = js.map Jn.w ++ [last] ∧ t.joins = js.map Jn.w ++ lj ∧ js.length ≤ 7 ∧ (∀ j ∈ js, j.ok) ∧
    ((∃ f p, (0 ≤ f ∧ f ≤ 2000) ∧ (0 ≤ p ∧ p ≤ 100) ∧ last = nozW f p ∧ lj = [nozW f p]) ∨ ∃ a b : Pt, 0 < d ∧ last = forkW a.ws b.ws ∧ lj = a.joins ++ b.joins ∧ a.ok (d - 1) ∧ b.ok (d - 1)) := by
  cases t with
  | noz js f p => exact ⟨js, _, _, rfl, rfl, h.1, h.2.1, .inl ⟨f, p, h.2.2.1, h.2.2.2, rfl, rfl⟩⟩
  | fork js a b => exact ⟨js, _, _, rfl, rfl, h.2.1, h.2.2.1, .inr ⟨a, b, h.1, rfl, rfl, h.2.2.2.1, h.2.2.2.2⟩⟩
theorem ext_go {i : Nat} {te : DE'} {ω : Om} {S : Sto} {D : Out} {a : Addr} {xs ys : List W} (hi : ω.s[i]? = some (some (.ref a))) (hS : S a = some (.lst xs)) (he : ∀ Q : WQ, Q (.lst ys) S → te ω S Q) (hl : xs.length + ys.length ≤ 1000000) (k : D.nx ω (up S a (.lst (xs ++ ys)))) : ζq (dBM ξb (ζB i) (ζl te ζO)) D ω S := by
  refine drop_go (bm_go (var_go hi ⟨isL_ref hS, ?_⟩))
  simp only [ζl, ζO]
  refine he _ ?_
  simp only [ξb]
  simp only [view_c_lst, hS]
  exact ⟨hl, k⟩
def sp_joins_of : Nat → DSp
  | 0 => fun _ _ _ _ => False
  | d + 1 => fun ws S Q _ => ∃ t : Pt, ws = [.tup t.ws] ∧ t.ok d ∧ d ≤ 5 ∧ Q (.lst t.joins) S
theorem len_joins_of {d ws S Q E} (h : sp_joins_of (d + 1) ws S Q E) : ws.length = 1 := by obtain ⟨_, rfl, _⟩ := h; rfl
abbrev s_joins_of : Stmt := topS 45
abbrev N_joins_of : List Str := ["parts", "joins", "part"]
theorem sc_joins_of : FnScope N_joins_of ["parts"] (defScope s_joins_of) := ⟨rfl, rfl, rfl, by decide +kernel, rfl, by decide +kernel, by decide +kernel⟩
theorem st_joins_of {x0 : W} : ζg N_joins_of [x0] = [some x0, none, none] := rfl
def td_joins_of (d : Nat) : DS' :=
    (ζU (ζY 1 (ζm ζO))
    (ζU (dFor (ζA (ζB 0)) (.nm 2)
      (ζW (ζi (dOp dEq (dOp dIx (ζB 2) (dC (.int 0))) (dC (.str "fork")))) (ζq (dBM ξb (ζB 1) (ζl (dOp ζH (ζu (sp_joins_of d) (ζl (dOp dIx (ζB 2) (dC (.int 1))) ζO)) (ζu (sp_joins_of d) (ζl (dOp dIx (ζB 2) (dC (.int 2))) ζO))) ζO))) (ζq (dBM ξa (ζB 1) (ζl (ζB 2) ζO)))))
    (ζV (ζB 1))))
theorem hd_joins_of (d : Nat) (ws S Q E) (h : sp_joins_of (d + 1) ws S Q E) : td_joins_of d { nx := fun _ S' => frzQ Q .non S', rt := frzQ Q } ⟨ζg N_joins_of ws, XF⟩ S := by
  obtain ⟨t, rfl, ht, d5, q⟩ := h
  obtain ⟨js, last, lj, e1, e2, j7, jok, hlast⟩ := Pt.split ht
  simp only [st_joins_of, td_joins_of]
  refine seq_go (setN_go (fun w S1 => ∃ l, w = .ref l ∧ S l = none ∧ S1 = up S l (.lst [])) (fun Q hq => ?_) ?_)
  · (array_get_dec)
    exact ⟨by decide, fun p hp => hq _ _ ⟨p, rfl, hp, rfl⟩⟩
  rintro _ _ ⟨l, rfl, hl, rfl⟩
  (((try unfold ζp); dsimp only; refine seq_go ?_))
  have wl : t.ws.length = js.length + 1 := by rw [e1, List.length_append, List.length_map]; rfl
  refine forS (w := .tup t.ws) (xs := t.ws) (fun Q' h => by (array_get_dec); exact h) rfl (fun i ω' S' => ∃ y2, ω' = ⟨[some (.tup t.ws), some (.ref l), y2], XF⟩ ∧ S' = up S l (.lst (if i ≤ js.length then (js.map Jn.w).take i else t.joins))) ⟨_, rfl, by simp⟩ (fun _ _ _ _ => rfl) ?_ ?_
  · rintro i w ω' S' hw ⟨y2, rfl, rfl⟩
    refine ⟨_, rfl, ?_⟩
    rw [e1] at hw
    by_cases lt : i < js.length
    · rw [List.getElem?_append_left (by rw [List.length_map]; exact lt), List.getElem?_map, List.getElem?_eq_getElem lt] at hw
      cases hw
      obtain ⟨j, hj⟩ : ∃ j, j = js[i] := ⟨_, rfl⟩
      rw [← hj]
      rw [if_pos (Nat.le_of_lt lt)]
      refine if_b false (fun Q hq => ?_) (fun e => (nomatch e)) (fun _ => ?_)
      · cases j <;> (simp only [Jn.w]; (array_get_dec); exact ⟨rfl, rfl, hq⟩)
      · (((try unfold ζp); dsimp only))
        refine app_go j.w rfl up_same (fun Q hq => by (array_get_dec); exact hq) (by rw [List.length_take]; omega) ⟨_, rfl, ?_⟩
        rw [up_up, if_pos (show i + 1 ≤ js.length from lt), List.take_succ, List.getElem?_map, List.getElem?_eq_getElem lt, ← hj]
        rfl
    · have ei : i = js.length := by
        have := (List.getElem?_eq_some_iff.mp hw).1
        rw [List.length_append, List.length_map] at this
        simp only [List.length_cons, List.length_nil] at this
        omega
      subst ei
      rw [List.getElem?_append_right (by rw [List.length_map]; exact Nat.le_refl _), List.length_map, Nat.sub_self] at hw
      cases hw
      have tk : (js.map Jn.w).take js.length = js.map Jn.w := List.take_of_length_le (by rw [List.length_map]; exact Nat.le_refl _)
      rw [if_pos (Nat.le_refl _), tk]
      rcases hlast with ⟨f, p, _, _, rfl, rfl⟩ | ⟨a, b, d0, rfl, rfl, ha, hb⟩
      · refine if_b false (fun Q hq => ?_) (fun e => (nomatch e)) (fun _ => ?_)
        · simp only [nozW]
          (array_get_dec)
          exact ⟨rfl, rfl, hq⟩
        · (((try unfold ζp); dsimp only))
          refine app_go (nozW f p) rfl up_same (fun Q hq => by (array_get_dec); exact hq) (by rw [List.length_map]; omega) ⟨_, rfl, ?_⟩
          rw [up_up, if_neg (by omega), e2]
      · refine if_b true (fun Q hq => ?_) (fun _ => ?_) (fun e => (nomatch e))
        · simp only [forkW]
          (array_get_dec)
          exact ⟨rfl, rfl, hq⟩
        · obtain ⟨d, rfl⟩ : ∃ e, d = e + 1 := ⟨d - 1, by omega⟩
          rw [Nat.add_sub_cancel] at ha hb
          have la := Pt.joins_len ha
          have lb := Pt.joins_len hb
          have p2 : 2 ^ d ≤ 2 ^ 5 := Nat.pow_le_pow_right (by decide) (by omega)
          (((try unfold ζp); dsimp only))
          refine ext_go (ys := a.joins ++ b.joins) rfl up_same (fun Q hq => ?_) (by rw [List.length_append, List.length_map]; omega) ⟨_, rfl, ?_⟩
          · simp only [forkW]
            (array_get_dec)
            refine ⟨a, rfl, ha, by omega, ?_⟩
            refine ⟨b, rfl, hb, by omega, ?_⟩
            (array_get_dec)
            exact ⟨by omega, hq⟩
          · rw [up_up, if_neg (by omega), e2]
  · rintro ω' S' ⟨y2, rfl, rfl⟩
    rw [if_neg (by omega)]
    (((try unfold ζp); dsimp only))
    exact ret_go (var_go rfl (frzL hl q))
section
variable {P : Program} {w : World} {K : PySem.W.Frag} {mg : Str → Option Value} {base : Heap} {c_Line c_BadTime c_NoGround c_NoPlace c_NoProof c_NoKind c_BadText c_NoDeed c_NoRow c_TooMany c_NotDone c_NoBook c_NoCall c_NoEngine c_NoEngines c_NoLine c_NoJoin c_NoFlow c_Late c_Inside c_Dead c_NoTeam c_NoWearer c_NoBoard c_NoText c_Nothing c_NoSaying : Addr}
theorem okS_joins_of_0 {f : Addr} {fd : FuncData} (F : Fun K "joins_of" "joins_of" s_joins_of f fd) (T : Txt K w mg c_Line c_BadTime c_NoGround c_NoPlace c_NoProof c_NoKind c_BadText c_NoDeed c_NoRow c_TooMany c_NotDone c_NoBook c_NoCall c_NoEngine c_NoEngines c_NoLine c_NoJoin c_NoFlow c_Late c_Inside c_Dead c_NoTeam c_NoWearer c_NoBoard c_NoText c_Nothing c_NoSaying) (C_joins_of : CalD P w K mg base 1 "joins_of" (sp_joins_of 0)) : FnOk P w K mg base CX0 2 f fd ["parts"] (uSp K (sp_joins_of 1)) :=
  Fun.okF F sc_joins_of (td_joins_of 0) (fun cdv A outer s H E hr =>
    (dss_cons (ds_set (i := 1) sc_joins_of.nd (de_lstM da_nil))
    (dss_cons (ds_for PassesOwn.never (di_seq (dv 0)) (dg_nm (i := 2) sc_joins_of.nd)
      (dss_one (ds_if (dt_cmp (oc_eq hr) (de_ix (dv 2) de_int) de_str) (dss_one (ds_expr (de_extend (dv 1) (da_cons (de_op oa_add (de_call C_joins_of hr (da_cons (de_ix (dv 2) de_int) da_nil)) (de_call C_joins_of hr (da_cons (de_ix (dv 2) de_int) da_nil))) da_nil)))) (dss_one (ds_expr (de_append (dv 1) (da_cons (dv 2) da_nil)))))))
    (dss_one (ds_ret (dv 1)))))) (fun ws S Q E h => len_joins_of h) (hd_joins_of 0)
theorem okS_joins_of_1 {f : Addr} {fd : FuncData} (F : Fun K "joins_of" "joins_of" s_joins_of f fd) (T : Txt K w mg c_Line c_BadTime c_NoGround c_NoPlace c_NoProof c_NoKind c_BadText c_NoDeed c_NoRow c_TooMany c_NotDone c_NoBook c_NoCall c_NoEngine c_NoEngines c_NoLine c_NoJoin c_NoFlow c_Late c_Inside c_Dead c_NoTeam c_NoWearer c_NoBoard c_NoText c_Nothing c_NoSaying) (C_joins_of : CalD P w K mg base 2 "joins_of" (sp_joins_of 1)) : FnOk P w K mg base CX0 3 f fd ["parts"] (uSp K (sp_joins_of 2)) :=
  Fun.okF F sc_joins_of (td_joins_of 1) (fun cdv A outer s H E hr =>
    (dss_cons (ds_set (i := 1) sc_joins_of.nd (de_lstM da_nil))
    (dss_cons (ds_for PassesOwn.never (di_seq (dv 0)) (dg_nm (i := 2) sc_joins_of.nd)
      (dss_one (ds_if (dt_cmp (oc_eq hr) (de_ix (dv 2) de_int) de_str) (dss_one (ds_expr (de_extend (dv 1) (da_cons (de_op oa_add (de_call C_joins_of hr (da_cons (de_ix (dv 2) de_int) da_nil)) (de_call C_joins_of hr (da_cons (de_ix (dv 2) de_int) da_nil))) da_nil)))) (dss_one (ds_expr (de_append (dv 1) (da_cons (dv 2) da_nil)))))))
    (dss_one (ds_ret (dv 1)))))) (fun ws S Q E h => len_joins_of h) (hd_joins_of 1)
theorem okS_joins_of_2 {f : Addr} {fd : FuncData} (F : Fun K "joins_of" "joins_of" s_joins_of f fd) (T : Txt K w mg c_Line c_BadTime c_NoGround c_NoPlace c_NoProof c_NoKind c_BadText c_NoDeed c_NoRow c_TooMany c_NotDone c_NoBook c_NoCall c_NoEngine c_NoEngines c_NoLine c_NoJoin c_NoFlow c_Late c_Inside c_Dead c_NoTeam c_NoWearer c_NoBoard c_NoText c_Nothing c_NoSaying) (C_joins_of : CalD P w K mg base 3 "joins_of" (sp_joins_of 2)) : FnOk P w K mg base CX0 4 f fd ["parts"] (uSp K (sp_joins_of 3)) :=
  Fun.okF F sc_joins_of (td_joins_of 2) (fun cdv A outer s H E hr =>
    (dss_cons (ds_set (i := 1) sc_joins_of.nd (de_lstM da_nil))
    (dss_cons (ds_for PassesOwn.never (di_seq (dv 0)) (dg_nm (i := 2) sc_joins_of.nd)
      (dss_one (ds_if (dt_cmp (oc_eq hr) (de_ix (dv 2) de_int) de_str) (dss_one (ds_expr (de_extend (dv 1) (da_cons (de_op oa_add (de_call C_joins_of hr (da_cons (de_ix (dv 2) de_int) da_nil)) (de_call C_joins_of hr (da_cons (de_ix (dv 2) de_int) da_nil))) da_nil)))) (dss_one (ds_expr (de_append (dv 1) (da_cons (dv 2) da_nil)))))))
    (dss_one (ds_ret (dv 1)))))) (fun ws S Q E h => len_joins_of h) (hd_joins_of 2)
theorem okS_joins_of_3 {f : Addr} {fd : FuncData} (F : Fun K "joins_of" "joins_of" s_joins_of f fd) (T : Txt K w mg c_Line c_BadTime c_NoGround c_NoPlace c_NoProof c_NoKind c_BadText c_NoDeed c_NoRow c_TooMany c_NotDone c_NoBook c_NoCall c_NoEngine c_NoEngines c_NoLine c_NoJoin c_NoFlow c_Late c_Inside c_Dead c_NoTeam c_NoWearer c_NoBoard c_NoText c_Nothing c_NoSaying) (C_joins_of : CalD P w K mg base 4 "joins_of" (sp_joins_of 3)) : FnOk P w K mg base CX0 5 f fd ["parts"] (uSp K (sp_joins_of 4)) :=
  Fun.okF F sc_joins_of (td_joins_of 3) (fun cdv A outer s H E hr =>
    (dss_cons (ds_set (i := 1) sc_joins_of.nd (de_lstM da_nil))
    (dss_cons (ds_for PassesOwn.never (di_seq (dv 0)) (dg_nm (i := 2) sc_joins_of.nd)
      (dss_one (ds_if (dt_cmp (oc_eq hr) (de_ix (dv 2) de_int) de_str) (dss_one (ds_expr (de_extend (dv 1) (da_cons (de_op oa_add (de_call C_joins_of hr (da_cons (de_ix (dv 2) de_int) da_nil)) (de_call C_joins_of hr (da_cons (de_ix (dv 2) de_int) da_nil))) da_nil)))) (dss_one (ds_expr (de_append (dv 1) (da_cons (dv 2) da_nil)))))))
    (dss_one (ds_ret (dv 1)))))) (fun ws S Q E h => len_joins_of h) (hd_joins_of 3)
end
inductive Pn where
  | noz (f p : Int)
  | fork (a b : Pn)
  | cons (j : Jn) (t : Pn)
inductive Nq where
  | j (j : Jn)
  | n (f p : Int)
def Pn.ok : Pn → Prop
  | .noz f p => (0 ≤ f ∧ f ≤ 2000) ∧ (0 ≤ p ∧ p ≤ 100)
  | .fork a b => a.ok ∧ b.ok
  | .cons j t => j.ok ∧ t.ok
def Jn.tk : Jn → Int
  | .leak l => l
  | _ => 0
def Pn.tak (sh : Int) : Pn → Int
  | .noz f _ => f * sh / 100
  | .fork a b => a.tak sh + b.tak sh
  | .cons j t => j.tk + t.tak sh
def Pn.cnt : Pn → Nat
  | .noz _ _ => 1
  | .fork a b => a.cnt + b.cnt
  | .cons _ t => t.cnt + 1
def Jn.beh (p fl : Int) : Jn → Int
  | .hose n h => p - n * fl * fl / 40000 - h
  | .pump q _ => min 120 (p + q)
  | .leak _ => p
def Jn.why (p fl : Int) : Jn → Option Nat
  | .hose _ _ => if p < -70 then some 0 else none
  | .pump _ f => if f < fl then some 1 else none
  | .leak _ => none
def Pn.walk (sh : Int) : Pn → Int → Nat → Except (Nat × Nat) (List Int)
  | .noz _ q, p, pa => if p < q then .error (pa + 1, 2) else .ok [p]
  | .cons j t, p, pa =>
    match j.why (j.beh p (j.tk + t.tak sh)) (j.tk + t.tak sh) with
    | some y => .error (pa + 1, y)
    | none => match t.walk sh (j.beh p (j.tk + t.tak sh)) (pa + 1) with
      | .error e => .error e
      | .ok xs => .ok (j.beh p (j.tk + t.tak sh) :: xs)
  | .fork a b, p, pa => match a.walk sh p pa with
    | .error e => .error e
    | .ok xs => match b.walk sh p (pa + xs.length) with
      | .error e => .error e
      | .ok ys => .ok (xs ++ ys)
theorem Pn.walk_len {sh : Int} {t : Pn} : ∀ {p : Int} {pa : Nat} {xs : List Int}, t.walk sh p pa = .ok xs → xs.length = t.cnt := by
  induction t with
  | noz f q =>
    intro p pa xs h
    unfold Pn.walk at h
    split at h
    · cases h
    · cases h; rfl
  | cons j t ih =>
    intro p pa xs h
    unfold Pn.walk at h
    split at h
    · cases h
    · split at h
      · cases h
      · rename_i xs' hx
        cases h
        rw [List.length_cons, ih hx]; rfl
  | fork a b iha ihb =>
    intro p pa xs h
    unfold Pn.walk at h
    split at h
    · cases h
    · rename_i xa ha
      split at h
      · cases h
      · rename_i xb hb
        cases h
        rw [List.length_append, iha ha, ihb hb]; rfl
theorem Pn.tak_nn {sh : Int} (h : 0 ≤ sh) {t : Pn} (ok : t.ok) : 0 ≤ t.tak sh := by
  induction t with
  | noz f q =>
    have := Int.mul_nonneg ok.1.1 h
    unfold Pn.tak; omega
  | fork a b iha ihb => have := iha ok.1; have := ihb ok.2; unfold Pn.tak; omega
  | cons j t ih =>
    have := ih ok.2
    have : 0 ≤ j.tk := by
      cases j with
      | leak l => exact ok.1.1
      | _ => exact Int.le_refl _
    unfold Pn.tak; omega
theorem Pn.tak_mono {s s' : Int} (h0 : 0 ≤ s') (h : s' ≤ s) {t : Pn} (ok : t.ok) : t.tak s' ≤ t.tak s := by
  induction t with
  | noz f q =>
    have := Int.mul_le_mul_of_nonneg_left h ok.1.1
    unfold Pn.tak; omega
  | fork a b iha ihb => have := iha ok.1; have := ihb ok.2; unfold Pn.tak; omega
  | cons j t ih => have := ih ok.2; unfold Pn.tak; omega
def lkJ (m : Nat) : Jn → List (Nat × Int)
  | .leak l => [(m, l)]
  | _ => []
def lkN : Nat × Nq → List (Nat × Int)
  | (m, .j j) => lkJ m j
  | (_, .n _ _) => []
def lkL (w : List (Nat × Nq)) : List (Nat × Int) := w.flatMap lkN
def Pn.ways : Pn → Nat → List (List (Nat × Nq))
  | .noz f q, m => [[(m + 1, .n f q)]]
  | .fork a b, m => a.ways m ++ b.ways (m + a.cnt)
  | .cons j t, m => (t.ways (m + 1)).map ((m + 1, .j j) :: ·)
def Pn.flows : Pn → List Int
  | .noz f _ => [f]
  | .fork a b => a.flows ++ b.flows
  | .cons _ t => t.flows
def Pn.leaks : Pn → Nat → List (Nat × Int)
  | .noz _ _, _ => []
  | .fork a b, m => a.leaks m ++ b.leaks (m + a.cnt)
  | .cons j t, m => lkJ (m + 1) j ++ t.leaks (m + 1)
abbrev EntK := Nq × Nat × List Int × List (Nat × Int)
def Pn.ents : Pn → Nat → Nat → List EntK
  | .noz f q, _, mar => [(.n f q, mar, [f], [])]
  | .fork a b, m, mar => a.ents m mar ++ b.ents (m + a.cnt) mar
  | .cons j t, m, mar => (.j j, mar, t.flows, lkJ (m + 1) j ++ t.leaks (m + 1)) :: t.ents (m + 1) (m + 1)
theorem Pn.ents_len {t : Pn} : ∀ {m mar : Nat}, (t.ents m mar).length = t.cnt := by
  induction t with
  | noz f q => intro m mar; rfl
  | fork a b iha ihb => intro m mar; show (a.ents m mar ++ b.ents (m + a.cnt) mar).length = _; rw [List.length_append, iha, ihb]; rfl
  | cons j t ih => intro m mar; show (_ :: t.ents (m+1) (m+1)).length = _; rw [List.length_cons, ih]; rfl
def putN (D : List (Nat × Int)) (k : Nat) (v : Int) : List (Nat × Int) := if D.any (fun p => decide (p.1 = k)) then D.map (fun p => if p.1 = k then (p.1, v) else p) else D ++ [(k, v)]
def putAll (D L : List (Nat × Int)) : List (Nat × Int) := L.foldl (fun d q => putN d q.1 q.2) D
theorem putAll_app {D A B : List (Nat × Int)} : putAll D (A ++ B) = putAll (putAll D A) B := by unfold putAll; rw [List.foldl_append]
theorem putN_new {D : List (Nat × Int)} {k : Nat} {v : Int} (h : ∀ p ∈ D, p.1 ≠ k) : putN D k v = D ++ [(k, v)] := by
  unfold putN
  rw [if_neg]
  rw [List.any_eq_true]
  rintro ⟨p, hp, e⟩
  exact h p hp (of_decide_eq_true e)
theorem nd_oneK {D : List (Nat × Int)} {k : Nat} {v : Int} {p : Nat × Int} (nd : (D.map (·.1)).Nodup) (hp : p ∈ D) (h : (k, v) ∈ D) (c : p.1 = k) : p = (k, v) := by
  induction D with
  | nil => cases hp
  | cons d D ih =>
    rw [List.map_cons, List.nodup_cons] at nd
    rcases List.mem_cons.mp hp with rfl | hp'
    · rcases List.mem_cons.mp h with h | h
      · exact h.symm
      · exact absurd (by rw [c]; exact List.mem_map_of_mem (f := (·.1)) h) nd.1
    · rcases List.mem_cons.mp h with rfl | h'
      · exact absurd (by rw [← c]; exact List.mem_map_of_mem (f := (·.1)) hp') nd.1
      · exact ih nd.2 hp' h'
theorem putN_same {D : List (Nat × Int)} {k : Nat} {v : Int} (nd : (D.map (·.1)).Nodup) (h : (k, v) ∈ D) : putN D k v = D := by
  unfold putN
  rw [if_pos (List.any_eq_true.mpr ⟨_, h, decide_eq_true rfl⟩)]
  have : ∀ p ∈ D, (if p.1 = k then (p.1, v) else p) = p := by
    intro p hp
    by_cases c : p.1 = k
    · rw [if_pos c]
      have : p = (k, v) := nd_oneK nd hp h c
      rw [this]
    · rw [if_neg c]
  rw [List.map_congr_left this, List.map_id']
theorem putAll_same {D L : List (Nat × Int)} (nd : (D.map (·.1)).Nodup) (h : ∀ p ∈ L, p ∈ D) : putAll D L = D := by
  induction L with
  | nil => rfl
  | cons p L ih =>
    show putAll (putN D p.1 p.2) L = D
    rw [putN_same nd (h p List.mem_cons_self)]
    exact ih fun q hq => h q (List.mem_cons_of_mem _ hq)
theorem putAll_new {D L : List (Nat × Int)} (nd : (L.map (·.1)).Nodup) (h : ∀ p ∈ D, ∀ q ∈ L, p.1 ≠ q.1) : putAll D L = D ++ L := by
  induction L generalizing D with
  | nil => rw [List.append_nil]; rfl
  | cons p L ih =>
    show putAll (putN D p.1 p.2) L = _
    rw [List.map_cons, List.nodup_cons] at nd
    rw [putN_new fun q hq => h q hq p List.mem_cons_self, ih nd.2, List.append_assoc]; rfl
    intro q hq r hr
    rcases List.mem_append.mp hq with hq | hq
    · exact h q hq r (List.mem_cons_of_mem _ hr)
    · rw [List.mem_singleton.mp hq]
      exact fun e => nd.1 (e ▸ List.mem_map_of_mem (f := (·.1)) hr)
theorem lkJ_num {m : Nat} {j : Jn} {p : Nat × Int} (h : p ∈ lkJ m j) : p.1 = m := by
  cases j <;> simp only [lkJ, List.not_mem_nil, List.mem_singleton] at h
  rw [h]
theorem Pn.leaks_num {t : Pn} : ∀ {m : Nat} {p : Nat × Int}, p ∈ t.leaks m → m < p.1 ∧ p.1 ≤ m + t.cnt := by
  induction t with
  | noz f q => intro m p h; cases h
  | fork a b iha ihb =>
    intro m p h
    rcases List.mem_append.mp h with h | h
    · have := iha h; show _ ∧ _ ≤ m + (a.cnt + b.cnt); omega
    · have := ihb h; show _ ∧ _ ≤ m + (a.cnt + b.cnt); omega
  | cons j t ih =>
    intro m p h
    show _ ∧ _ ≤ m + (t.cnt + 1)
    rcases List.mem_append.mp h with h | h
    · have := lkJ_num h; omega
    · have := ih h; omega
theorem nodup_appK {A B : List (Nat × Int)} (a : (A.map (·.1)).Nodup) (b : (B.map (·.1)).Nodup) (h : ∀ p ∈ A, ∀ q ∈ B, p.1 ≠ q.1) : ((A ++ B).map (·.1)).Nodup := by
  rw [List.map_append, List.nodup_append]
  refine ⟨a, b, fun x hx y hy => ?_⟩
  obtain ⟨p, hp, rfl⟩ := List.mem_map.mp hx
  obtain ⟨q, hq, rfl⟩ := List.mem_map.mp hy
  exact h p hp q hq
theorem lkJ_nd {m : Nat} {j : Jn} : ((lkJ m j).map (·.1)).Nodup := by cases j <;> simp [lkJ]
theorem Pn.leaks_nd {t : Pn} : ∀ {m : Nat}, ((t.leaks m).map (·.1)).Nodup := by
  induction t with
  | noz f q => intro m; exact List.nodup_nil
  | fork a b iha ihb =>
    intro m
    refine nodup_appK iha ihb fun p hp q hq => ?_
    have := leaks_num hp
    have := leaks_num hq
    omega
  | cons j t ih =>
    intro m
    refine nodup_appK lkJ_nd ih fun p hp q hq => ?_
    have := lkJ_num hp
    have := leaks_num hq
    omega
theorem Pn.ways_num {t : Pn} : ∀ {m : Nat} {w : List (Nat × Nq)}, w ∈ t.ways m → ∀ p ∈ w, m < p.1 ∧ p.1 ≤ m + t.cnt := by
  induction t with
  | noz f q =>
    intro m w h p hp
    rw [List.mem_singleton.mp h] at hp
    rw [List.mem_singleton.mp hp]
    show m < m + 1 ∧ m + 1 ≤ m + 1
    omega
  | fork a b iha ihb =>
    intro m w h p hp
    show _ ∧ _ ≤ m + (a.cnt + b.cnt)
    rcases List.mem_append.mp h with h | h
    · have := iha h p hp; omega
    · have := ihb h p hp; omega
  | cons j t ih =>
    intro m w h p hp
    obtain ⟨w', hw', rfl⟩ := List.mem_map.mp h
    show _ ∧ _ ≤ m + (t.cnt + 1)
    rcases List.mem_cons.mp hp with rfl | hp
    · show m < m + 1 ∧ m + 1 ≤ _; omega
    · have := ih hw' p hp; omega
structure WStK where
  fl : List Int
  D : List (Nat × Int)
  pt : Option Nq
  mr : Nat
def lastFq (w : List (Nat × Nq)) : Int := match w.getLast? with
  | some (_, .n f _) => f
  | _ => 0
def lastNq (w : List (Nat × Nq)) : Nat := match w.getLast? with
  | some (n, _) => n
  | none => 0
def hitsK (x : Nat) (w : List (Nat × Nq)) : List Nat := (List.range w.length).filter fun k => match w[k]? with
  | some p => p.1 == x
  | none => false
def mrOf (w : List (Nat × Nq)) : Nat → Nat
  | 0 => 0
  | i + 1 => match w[i]? with
    | some p => p.1
    | none => 0
def stepK (x : Nat) (st : WStK) (w : List (Nat × Nq)) : WStK := match hitsK x w with
  | [] => if x = 0 then ⟨st.fl ++ [lastFq w], putAll st.D (lkL w), st.pt, st.mr⟩ else st
  | i :: _ => ⟨st.fl ++ [lastFq w], putAll st.D (lkL (w.drop i)), (w[i]?).map (·.2), mrOf w i⟩
theorem stepK_hit {x : Nat} {st : WStK} {w : List (Nat × Nq)} {i : Nat} {r : List Nat} (h : hitsK x w = i :: r) : stepK x st w = ⟨st.fl ++ [lastFq w], putAll st.D (lkL (w.drop i)), (w[i]?).map (·.2), mrOf w i⟩ := by
  unfold stepK
  rw [h]
theorem hitsK_no {x : Nat} {w : List (Nat × Nq)} (h : ∀ p ∈ w, p.1 ≠ x) : hitsK x w = [] := by
  unfold hitsK
  rw [List.filter_eq_nil_iff]
  intro k hk
  rw [List.mem_range] at hk
  rw [List.getElem?_eq_getElem hk]
  simp only [beq_iff_eq]
  exact h _ (List.getElem_mem hk)
theorem hitsK_one {x : Nat} {nd : Nq} {a b : List (Nat × Nq)} (ha : ∀ p ∈ a, p.1 ≠ x) (hb : ∀ p ∈ b, p.1 ≠ x) : hitsK x (a ++ (x, nd) :: b) = [a.length] := by
  unfold hitsK
  have e : (a ++ (x, nd) :: b).length = a.length + (1 + b.length) := by rw [List.length_append, List.length_cons]; omega
  rw [e, List.range_add, List.filter_append, Nat.add_comm 1, List.range_succ_eq_map, List.map_cons, List.filter_cons]
  have e1 : (List.range a.length).filter (fun k => match (a ++ (x, nd) :: b)[k]? with | some p => p.1 == x | none => false) = [] := by
    rw [List.filter_eq_nil_iff]
    intro k hk
    rw [List.mem_range] at hk
    rw [List.getElem?_append_left hk, List.getElem?_eq_getElem hk]
    simp only [beq_iff_eq]
    exact ha _ (List.getElem_mem hk)
  rw [e1, Nat.add_zero, List.getElem?_append_right (Nat.le_refl _), Nat.sub_self]
  simp only [List.getElem?_cons_zero, beq_self_eq_true, if_true, List.nil_append, List.cons.injEq, true_and]
  rw [List.filter_eq_nil_iff]
  intro k hk
  rw [List.map_map, List.mem_map] at hk
  obtain ⟨i, hi, rfl⟩ := hk
  rw [List.mem_range] at hi
  show ¬ (match (a ++ (x, nd) :: b)[a.length + (i + 1)]? with | some p => p.1 == x | none => false) = true
  rw [List.getElem?_append_right (by omega), Nat.add_sub_cancel_left, List.getElem?_cons_succ, List.getElem?_eq_getElem hi]
  simp only [beq_iff_eq]
  exact hb _ (List.getElem_mem hi)
theorem stepK_no {x : Nat} {st : WStK} {w : List (Nat × Nq)} (h : ∀ p ∈ w, p.1 ≠ x) (h0 : x ≠ 0) : stepK x st w = st := by
  unfold stepK
  rw [hitsK_no h]
  simp only [if_neg h0]
theorem stepK_0 {st : WStK} {w : List (Nat × Nq)} (h : ∀ p ∈ w, p.1 ≠ 0) : stepK 0 st w = ⟨st.fl ++ [lastFq w], putAll st.D (lkL w), st.pt, st.mr⟩ := by
  unfold stepK
  rw [hitsK_no h]
  rfl
theorem stepK_one {x : Nat} {st : WStK} {nd : Nq} {a b : List (Nat × Nq)} (ha : ∀ p ∈ a, p.1 ≠ x) (hb : ∀ p ∈ b, p.1 ≠ x) :
    stepK x st (a ++ (x, nd) :: b) = ⟨st.fl ++ [lastFq (a ++ (x, nd) :: b)], putAll st.D (lkL ((x, nd) :: b)), some nd, lastNq a⟩ := by
  unfold stepK
  rw [hitsK_one ha hb]
  simp only
  rw [List.drop_left, List.getElem?_append_right (Nat.le_refl _), Nat.sub_self]
  congr 1
  unfold lastNq
  cases e : a.length with
  | zero => rw [List.length_eq_zero_iff.mp e]; rfl
  | succ i =>
    unfold mrOf
    simp only
    rw [List.getElem?_append_left (by omega), List.getLast?_eq_getElem?, e, Nat.add_sub_cancel]
    rw [List.getElem?_eq_getElem (by omega)]
theorem lastF_app {p w : List (Nat × Nq)} (h : w ≠ []) : lastFq (p ++ w) = lastFq w := by
  unfold lastFq
  rw [List.getLast?_append]
  cases e : w.getLast? with
  | none => exact absurd (List.getLast?_eq_none_iff.mp e) h
  | some p => rfl
theorem lkL_app {a b : List (Nat × Nq)} : lkL (a ++ b) = lkL a ++ lkL b := by unfold lkL; rw [List.flatMap_append]
theorem mem_putAll {D L : List (Nat × Int)} {p : Nat × Int} (h : ∀ q ∈ L, q.1 ≠ p.1) : p ∈ D → p ∈ putAll D L := by
  induction L generalizing D with
  | nil => exact id
  | cons q L ih =>
    intro hp
    show p ∈ putAll (putN D q.1 q.2) L
    refine ih (fun r hr => h r (List.mem_cons_of_mem _ hr)) ?_
    unfold putN
    split
    · exact List.mem_map.mpr ⟨p, hp, if_neg fun e => h q List.mem_cons_self e.symm⟩
    · exact List.mem_append_left _ hp
theorem putN_mem {D : List (Nat × Int)} {k : Nat} {v : Int} : (k, v) ∈ putN D k v := by
  unfold putN
  split
  · rename_i h
    obtain ⟨p, hp, e⟩ := List.any_eq_true.mp h
    have e := of_decide_eq_true e
    exact List.mem_map.mpr ⟨p, hp, by rw [if_pos e, e]⟩
  · exact List.mem_append_right _ List.mem_cons_self
theorem putN_nd {D : List (Nat × Int)} {k : Nat} {v : Int} (nd : (D.map (·.1)).Nodup) : ((putN D k v).map (·.1)).Nodup := by
  unfold putN
  split
  · rw [List.map_map]
    have : ((fun x : Nat × Int => x.1) ∘ fun p : Nat × Int => if p.1 = k then (p.1, v) else p) = (·.1) := by
      funext p
      show (if p.1 = k then (p.1, v) else p).1 = p.1
      split <;> rfl
    rw [this]
    exact nd
  · rename_i h
    refine nodup_appK nd (by simp) fun p hp q hq e => h ?_
    rw [List.mem_singleton.mp hq] at e
    exact List.any_eq_true.mpr ⟨p, hp, decide_eq_true e⟩
theorem putAll_nd {D L : List (Nat × Int)} (nd : (D.map (·.1)).Nodup) : ((putAll D L).map (·.1)).Nodup := by
  induction L generalizing D with
  | nil => exact nd
  | cons q L ih => exact ih (putN_nd nd)
theorem putAll_mem {D L : List (Nat × Int)} (nd : (L.map (·.1)).Nodup) {p : Nat × Int} (h : p ∈ L) : p ∈ putAll D L := by
  induction L generalizing D with
  | nil => cases h
  | cons q L ih =>
    rw [List.map_cons, List.nodup_cons] at nd
    show p ∈ putAll (putN D q.1 q.2) L
    rcases List.mem_cons.mp h with rfl | h
    · exact mem_putAll (fun r hr e => nd.1 (e ▸ List.mem_map_of_mem (f := (·.1)) hr)) putN_mem
    · exact ih nd.2 h
theorem fold_all {t : Pn} {x : Nat} {pt : Option Nq} {mr : Nat} {ok : WStK → Prop} (hok : ∀ fl D, ok ⟨fl, D, pt, mr⟩) : ∀ {m : Nat} {pre suf : List (Nat × Nq)} {st : WStK},
    (∀ st w, ok st → (∀ p ∈ w, m < p.1) → w ≠ [] → stepK x st (pre ++ w) = ⟨st.fl ++ [lastFq w], putAll st.D (lkL (suf ++ w)), pt, mr⟩) →
    ((lkL suf).map (·.1)).Nodup → (∀ p ∈ lkL suf, p.1 ≤ m) → ok st → (st.D.map (·.1)).Nodup →
    ((t.ways m).map (pre ++ ·)).foldl (stepK x) st = ⟨st.fl ++ t.flows, putAll (putAll st.D (lkL suf)) (t.leaks m), pt, mr⟩ := by
  induction t with
  | noz f q =>
    intro m pre suf st hs nd le ho hD
    show stepK x st (pre ++ [(m + 1, .n f q)]) = _
    rw [hs st _ ho (fun p hp => by rw [List.mem_singleton.mp hp]; exact Nat.lt_succ_self m) (List.cons_ne_nil _ _), lkL_app]
    show _ = (⟨st.fl ++ [f], putAll st.D (lkL suf), pt, mr⟩ : WStK)
    rw [show lkL [(m + 1, Nq.n f q)] = [] from rfl, List.append_nil]
    rfl
  | fork a b iha ihb =>
    intro m pre suf st hs nd le ho hD
    show ((a.ways m ++ b.ways (m + a.cnt)).map (pre ++ ·)).foldl (stepK x) st = _
    rw [List.map_append, List.foldl_append, iha hs nd le ho hD]
    rw [ihb (m := m + a.cnt) (pre := pre) (suf := suf) (st := ⟨st.fl ++ a.flows, putAll (putAll st.D (lkL suf)) (a.leaks m), pt, mr⟩) (fun st w h1 h2 h3 => hs st w h1 (fun p hp => by have := h2 p hp; omega) h3) nd (fun p hp => by have := le p hp; omega) (hok _ _) (putAll_nd (putAll_nd hD))]
    show WStK.mk ((st.fl ++ a.flows) ++ b.flows) (putAll (putAll (putAll (putAll st.D (lkL suf)) (a.leaks m)) (lkL suf)) (b.leaks (m + a.cnt))) pt mr = ⟨st.fl ++ (a.flows ++ b.flows), putAll (putAll st.D (lkL suf)) (a.leaks m ++ b.leaks (m + a.cnt)), pt, mr⟩
    rw [putAll_app, List.append_assoc, putAll_same (L := lkL suf) (putAll_nd (putAll_nd hD))]
    intro p hp
    refine mem_putAll (fun q hq => ?_) (putAll_mem nd hp)
    have := Pn.leaks_num hq
    have := le p hp
    omega
  | cons j t ih =>
    intro m pre suf st hs nd le ho hD
    show (((t.ways (m + 1)).map ((m + 1, .j j) :: ·)).map (pre ++ ·)).foldl (stepK x) st = _
    rw [List.map_map]
    have e : ((fun w : List (Nat × Nq) => pre ++ w) ∘ fun w => (m + 1, Nq.j j) :: w) = fun w => (pre ++ [(m + 1, Nq.j j)]) ++ w := by
      funext w
      show pre ++ (m + 1, Nq.j j) :: w = _
      rw [List.append_assoc]; rfl
    rw [e]
    have ls : lkL (suf ++ [(m + 1, Nq.j j)]) = lkL suf ++ lkJ (m + 1) j := by
      rw [lkL_app]
      congr 1
      show lkJ (m + 1) j ++ [] = _
      rw [List.append_nil]
    have := ih (m := m + 1) (pre := pre ++ [(m + 1, Nq.j j)]) (suf := suf ++ [(m + 1, Nq.j j)]) (st := st) (fun st w h1 h2 h3 => by
      have := hs st ((m + 1, Nq.j j) :: w) h1 (fun p hp => by
        rcases List.mem_cons.mp hp with rfl | hp
        · exact Nat.lt_succ_self m
        · have := h2 p hp; omega) (List.cons_ne_nil _ _)
      rw [List.append_assoc, List.append_assoc]
      show stepK x st (pre ++ (m + 1, Nq.j j) :: w) = _
      rw [this]
      have e2 : lastFq ((m + 1, Nq.j j) :: w) = lastFq w := lastF_app (p := [(m + 1, Nq.j j)]) h3
      rw [e2]
      rfl) (by
        rw [ls]
        refine nodup_appK nd lkJ_nd fun p hp q hq => ?_
        have := le p hp
        have := lkJ_num hq
        omega) (fun p hp => by
        rw [ls] at hp
        rcases List.mem_append.mp hp with hp | hp
        · have := le p hp; omega
        · have := lkJ_num hp; omega) ho hD
    rw [this, ls, putAll_app]
    show _ = (⟨st.fl ++ t.flows, putAll (putAll st.D (lkL suf)) (lkJ (m + 1) j ++ t.leaks (m + 1)), pt, mr⟩ : WStK)
    rw [putAll_app]
theorem fold_no {x : Nat} (h0 : x ≠ 0) : ∀ {ws : List (List (Nat × Nq))} {st : WStK}, (∀ w ∈ ws, ∀ p ∈ w, p.1 ≠ x) → ws.foldl (stepK x) st = st := by
  intro ws
  induction ws with
  | nil => intro st _; rfl
  | cons w ws ih =>
    intro st h
    rw [List.foldl_cons, stepK_no (h w List.mem_cons_self) h0]
    exact ih fun w' hw' => h w' (List.mem_cons_of_mem _ hw')
theorem fold_at {t : Pn} {x : Nat} : ∀ {m : Nat} {pre : List (Nat × Nq)} {i : Nat} {e : EntK} {st : WStK}, (∀ p ∈ pre, p.1 ≤ m) → x = m + 1 + i → (t.ents m (lastNq pre))[i]? = some e → (st.D.map (·.1)).Nodup →
    ((t.ways m).map (pre ++ ·)).foldl (stepK x) st = ⟨st.fl ++ e.2.2.1, putAll st.D e.2.2.2, some e.1, e.2.1⟩ := by
  induction t with
  | noz f q =>
    intro m pre i e st hp hx he hD
    have hi := (List.getElem?_eq_some_iff.mp he).1
    rw [Pn.ents_len] at hi
    have : i = 0 := by have : i < 1 := hi; omega
    subst this
    subst hx
    cases he
    show stepK (m + 1) st (pre ++ (m + 1, .n f q) :: []) = _
    rw [stepK_one (fun p h => by have := hp p h; omega) (fun p h => (List.not_mem_nil h).elim), lastF_app (List.cons_ne_nil _ _)]
    rfl
  | fork a b iha ihb =>
    intro m pre i e st hp hx he hD
    show ((a.ways m ++ b.ways (m + a.cnt)).map (pre ++ ·)).foldl (stepK x) st = _
    rw [List.map_append, List.foldl_append]
    replace he : (a.ents m (lastNq pre) ++ b.ents (m + a.cnt) (lastNq pre))[i]? = some e := he
    by_cases lt : i < a.cnt
    · rw [List.getElem?_append_left (by rw [Pn.ents_len]; exact lt)] at he
      rw [iha hp hx he hD]
      refine fold_no (by omega) fun w hw p hq => ?_
      obtain ⟨w', hw', rfl⟩ := List.mem_map.mp hw
      rcases List.mem_append.mp hq with h | h
      · have := hp p h; omega
      · have := Pn.ways_num hw' p h; omega
    · rw [List.getElem?_append_right (by rw [Pn.ents_len]; omega), Pn.ents_len] at he
      rw [fold_no (ws := (a.ways m).map (pre ++ ·)) (by omega) fun w hw p hq => ?_]
      · exact ihb (m := m + a.cnt) (i := i - a.cnt) (fun p h => by have := hp p h; omega) (by omega) he hD
      · obtain ⟨w', hw', rfl⟩ := List.mem_map.mp hw
        rcases List.mem_append.mp hq with h | h
        · have := hp p h; omega
        · have := Pn.ways_num hw' p h; omega
  | cons j t ih =>
    intro m pre i e st hp hx he hD
    show (((t.ways (m + 1)).map ((m + 1, .j j) :: ·)).map (pre ++ ·)).foldl (stepK x) st = _
    rw [List.map_map]
    have ec : ((fun w : List (Nat × Nq) => pre ++ w) ∘ fun w => (m + 1, Nq.j j) :: w) = fun w => (pre ++ [(m + 1, Nq.j j)]) ++ w := by
      funext w
      show pre ++ (m + 1, Nq.j j) :: w = _
      rw [List.append_assoc]; rfl
    rw [ec]
    cases i with
    | zero =>
      subst hx
      cases he
      have lj : lkL [(m + 1, Nq.j j)] = lkJ (m + 1) j := by show lkJ (m + 1) j ++ [] = _; rw [List.append_nil]
      have := fold_all (t := t) (x := m + 1) (pt := some (.j j)) (mr := lastNq pre) (ok := fun _ => True) (fun _ _ => trivial) (m := m + 1) (pre := pre ++ [(m + 1, Nq.j j)]) (suf := [(m + 1, Nq.j j)]) (st := st)
        (fun st w _ h2 h3 => by
          rw [List.append_assoc]
          show stepK (m + 1) st (pre ++ (m + 1, Nq.j j) :: w) = _
          rw [stepK_one (fun p h => by have := hp p h; omega) (fun p h => by have := h2 p h; omega)]
          have e2 : lastFq (pre ++ (m + 1, Nq.j j) :: w) = lastFq w := by
            rw [lastF_app (List.cons_ne_nil _ _)]
            exact lastF_app (p := [(m + 1, Nq.j j)]) h3
          rw [e2]
          rfl) (by rw [lj]; exact lkJ_nd) (fun p h => by rw [lj] at h; rw [lkJ_num h]; exact Nat.le_refl _) trivial hD
      rw [show m + 1 + 0 = m + 1 from rfl, this, lj, ← putAll_app]
    | succ i =>
      have lp : lastNq (pre ++ [(m + 1, Nq.j j)]) = m + 1 := by unfold lastNq; rw [List.getLast?_concat]
      refine ih (m := m + 1) (i := i) (pre := pre ++ [(m + 1, Nq.j j)]) (fun p h => ?_) (by omega) (by rw [lp]; exact he) hD
      rcases List.mem_append.mp h with h | h
      · have := hp p h; omega
      · rw [List.mem_singleton.mp h]; exact Nat.le_refl _
theorem fold_zero {t : Pn} : (t.ways 0).foldl (stepK 0) ⟨[], [], none, 0⟩ = ⟨t.flows, t.leaks 0, none, 0⟩ := by
  have := fold_all (t := t) (x := 0) (pt := none) (mr := 0) (ok := fun st => st.pt = none ∧ st.mr = 0) (fun _ _ => ⟨rfl, rfl⟩) (m := 0) (pre := []) (suf := []) (st := ⟨[], [], none, 0⟩)
    (fun st w h1 h2 h3 => by
      rw [List.nil_append, stepK_0 (fun p h => by have := h2 p h; omega), h1.1, h1.2]) List.nodup_nil (fun p h => (List.not_mem_nil h).elim) ⟨rfl, rfl⟩ List.nodup_nil
  have e : (t.ways 0).map (([] : List (Nat × Nq)) ++ ·) = t.ways 0 := List.map_id' _
  rw [e] at this
  rw [this]
  show WStK.mk _ (putAll [] (t.leaks 0)) _ _ = _
  rw [putAll_new Pn.leaks_nd (fun p h => (List.not_mem_nil h).elim)]
  rfl
theorem Pn.ents_nd {t : Pn} : ∀ {m mar : Nat} {e : EntK}, e ∈ t.ents m mar → (e.2.2.2.map (·.1)).Nodup := by
  induction t with
  | noz f q => intro m mar e h; rw [List.mem_singleton.mp h]; exact List.nodup_nil
  | fork a b iha ihb =>
    intro m mar e h
    rcases List.mem_append.mp h with h | h
    · exact iha h
    · exact ihb h
  | cons j t ih =>
    intro m mar e h
    rcases List.mem_cons.mp h with rfl | h
    · refine nodup_appK lkJ_nd leaks_nd fun p hp q hq => ?_
      have := lkJ_num hp
      have := leaks_num hq
      omega
    · exact ih h
theorem fold_at0 {t : Pn} {i : Nat} {e : EntK} (h : (t.ents 0 0)[i]? = some e) : (t.ways 0).foldl (stepK (i + 1)) ⟨[], [], none, 0⟩ = ⟨e.2.2.1, e.2.2.2, some e.1, e.2.1⟩ := by
  have := fold_at (t := t) (x := i + 1) (m := 0) (pre := []) (i := i) (e := e) (st := ⟨[], [], none, 0⟩) (fun p h => (List.not_mem_nil h).elim) (by omega) h List.nodup_nil
  have e1 : (t.ways 0).map (([] : List (Nat × Nq)) ++ ·) = t.ways 0 := List.map_id' _
  rw [e1] at this
  rw [this]
  show WStK.mk _ (putAll [] e.2.2.2) _ _ = _
  rw [putAll_new (Pn.ents_nd (List.mem_of_getElem? h)) (fun p h => (List.not_mem_nil h).elim)]
  rfl
def flowE (sh : Int) (e : EntK) : Int := (e.2.2.2.map (·.2)).sum + (e.2.2.1.map fun f => f * sh / 100).sum
def walkE (sh : Int) : List EntK → List Int → Nat → Except (Nat × Nat) (List Int)
  | [], found, _ => .ok found
  | e :: es, found, n => match e.1 with
    | .j j => match j.why (j.beh (found.getD e.2.1 0) (flowE sh e)) (flowE sh e) with
      | some y => .error (n, y)
      | none => walkE sh es (found ++ [j.beh (found.getD e.2.1 0) (flowE sh e)]) (n + 1)
    | .n _ q => if found.getD e.2.1 0 < q then .error (n, 2) else walkE sh es (found ++ [found.getD e.2.1 0]) (n + 1)
theorem lkJ_sum {m : Nat} {j : Jn} : ((lkJ m j).map (·.2)).sum = j.tk := by
  cases j <;> simp [lkJ, Jn.tk]
theorem Pn.flow_eq {sh : Int} {t : Pn} : ∀ {m : Nat}, ((t.leaks m).map (·.2)).sum + (t.flows.map fun f => f * sh / 100).sum = t.tak sh := by
  induction t with
  | noz f q => intro m; simp [Pn.leaks, Pn.flows, Pn.tak]
  | fork a b iha ihb =>
    intro m
    have h1 := iha (m := m)
    have h2 := ihb (m := m + a.cnt)
    show ((a.leaks m ++ b.leaks (m + a.cnt)).map (·.2)).sum + ((a.flows ++ b.flows).map fun f => f * sh / 100).sum = a.tak sh + b.tak sh
    rw [List.map_append, List.map_append, List.sum_append, List.sum_append]
    omega
  | cons j t ih =>
    intro m
    have h1 := ih (m := m + 1)
    show ((lkJ (m + 1) j ++ t.leaks (m + 1)).map (·.2)).sum + (t.flows.map fun f => f * sh / 100).sum = j.tk + t.tak sh
    rw [List.map_append, List.sum_append, lkJ_sum]
    omega
theorem Pn.walk_fork {sh : Int} {a b : Pn} {p : Int} {pa : Nat} : (Pn.fork a b).walk sh p pa = match a.walk sh p pa with
    | .error e => .error e
    | .ok xs => match b.walk sh p (pa + xs.length) with
      | .error e => .error e
      | .ok ys => .ok (xs ++ ys) := rfl
theorem Pn.walkE_eq {sh : Int} {t : Pn} : ∀ {m mar : Nat} {p : Int} {found : List Int} {rest : List EntK}, found.length = m + 1 → found[mar]? = some p →
    walkE sh (t.ents m mar ++ rest) found (m + 1) = match t.walk sh p m with
      | .error e => .error e
      | .ok xs => walkE sh rest (found ++ xs) (m + t.cnt + 1) := by
  induction t with
  | noz f q =>
    intro m mar p found rest hl hp
    have e : found.getD mar 0 = p := by rw [List.getD_eq_getElem?_getD, hp]; rfl
    show (if found.getD mar 0 < q then Except.error (m + 1, 2) else walkE sh rest (found ++ [found.getD mar 0]) (m + 1 + 1)) = _
    rw [e]
    unfold Pn.walk
    by_cases c : p < q
    · rw [if_pos c, if_pos c]
    · rw [if_neg c, if_neg c]
      rfl
  | cons j t ih =>
    intro m mar p found rest hl hp
    have e : found.getD mar 0 = p := by rw [List.getD_eq_getElem?_getD, hp]; rfl
    have ef : flowE sh (.j j, mar, t.flows, lkJ (m + 1) j ++ t.leaks (m + 1)) = j.tk + t.tak sh := by
      have := Pn.flow_eq (sh := sh) (t := t) (m := m + 1)
      unfold flowE
      show ((lkJ (m + 1) j ++ t.leaks (m + 1)).map (·.2)).sum + (t.flows.map fun f => f * sh / 100).sum = _
      rw [List.map_append, List.sum_append, lkJ_sum]
      omega
    show (match j.why (j.beh (found.getD mar 0) (flowE sh (.j j, mar, t.flows, lkJ (m + 1) j ++ t.leaks (m + 1)))) (flowE sh (.j j, mar, t.flows, lkJ (m + 1) j ++ t.leaks (m + 1))) with
      | some y => Except.error (m + 1, y)
      | none => walkE sh (t.ents (m + 1) (m + 1) ++ rest) (found ++ [j.beh (found.getD mar 0) (flowE sh (.j j, mar, t.flows, lkJ (m + 1) j ++ t.leaks (m + 1)))]) (m + 1 + 1)) = _
    rw [ef, e]
    unfold Pn.walk
    cases hw : j.why (j.beh p (j.tk + t.tak sh)) (j.tk + t.tak sh) with
    | some y => rfl
    | none =>
      simp only
      rw [ih (m := m + 1) (mar := m + 1) (p := j.beh p (j.tk + t.tak sh)) (by rw [List.length_append, hl]; rfl) (by rw [List.getElem?_append_right (by omega), hl, Nat.sub_self]; rfl)]
      cases t.walk sh (j.beh p (j.tk + t.tak sh)) (m + 1) with
      | error e => rfl
      | ok xs =>
        simp only
        rw [List.append_assoc]
        show walkE sh rest (found ++ (_ :: xs)) (m + 1 + t.cnt + 1) = walkE sh rest (found ++ (_ :: xs)) (m + (t.cnt + 1) + 1)
        rw [show m + 1 + t.cnt + 1 = m + (t.cnt + 1) + 1 from by omega]
  | fork a b iha ihb =>
    intro m mar p found rest hl hp
    show walkE sh ((a.ents m mar ++ b.ents (m + a.cnt) mar) ++ rest) found (m + 1) = _
    rw [List.append_assoc, iha hl hp, Pn.walk_fork]
    cases ha : a.walk sh p m with
    | error e => rfl
    | ok xs =>
      simp only
      have lx := Pn.walk_len ha
      rw [ihb (m := m + a.cnt) (mar := mar) (p := p) (found := found ++ xs) (rest := rest) (by rw [List.length_append, hl, lx]; omega) (by rw [List.getElem?_append_left (List.getElem?_eq_some_iff.mp hp).1]; exact hp), lx]
      cases b.walk sh p (m + a.cnt) with
      | error e => rfl
      | ok ys =>
        simp only
        rw [List.append_assoc, Nat.add_assoc m a.cnt b.cnt]
        rfl
theorem Pn.walkE_all {sh : Int} {t : Pn} {p : Int} : walkE sh (t.ents 0 0) [p] 1 = match t.walk sh p 0 with
      | .error e => .error e
      | .ok xs => .ok (p :: xs) := by
  have := Pn.walkE_eq (sh := sh) (t := t) (m := 0) (mar := 0) (p := p) (found := [p]) (rest := []) rfl rfl
  rw [List.append_nil] at this
  rw [this]
  cases t.walk sh p 0 <;> rfl
def Pt.pn : Pt → Pn
  | .noz js f p => js.foldr Pn.cons (.noz f p)
  | .fork js a b => js.foldr Pn.cons (.fork a.pn b.pn)
def Pt.nqs : Pt → List Nq
  | .noz js f p => js.map Nq.j ++ [.n f p]
  | .fork js a b => js.map Nq.j ++ (a.nqs ++ b.nqs)
def Nq.w : Nq → W
  | .j x => x.w
  | .n f p => nozW f p
def Nq.ok : Nq → Prop
  | .j x => x.ok
  | .n f p => (0 ≤ f ∧ f ≤ 2000) ∧ (0 ≤ p ∧ p ≤ 100)
def Nq.tk (sh : Int) : Nq → Int
  | .j x => x.tk
  | .n f _ => f * sh / 100
def Nq.beh (p fl : Int) : Nq → Int
  | .j x => x.beh p fl
  | .n _ _ => p
def Nq.why (p fl : Int) : Nq → Option Nat
  | .j x => x.why p fl
  | .n _ q => if p < q then some 2 else none
def whyS : Nat → Str
  | 0 => "dry"
  | 1 => "flow"
  | _ => "weak"
def whyW : Option Nat → W
  | none => .non
  | some y => .str (whyS y)
theorem foldr_ok {js : List Jn} {t : Pn} (hj : ∀ j ∈ js, j.ok) (ht : t.ok) : (js.foldr Pn.cons t).ok := by
  induction js with
  | nil => exact ht
  | cons j js ih => exact ⟨hj j List.mem_cons_self, ih fun x hx => hj x (List.mem_cons_of_mem _ hx)⟩
theorem foldr_cnt {js : List Jn} {t : Pn} : (js.foldr Pn.cons t).cnt = js.length + t.cnt := by
  induction js with
  | nil => exact (Nat.zero_add _).symm
  | cons j js ih => show (js.foldr Pn.cons t).cnt + 1 = _; rw [ih, List.length_cons]; omega
theorem foldr_tak {js : List Jn} {t : Pn} {sh : Int} : (js.foldr Pn.cons t).tak sh = ((js.map Nq.j).map (Nq.tk sh)).sum + t.tak sh := by
  induction js with
  | nil => show t.tak sh = 0 + _; omega
  | cons j js ih =>
    show j.tk + (js.foldr Pn.cons t).tak sh = _
    rw [ih, List.map_cons, List.map_cons, List.sum_cons]
    show _ = j.tk + _ + _
    omega
theorem Pt.pn_ok {t : Pt} : ∀ {d : Nat}, t.ok d → t.pn.ok := by
  induction t with
  | noz js f p => exact fun h => foldr_ok h.2.1 h.2.2
  | fork js a b iha ihb => exact fun h => foldr_ok h.2.2.1 ⟨iha h.2.2.2.1, ihb h.2.2.2.2⟩
theorem Pt.pn_cnt {t : Pt} : t.pn.cnt = t.joins.length := by
  induction t with
  | noz js f p =>
    show (js.foldr Pn.cons (.noz f p)).cnt = (js.map Jn.w ++ [nozW f p]).length
    rw [foldr_cnt, List.length_append, List.length_map]; rfl
  | fork js a b iha ihb =>
    show (js.foldr Pn.cons (.fork a.pn b.pn)).cnt = (js.map Jn.w ++ (a.joins ++ b.joins)).length
    rw [foldr_cnt, List.length_append, List.length_map, List.length_append, ← iha, ← ihb]; rfl
theorem Pt.nqs_w {t : Pt} : t.joins = t.nqs.map Nq.w := by
  induction t with
  | noz js f p =>
    show js.map Jn.w ++ [nozW f p] = (js.map Nq.j ++ [Nq.n f p]).map Nq.w
    rw [List.map_append, List.map_map]; rfl
  | fork js a b iha ihb =>
    show js.map Jn.w ++ (a.joins ++ b.joins) = (js.map Nq.j ++ (a.nqs ++ b.nqs)).map Nq.w
    rw [List.map_append, List.map_map, List.map_append, ← iha, ← ihb]; rfl
theorem Pt.nqs_ok {t : Pt} : ∀ {d : Nat}, t.ok d → ∀ q ∈ t.nqs, q.ok := by
  induction t with
  | noz js f p =>
    intro d h q hq
    rcases List.mem_append.mp hq with hq | hq
    · obtain ⟨j, hj, rfl⟩ := List.mem_map.mp hq
      exact h.2.1 j hj
    · rw [List.mem_singleton.mp hq]; exact h.2.2
  | fork js a b iha ihb =>
    intro d h q hq
    rcases List.mem_append.mp hq with hq | hq
    · obtain ⟨j, hj, rfl⟩ := List.mem_map.mp hq
      exact h.2.2.1 j hj
    · rcases List.mem_append.mp hq with hq | hq
      · exact iha h.2.2.2.1 q hq
      · exact ihb h.2.2.2.2 q hq
theorem Pt.nqs_tak {t : Pt} {sh : Int} : (t.nqs.map (Nq.tk sh)).sum = t.pn.tak sh := by
  induction t with
  | noz js f p =>
    show ((js.map Nq.j ++ [Nq.n f p]).map (Nq.tk sh)).sum = (js.foldr Pn.cons (.noz f p)).tak sh
    rw [foldr_tak, List.map_append, List.sum_append]
    show _ + (f * sh / 100 + 0) = _ + f * sh / 100
    omega
  | fork js a b iha ihb =>
    show ((js.map Nq.j ++ (a.nqs ++ b.nqs)).map (Nq.tk sh)).sum = (js.foldr Pn.cons (.fork a.pn b.pn)).tak sh
    rw [foldr_tak, List.map_append, List.sum_append, List.map_append, List.sum_append, iha, ihb]
    rfl
theorem Nq.tk_b {q : Nq} (h : q.ok) {sh : Int} (hs : 0 ≤ sh ∧ sh ≤ 100) : 0 ≤ q.tk sh ∧ q.tk sh ≤ 2000 := by
  cases q with
  | j x =>
    cases x with
    | leak l => exact ⟨h.1, Int.le_trans h.2 (by decide)⟩
    | _ => exact ⟨Int.le_refl _, show (0 : Int) ≤ 2000 by decide⟩
  | n f p =>
    have h1 : 0 ≤ f * sh := Int.mul_nonneg h.1.1 hs.1
    have h2 : f * sh ≤ 2000 * 100 := Int.mul_le_mul h.1.2 hs.2 hs.1 (by decide)
    show 0 ≤ f * sh / 100 ∧ f * sh / 100 ≤ 2000
    omega
theorem sum_b {qs : List Nq} (h : ∀ q ∈ qs, q.ok) {sh : Int} (hs : 0 ≤ sh ∧ sh ≤ 100) : 0 ≤ (qs.map (Nq.tk sh)).sum ∧ (qs.map (Nq.tk sh)).sum ≤ 2000 * qs.length := by
  induction qs with
  | nil => exact ⟨Int.le_refl _, Int.le_refl _⟩
  | cons q qs ih =>
    have h1 := Nq.tk_b (h q List.mem_cons_self) hs
    have h2 := ih fun x hx => h x (List.mem_cons_of_mem _ hx)
    rw [List.map_cons, List.sum_cons, List.length_cons]
    omega
theorem Pt.tak_b {t : Pt} (ht : t.ok 3) {sh : Int} (hs : 0 ≤ sh ∧ sh ≤ 100) : 0 ≤ t.pn.tak sh ∧ t.pn.tak sh ≤ 400000 := by
  have h1 := sum_b (Pt.nqs_ok ht) hs
  have h2 := Pt.joins_len ht
  rw [Pt.nqs_w, List.length_map] at h2
  rw [Pt.nqs_tak] at h1
  omega
def Pt.drp : Pt → Nat → Pt
  | .noz js f p, i => .noz (js.drop i) f p
  | .fork js a b, i => .fork (js.drop i) a b
def Pt.js : Pt → List Jn
  | .noz js _ _ => js
  | .fork js _ _ => js
theorem Pt.drp_ok {t : Pt} {d i : Nat} (h : t.ok d) : (t.drp i).ok d := by
  cases t with
  | noz js f p => exact ⟨by rw [List.length_drop]; have := h.1; omega, fun j hj => h.2.1 j (List.mem_of_mem_drop hj), h.2.2⟩
  | fork js a b => exact ⟨h.1, by rw [List.length_drop]; have := h.2.1; omega, fun j hj => h.2.2.1 j (List.mem_of_mem_drop hj), h.2.2.2⟩
theorem Pt.drp_ws {t : Pt} {i : Nat} (h : i ≤ t.js.length) : (t.drp i).ws = t.ws.drop i := by
  cases t with
  | noz js f p => show (js.drop i).map Jn.w ++ _ = (js.map Jn.w ++ _).drop i; rw [List.drop_append_of_le_length (by rw [List.length_map]; exact h), List.map_drop]
  | fork js a b => show (js.drop i).map Jn.w ++ _ = (js.map Jn.w ++ _).drop i; rw [List.drop_append_of_le_length (by rw [List.length_map]; exact h), List.map_drop]
theorem Pt.drp_0 {t : Pt} : t.drp 0 = t := by cases t <;> rfl
theorem Pt.drp_cons {t : Pt} {i : Nat} (h : i < t.js.length) : (t.drp i).pn = .cons (t.js[i]) (t.drp (i + 1)).pn := by
  cases t with
  | noz js f p =>
    have h' : i < js.length := h
    show (js.drop i).foldr Pn.cons (.noz f p) = .cons (js[i]'h') ((js.drop (i + 1)).foldr Pn.cons (.noz f p))
    rw [List.drop_eq_getElem_cons h']; rfl
  | fork js a b =>
    have h' : i < js.length := h
    show (js.drop i).foldr Pn.cons (.fork a.pn b.pn) = .cons (js[i]'h') ((js.drop (i + 1)).foldr Pn.cons (.fork a.pn b.pn))
    rw [List.drop_eq_getElem_cons h']; rfl
theorem Pt.at_k {d : Nat} {t : Pt} (h : t.ok d) {i : Nat} {w : W} (hw : t.ws[i]? = some w) : (∃ h1 : i < t.js.length, w = t.js[i].w ∧ t.js[i].ok) ∨ (i = t.js.length ∧ ((∃ f p : Int, w = nozW f p ∧ (0 ≤ f ∧ f ≤ 2000) ∧ (0 ≤ p ∧ p ≤ 100) ∧ (t.drp i).pn = .noz f p ∧ t.joins.length = t.js.length + 1) ∨
    ∃ a b : Pt, 0 < d ∧ w = forkW a.ws b.ws ∧ a.ok (d - 1) ∧ b.ok (d - 1) ∧ (t.drp i).pn = .fork a.pn b.pn ∧ t.joins.length = t.js.length + (a.joins.length + b.joins.length))) := by
  have hi := (List.getElem?_eq_some_iff.mp hw).1
  cases t with
  | noz js f p =>
    replace hw : (js.map Jn.w ++ [nozW f p])[i]? = some w := hw
    replace hi : i < (js.map Jn.w ++ [nozW f p]).length := hi
    rw [List.length_append, List.length_map] at hi
    simp only [List.length_cons, List.length_nil] at hi
    by_cases lt : i < js.length
    · rw [List.getElem?_append_left (by rw [List.length_map]; exact lt), List.getElem?_map, List.getElem?_eq_getElem lt] at hw
      cases hw
      exact .inl ⟨lt, rfl, h.2.1 _ (List.getElem_mem lt)⟩
    · have ei : i = js.length := by omega
      subst ei
      rw [List.getElem?_append_right (by rw [List.length_map]; exact Nat.le_refl _), List.length_map, Nat.sub_self] at hw
      cases hw
      refine .inr ⟨rfl, .inl ⟨f, p, rfl, h.2.2.1, h.2.2.2, ?_, ?_⟩⟩
      · show (js.drop js.length).foldr Pn.cons (.noz f p) = _
        rw [List.drop_length]; rfl
      · show (js.map Jn.w ++ [nozW f p]).length = js.length + 1
        rw [List.length_append, List.length_map]; rfl
  | fork js a b =>
    replace hw : (js.map Jn.w ++ [forkW a.ws b.ws])[i]? = some w := hw
    replace hi : i < (js.map Jn.w ++ [forkW a.ws b.ws]).length := hi
    rw [List.length_append, List.length_map] at hi
    simp only [List.length_cons, List.length_nil] at hi
    by_cases lt : i < js.length
    · rw [List.getElem?_append_left (by rw [List.length_map]; exact lt), List.getElem?_map, List.getElem?_eq_getElem lt] at hw
      cases hw
      exact .inl ⟨lt, rfl, h.2.2.1 _ (List.getElem_mem lt)⟩
    · have ei : i = js.length := by omega
      subst ei
      rw [List.getElem?_append_right (by rw [List.length_map]; exact Nat.le_refl _), List.length_map, Nat.sub_self] at hw
      cases hw
      refine .inr ⟨rfl, .inr ⟨a, b, h.1, rfl, h.2.2.2.1, h.2.2.2.2, ?_, ?_⟩⟩
      · show (js.drop js.length).foldr Pn.cons (.fork a.pn b.pn) = _
        rw [List.drop_length]; rfl
      · show (js.map Jn.w ++ (a.joins ++ b.joins)).length = js.length + _
        rw [List.length_append, List.length_map, List.length_append]
abbrev s_taken : Stmt := topS 46
abbrev N_taken : List Str := ["parts", "share", "litres", "join"]
theorem sc_taken : FnScope N_taken ["parts", "share"] (defScope s_taken) := ⟨rfl, rfl, rfl, by decide +kernel, rfl, by decide +kernel, by decide +kernel⟩
theorem st_taken {x0 x1 : W} : ζg N_taken [x0, x1] = [some x0, some x1, none, none] := rfl
def td_taken : DS' :=
    (ζU (ζY 2 (dC (.int 0)))
    (ζU (dFor (ζA (ζu (sp_joins_of 4) (ζl (ζB 0) ζO))) (.nm 3)
      (ζW (ζi (dOp dEq (dOp dIx (ζB 3) (dC (.int 0))) (dC (.str "nozzle")))) (dAugI 2 (dOp ζE (dOp ζD (dOp dIx (ζB 3) (dC (.int 1))) (ζB 1)) (dC w_WHOLE_SHARE))) (ζW (ζi (dOp dEq (dOp dIx (ζB 3) (dC (.int 0))) (dC (.str "leak")))) (dAugI 2 (dOp dIx (ζB 3) (dC (.int 1)))) ζp)))
    (ζV (ζB 2))))
def sp_taken : DSp := fun ws S Q _ => ∃ (t : Pt) (sh : Int), ws = [.tup t.ws, .int sh] ∧ t.ok 3 ∧ (0 ≤ sh ∧ sh ≤ 100) ∧ Q (.int (t.pn.tak sh)) S
theorem len_taken {ws S Q E} (h : sp_taken ws S Q E) : ws.length = 2 := by obtain ⟨_, _, rfl, _⟩ := h; rfl
theorem hd_taken (ws S Q E) (h : sp_taken ws S Q E) : td_taken { nx := fun _ S' => frzQ Q .non S', rt := frzQ Q } ⟨ζg N_taken ws, XF⟩ S := by
  obtain ⟨t, sh, rfl, ht, hsh, q⟩ := h
  have jl := Pt.joins_len ht
  have jok := Pt.nqs_ok ht
  rw [← Pt.nqs_tak] at q
  simp only [st_taken, td_taken]
  refine seq_go (set_go (.int 0) S (fun Q hq => by (array_get_dec); exact hq) ?_)
  (((try unfold ζp); dsimp only; refine seq_go ?_))
  refine forS (w := .lst t.joins) (xs := t.joins) (fun Q' h => by (array_get_dec); exact ⟨t, rfl, ht, by decide, h⟩) rfl (fun i ω' S' => ∃ (y3 : Option W), ω' = ⟨[some (.tup t.ws), some (.int sh), some (.int (((t.nqs.take i).map (Nq.tk sh)).sum)), y3], XF⟩ ∧ S' = S) ⟨_, rfl, rfl⟩ (fun _ _ _ _ => rfl) ?_ ?_
  · rintro i w ω' S' hw ⟨y3, rfl, rfl⟩
    refine ⟨_, rfl, ?_⟩
    rw [Pt.nqs_w, List.getElem?_map] at hw
    cases hq : t.nqs[i]? with
    | none => rw [hq] at hw; cases hw
    | some nq =>
    rw [hq] at hw
    cases hw
    have es : ((t.nqs.take (i + 1)).map (Nq.tk sh)).sum = ((t.nqs.take i).map (Nq.tk sh)).sum + nq.tk sh := by
      rw [List.take_succ, hq, List.map_append, List.sum_append]
      show _ + (nq.tk sh + 0) = _
      omega
    rw [es]
    have nok := jok nq (List.mem_of_getElem? hq)
    generalize ((t.nqs.take i).map (Nq.tk sh)).sum = n
    cases nq with
    | j j =>
      have no : ∀ Q : Bool → Sto → Prop, Q false S' → ζi (dOp dEq (dOp dIx (ζB 3) (dC (.int 0))) (dC (.str "nozzle"))) ⟨[some (.tup t.ws), some (.int sh), some (.int n), some j.w], XF⟩ S' Q := fun Q h9 => by
        cases j <;> (simp only [Jn.w]; (array_get_dec); exact ⟨rfl, rfl, h9⟩)
      refine if_b false no (fun e => (nomatch e)) (fun _ => ?_)
      cases j with
      | hose a b =>
        refine if_b false (fun Q hq => by simp only [Nq.w, Jn.w]; (array_get_dec); exact ⟨rfl, rfl, hq⟩) (fun e => (nomatch e)) (fun _ => ?_)
        (((try unfold ζp); dsimp only))
        exact ⟨_, by rw [show n + Nq.tk sh (.j (.hose a b)) = n by simp [Nq.tk, Jn.tk]]; rfl, rfl⟩
      | pump a b =>
        refine if_b false (fun Q hq => by simp only [Nq.w, Jn.w]; (array_get_dec); exact ⟨rfl, rfl, hq⟩) (fun e => (nomatch e)) (fun _ => ?_)
        (((try unfold ζp); dsimp only))
        exact ⟨_, by rw [show n + Nq.tk sh (.j (.pump a b)) = n by simp [Nq.tk, Jn.tk]]; rfl, rfl⟩
      | leak a =>
        refine if_b true (fun Q hq => by simp only [Nq.w, Jn.w]; (array_get_dec); exact ⟨rfl, rfl, hq⟩) (fun _ => ?_) (fun e => (nomatch e))
        (((try unfold ζp); dsimp only))
        simp only [dAugI, Nq.w, Jn.w]
        refine ⟨n, rfl, ?_⟩
        (array_get_dec)
        exact ⟨a, rfl, _, rfl, trivial⟩
    | n f p =>
      obtain ⟨hf, hp⟩ := nok
      refine if_b true (fun Q hq => by simp only [Nq.w, nozW]; (array_get_dec); exact ⟨rfl, rfl, hq⟩) (fun _ => ?_) (fun e => (nomatch e))
      (((try unfold ζp); dsimp only))
      simp only [dAugI, Nq.w, nozW]
      refine ⟨n, rfl, ?_⟩
      (array_get_dec)
      exact ⟨.inl ⟨by omega, by omega⟩, ⟨by decide, by decide⟩, f * sh / 100, rfl, _, rfl, trivial⟩
  · rintro ω' S' ⟨y3, rfl, rfl⟩
    rw [Pt.nqs_w, List.length_map, List.take_length]
    (((try unfold ζp); dsimp only))
    exact ret_go (var_go rfl (frzQ.mk q))
section
variable {P : Program} {w : World} {K : PySem.W.Frag} {mg : Str → Option Value} {base : Heap} {c_Line c_BadTime c_NoGround c_NoPlace c_NoProof c_NoKind c_BadText c_NoDeed c_NoRow c_TooMany c_NotDone c_NoBook c_NoCall c_NoEngine c_NoEngines c_NoLine c_NoJoin c_NoFlow c_Late c_Inside c_Dead c_NoTeam c_NoWearer c_NoBoard c_NoText c_Nothing c_NoSaying : Addr}
theorem ok_taken {f : Addr} {fd : FuncData} (F : Fun K "taken" "taken" s_taken f fd) (T : Txt K w mg c_Line c_BadTime c_NoGround c_NoPlace c_NoProof c_NoKind c_BadText c_NoDeed c_NoRow c_TooMany c_NotDone c_NoBook c_NoCall c_NoEngine c_NoEngines c_NoLine c_NoJoin c_NoFlow c_Late c_Inside c_Dead c_NoTeam c_NoWearer c_NoBoard c_NoText c_Nothing c_NoSaying) (C_joins_of : CalD P w K mg base 5 "joins_of" (sp_joins_of 4)) : FnOk P w K mg base CX0 6 f fd ["parts", "share"] (uSp K (sp_taken)) :=
  Fun.okF F sc_taken (td_taken) (fun cdv A outer s H E hr =>
    (dss_cons (ds_set (i := 2) sc_taken.nd de_int)
    (dss_cons (ds_for PassesOwn.never (di_seq (de_call C_joins_of hr (da_cons (dv 0) da_nil))) (dg_nm (i := 3) sc_taken.nd)
      (dss_one (ds_if (dt_cmp (oc_eq hr) (de_ix (dv 3) de_int) de_str) (dss_one (ds_augI (i := 2) sc_taken.nd (de_op oa_div (de_op oa_mul (de_ix (dv 3) de_int) (dv 1)) (de_glob T.g_WHOLE_SHARE)))) (dss_one (ds_if (dt_cmp (oc_eq hr) (de_ix (dv 3) de_int) de_str) (dss_one (ds_augI (i := 2) sc_taken.nd (de_ix (dv 3) de_int))) dss_nil)))))
    (dss_one (ds_ret (dv 2)))))) (fun ws S Q E h => len_taken h) (hd_taken)
end
abbrev s_pressure_behind : Stmt := topS 48
abbrev N_pressure_behind : List Str := ["join", "pressure", "flow"]
theorem sc_pressure_behind : FnScope N_pressure_behind ["join", "pressure", "flow"] (defScope s_pressure_behind) := ⟨rfl, rfl, rfl, by decide +kernel, rfl, by decide +kernel, by decide +kernel⟩
theorem st_pressure_behind {x0 x1 x2 : W} : ζg N_pressure_behind [x0, x1, x2] = [some x0, some x1, some x2] := rfl
def td_pressure_behind : DS' :=
    (ζU (ζW (ζi (dOp dEq (dOp dIx (ζB 0) (dC (.int 0))) (dC (.str "hose")))) (ζV (dOp ζC (dOp ζC (ζB 1) (dOp ζE (dOp ζD (dOp ζD (dOp dIx (ζB 0) (dC (.int 1))) (ζB 2)) (ζB 2)) (dC w_HOSE_DIVISOR))) (dOp dIx (ζB 0) (dC (.int 2))))) ζp)
    (ζU (ζW (ζi (dOp dEq (dOp dIx (ζB 0) (dC (.int 0))) (dC (.str "pump")))) (ζV (dCB ζo (ζl (dC w_MOST_BEHIND_PUMP) (ζl (dOp ζH (ζB 1) (dOp dIx (ζB 0) (dC (.int 1)))) ζO)))) ζp)
    (ζV (ζB 1))))
def sp_pressure_behind : DSp := fun ws S Q _ => ∃ (j : Nq) (p fl : Int), ws = [j.w, .int p, .int fl] ∧ j.ok ∧ (0 ≤ fl ∧ fl ≤ 400000) ∧ Q (.int (j.beh p fl)) S
theorem len_pressure_behind {ws S Q E} (h : sp_pressure_behind ws S Q E) : ws.length = 3 := by obtain ⟨_, _, _, rfl, _⟩ := h; rfl
theorem hd_pressure_behind (ws S Q E) (h : sp_pressure_behind ws S Q E) : td_pressure_behind { nx := fun _ S' => frzQ Q .non S', rt := frzQ Q } ⟨ζg N_pressure_behind ws, XF⟩ S := by
  obtain ⟨w, p, fl, rfl, hj, hfl, q⟩ := h
  simp only [st_pressure_behind, td_pressure_behind]
  cases w with
  | j j =>
    cases j with
    | hose n e =>
      refine seq_go (if_b true (fun Q hq => by simp only [Nq.w, Jn.w]; (array_get_dec); exact ⟨rfl, rfl, hq⟩) (fun _ => ?_) (fun e => (nomatch e)))
      (((try unfold ζp); dsimp only))
      refine ret_go ?_
      obtain ⟨⟨h1, h2⟩, _⟩ := hj
      simp only [Nq.w, Jn.w]
      (array_get_dec)
      exact ⟨.inl ⟨by omega, by omega⟩, .inr ⟨by omega, by omega⟩, ⟨by decide, by decide⟩, frzQ.mk q⟩
    | pump a b =>
      refine seq_go (if_b false (fun Q hq => by simp only [Nq.w, Jn.w]; (array_get_dec); exact ⟨rfl, rfl, hq⟩) (fun e => (nomatch e)) (fun _ => ?_))
      (((try unfold ζp); dsimp only; refine seq_go ?_))
      refine if_b true (fun Q hq => by simp only [Nq.w, Jn.w]; (array_get_dec); exact ⟨rfl, rfl, hq⟩) (fun _ => ?_) (fun e => (nomatch e))
      (((try unfold ζp); dsimp only))
      refine ret_go ?_
      simp only [Nq.w, Jn.w]
      (array_get_dec)
      have e : (if p + a < 120 then p + a else 120) = min 120 (p + a) := by split <;> omega
      first
        | exact frzQ.mk q
        | (rw [e]; exact frzQ.mk q)
    | leak a =>
      refine seq_go (if_b false (fun Q hq => by simp only [Nq.w, Jn.w]; (array_get_dec); exact ⟨rfl, rfl, hq⟩) (fun e => (nomatch e)) (fun _ => ?_))
      (((try unfold ζp); dsimp only; refine seq_go ?_))
      refine if_b false (fun Q hq => by simp only [Nq.w, Jn.w]; (array_get_dec); exact ⟨rfl, rfl, hq⟩) (fun e => (nomatch e)) (fun _ => ?_)
      (((try unfold ζp); dsimp only))
      exact ret_go (var_go rfl (frzQ.mk q))
  | n f q2 =>
    refine seq_go (if_b false (fun Q hq => by simp only [Nq.w, nozW]; (array_get_dec); exact ⟨rfl, rfl, hq⟩) (fun e => (nomatch e)) (fun _ => ?_))
    (((try unfold ζp); dsimp only; refine seq_go ?_))
    refine if_b false (fun Q hq => by simp only [Nq.w, nozW]; (array_get_dec); exact ⟨rfl, rfl, hq⟩) (fun e => (nomatch e)) (fun _ => ?_)
    (((try unfold ζp); dsimp only))
    exact ret_go (var_go rfl (frzQ.mk q))
section
variable {P : Program} {w : World} {K : PySem.W.Frag} {mg : Str → Option Value} {base : Heap} {c_Line c_BadTime c_NoGround c_NoPlace c_NoProof c_NoKind c_BadText c_NoDeed c_NoRow c_TooMany c_NotDone c_NoBook c_NoCall c_NoEngine c_NoEngines c_NoLine c_NoJoin c_NoFlow c_Late c_Inside c_Dead c_NoTeam c_NoWearer c_NoBoard c_NoText c_Nothing c_NoSaying : Addr}
theorem ok_pressure_behind {f : Addr} {fd : FuncData} (F : Fun K "pressure_behind" "pressure_behind" s_pressure_behind f fd) (T : Txt K w mg c_Line c_BadTime c_NoGround c_NoPlace c_NoProof c_NoKind c_BadText c_NoDeed c_NoRow c_TooMany c_NotDone c_NoBook c_NoCall c_NoEngine c_NoEngines c_NoLine c_NoJoin c_NoFlow c_Late c_Inside c_Dead c_NoTeam c_NoWearer c_NoBoard c_NoText c_Nothing c_NoSaying) : FnOk P w K mg base CX0 1 f fd ["join", "pressure", "flow"] (uSp K (sp_pressure_behind)) :=
  Fun.okF F sc_pressure_behind (td_pressure_behind) (fun cdv A outer s H E hr =>
    (dss_cons (ds_if (dt_cmp (oc_eq hr) (de_ix (dv 0) de_int) de_str) (dss_one (ds_ret (de_op oa_sub (de_op oa_sub (dv 1) (de_op oa_div (de_op oa_mul (de_op oa_mul (de_ix (dv 0) de_int) (dv 2)) (dv 2)) (de_glob T.g_HOSE_DIVISOR))) (de_ix (dv 0) de_int)))) dss_nil)
    (dss_cons (ds_if (dt_cmp (oc_eq hr) (de_ix (dv 0) de_int) de_str) (dss_one (ds_ret (de_callB cd_min2 T.z_min (da_cons (de_glob T.g_MOST_BEHIND_PUMP) (da_cons (de_op oa_add (dv 1) (de_ix (dv 0) de_int)) da_nil))))) dss_nil)
    (dss_one (ds_ret (dv 1)))))) (fun ws S Q E h => len_pressure_behind h) (hd_pressure_behind)
end
abbrev s_why_failing : Stmt := topS 49
abbrev N_why_failing : List Str := ["join", "pressure", "flow"]
theorem sc_why_failing : FnScope N_why_failing ["join", "pressure", "flow"] (defScope s_why_failing) := ⟨rfl, rfl, rfl, by decide +kernel, rfl, by decide +kernel, by decide +kernel⟩
theorem st_why_failing {x0 x1 x2 : W} : ζg N_why_failing [x0, x1, x2] = [some x0, some x1, some x2] := rfl
def td_why_failing : DS' :=
    (ζU (ζW (ζL (ζi (dOp dEq (dOp dIx (ζB 0) (dC (.int 0))) (dC (.str "hose")))) (ζi (dOp dLt (ζB 1) (dC w_LEAST_IN_HOSE)))) (ζV (dC (.str "dry"))) ζp)
    (ζU (ζW (ζL (ζi (dOp dEq (dOp dIx (ζB 0) (dC (.int 0))) (dC (.str "pump")))) (ζi (dOp dGt (ζB 2) (dOp dIx (ζB 0) (dC (.int 2)))))) (ζV (dC (.str "flow"))) ζp)
    (ζU (ζW (ζL (ζi (dOp dEq (dOp dIx (ζB 0) (dC (.int 0))) (dC (.str "nozzle")))) (ζi (dOp dLt (ζB 1) (dOp dIx (ζB 0) (dC (.int 2)))))) (ζV (dC (.str "weak"))) ζp)
    (ζV (dC .non)))))
def sp_why_failing : DSp := fun ws S Q _ => ∃ (j : Nq) (p fl : Int), ws = [j.w, .int p, .int fl] ∧ j.ok ∧ Q (whyW (j.why p fl)) S
theorem len_why_failing {ws S Q E} (h : sp_why_failing ws S Q E) : ws.length = 3 := by obtain ⟨_, _, _, rfl, _⟩ := h; rfl
theorem hd_why_failing (ws S Q E) (h : sp_why_failing ws S Q E) : td_why_failing { nx := fun _ S' => frzQ Q .non S', rt := frzQ Q } ⟨ζg N_why_failing ws, XF⟩ S := by
  obtain ⟨w, p, fl, rfl, hj, q⟩ := h
  simp only [st_why_failing, td_why_failing]
  cases w with
  | j j =>
    cases j with
    | hose n e =>
      refine seq_go (if_b (decide (p < -70)) (fun Q hq => ?_) (fun c => ret_go ?_) (fun c => ?_))
      · refine and_b (a := true) (b := decide (p < -70)) (fun Q h => by simp only [Nq.w, Jn.w, nozW]; (array_get_dec); exact ⟨rfl, rfl, h⟩) (fun _ Q h => by (try simp only [Nq.w, Jn.w, nozW]); (array_get_dec); exact h) hq
      · have c := of_decide_eq_true c
        have q' : Q (whyW (if p < -70 then some 0 else none)) S := q
        rw [if_pos c] at q'
        exact frzQ.mk q'
      have c := of_decide_eq_false c
      have q' : Q (whyW (if p < -70 then some 0 else none)) S := q
      rw [if_neg c] at q'
      (((try unfold ζp); dsimp only; refine seq_go ?_))
      refine if_b false (fun Q hq => and_b (a := false) (b := false) (fun Q h => by simp only [Nq.w, Jn.w, nozW]; (array_get_dec); exact ⟨rfl, rfl, h⟩) (fun e => (nomatch e)) hq) (fun e => (nomatch e)) (fun _ => ?_)
      (((try unfold ζp); dsimp only; refine seq_go ?_))
      refine if_b false (fun Q hq => and_b (a := false) (b := false) (fun Q h => by simp only [Nq.w, Jn.w, nozW]; (array_get_dec); exact ⟨rfl, rfl, h⟩) (fun e => (nomatch e)) hq) (fun e => (nomatch e)) (fun _ => ?_)
      (((try unfold ζp); dsimp only))
      exact ret_go (frzQ.mk q')
    | pump a b =>
      refine seq_go (if_b false (fun Q hq => and_b (a := false) (b := false) (fun Q h => by simp only [Nq.w, Jn.w, nozW]; (array_get_dec); exact ⟨rfl, rfl, h⟩) (fun e => (nomatch e)) hq) (fun e => (nomatch e)) (fun _ => ?_))
      (((try unfold ζp); dsimp only; refine seq_go ?_))
      refine if_b (decide (b < fl)) (fun Q hq => ?_) (fun c => ret_go ?_) (fun c => ?_)
      · refine and_b (a := true) (b := decide (b < fl)) (fun Q h => by simp only [Nq.w, Jn.w, nozW]; (array_get_dec); exact ⟨rfl, rfl, h⟩) (fun _ Q h => by (try simp only [Nq.w, Jn.w, nozW]); (array_get_dec); exact h) hq
      · have c := of_decide_eq_true c
        have q' : Q (whyW (if b < fl then some 1 else none)) S := q
        rw [if_pos c] at q'
        exact frzQ.mk q'
      have c := of_decide_eq_false c
      have q' : Q (whyW (if b < fl then some 1 else none)) S := q
      rw [if_neg c] at q'
      (((try unfold ζp); dsimp only; refine seq_go ?_))
      refine if_b false (fun Q hq => and_b (a := false) (b := false) (fun Q h => by simp only [Nq.w, Jn.w, nozW]; (array_get_dec); exact ⟨rfl, rfl, h⟩) (fun e => (nomatch e)) hq) (fun e => (nomatch e)) (fun _ => ?_)
      (((try unfold ζp); dsimp only))
      exact ret_go (frzQ.mk q')
    | leak a =>
      refine seq_go (if_b false (fun Q hq => and_b (a := false) (b := false) (fun Q h => by simp only [Nq.w, Jn.w, nozW]; (array_get_dec); exact ⟨rfl, rfl, h⟩) (fun e => (nomatch e)) hq) (fun e => (nomatch e)) (fun _ => ?_))
      (((try unfold ζp); dsimp only; refine seq_go ?_))
      refine if_b false (fun Q hq => and_b (a := false) (b := false) (fun Q h => by simp only [Nq.w, Jn.w, nozW]; (array_get_dec); exact ⟨rfl, rfl, h⟩) (fun e => (nomatch e)) hq) (fun e => (nomatch e)) (fun _ => ?_)
      (((try unfold ζp); dsimp only; refine seq_go ?_))
      refine if_b false (fun Q hq => and_b (a := false) (b := false) (fun Q h => by simp only [Nq.w, Jn.w, nozW]; (array_get_dec); exact ⟨rfl, rfl, h⟩) (fun e => (nomatch e)) hq) (fun e => (nomatch e)) (fun _ => ?_)
      (((try unfold ζp); dsimp only))
      exact ret_go (frzQ.mk q)
  | n f q2 =>
      refine seq_go (if_b false (fun Q hq => and_b (a := false) (b := false) (fun Q h => by simp only [Nq.w, Jn.w, nozW]; (array_get_dec); exact ⟨rfl, rfl, h⟩) (fun e => (nomatch e)) hq) (fun e => (nomatch e)) (fun _ => ?_))
      (((try unfold ζp); dsimp only; refine seq_go ?_))
      refine if_b false (fun Q hq => and_b (a := false) (b := false) (fun Q h => by simp only [Nq.w, Jn.w, nozW]; (array_get_dec); exact ⟨rfl, rfl, h⟩) (fun e => (nomatch e)) hq) (fun e => (nomatch e)) (fun _ => ?_)
      (((try unfold ζp); dsimp only; refine seq_go ?_))
      refine if_b (decide (p < q2)) (fun Q hq => ?_) (fun c => ret_go ?_) (fun c => ?_)
      · refine and_b (a := true) (b := decide (p < q2)) (fun Q h => by simp only [Nq.w, Jn.w, nozW]; (array_get_dec); exact ⟨rfl, rfl, h⟩) (fun _ Q h => by (try simp only [Nq.w, Jn.w, nozW]); (array_get_dec); exact h) hq
      · have c := of_decide_eq_true c
        have q' : Q (whyW (if p < q2 then some 2 else none)) S := q
        rw [if_pos c] at q'
        exact frzQ.mk q'
      have c := of_decide_eq_false c
      have q' : Q (whyW (if p < q2 then some 2 else none)) S := q
      rw [if_neg c] at q'
      (((try unfold ζp); dsimp only))
      exact ret_go (frzQ.mk q')
section
variable {P : Program} {w : World} {K : PySem.W.Frag} {mg : Str → Option Value} {base : Heap} {c_Line c_BadTime c_NoGround c_NoPlace c_NoProof c_NoKind c_BadText c_NoDeed c_NoRow c_TooMany c_NotDone c_NoBook c_NoCall c_NoEngine c_NoEngines c_NoLine c_NoJoin c_NoFlow c_Late c_Inside c_Dead c_NoTeam c_NoWearer c_NoBoard c_NoText c_Nothing c_NoSaying : Addr}
theorem ok_why_failing {f : Addr} {fd : FuncData} (F : Fun K "why_failing" "why_failing" s_why_failing f fd) (T : Txt K w mg c_Line c_BadTime c_NoGround c_NoPlace c_NoProof c_NoKind c_BadText c_NoDeed c_NoRow c_TooMany c_NotDone c_NoBook c_NoCall c_NoEngine c_NoEngines c_NoLine c_NoJoin c_NoFlow c_Late c_Inside c_Dead c_NoTeam c_NoWearer c_NoBoard c_NoText c_Nothing c_NoSaying) : FnOk P w K mg base CX0 1 f fd ["join", "pressure", "flow"] (uSp K (sp_why_failing)) :=
  Fun.okF F sc_why_failing (td_why_failing) (fun cdv A outer s H E hr =>
    (dss_cons (ds_if (PW.pt (dw_and (dt_cmp (oc_eq hr) (de_ix (dv 0) de_int) de_str) (dw_and1 (dt_cmp oc_lt (dv 1) (de_glob T.g_LEAST_IN_HOSE))))) (dss_one (ds_ret de_str)) dss_nil)
    (dss_cons (ds_if (PW.pt (dw_and (dt_cmp (oc_eq hr) (de_ix (dv 0) de_int) de_str) (dw_and1 (dt_cmp oc_gt (dv 2) (de_ix (dv 0) de_int))))) (dss_one (ds_ret de_str)) dss_nil)
    (dss_cons (ds_if (PW.pt (dw_and (dt_cmp (oc_eq hr) (de_ix (dv 0) de_int) de_str) (dw_and1 (dt_cmp oc_lt (dv 1) (de_ix (dv 0) de_int))))) (dss_one (ds_ret de_str)) dss_nil)
    (dss_one (ds_ret de_non)))))) (fun ws S Q E h => len_why_failing h) (hd_why_failing)
end
abbrev s_NoFlow__init_ : Stmt := inClass (topS 17) 0
abbrev N_NoFlow__init_ : List Str := ["self", "join", "why"]
theorem sc_NoFlow__init_ : FnScope N_NoFlow__init_ ["self", "join", "why"] (defScope s_NoFlow__init_) := ⟨rfl, rfl, rfl, by decide +kernel, rfl, by decide +kernel, by decide +kernel⟩
section
variable {P : Program} {w : World} {K : PySem.W.Frag} {mg : Str → Option Value} {base : Heap} {c_Line c_BadTime c_NoGround c_NoPlace c_NoProof c_NoKind c_BadText c_NoDeed c_NoRow c_TooMany c_NotDone c_NoBook c_NoCall c_NoEngine c_NoEngines c_NoLine c_NoJoin c_NoFlow c_Late c_Inside c_Dead c_NoTeam c_NoWearer c_NoBoard c_NoText c_Nothing c_NoSaying : Addr}
theorem ok_NFi {f C : Addr} {fd : FuncData} (F : Fun K "__init__" "NoFlow.__init__" s_NoFlow__init_ f fd) (z : mg "ArithmeticError" = none) (T : My.Gx_ae K C) (n1 : PySem.W.findIn K (.ref C) "join" = some none) (n2 : PySem.W.findIn K (.ref C) "why" = some none)
    (vV : PySem.W.findCls K (.type "ArithmeticError") (.type "type") "__init__" = some (.val (.builtin "ArithmeticError.__init__"))) : FnOk P w K mg base CX0 1 f fd ["self", "join", "why"] (spExc C ["join", "why"] okNS) := by
  refine F.ok sc_NoFlow__init_ (fun vs H Q E h => ?_) (fun cdv A outer s H vs Q E hr h => ?_)
  · obtain ⟨a, us, rfl, hl, _⟩ := h
    show us.length + 1 = 3
    rw [hl]
    rfl
  · obtain ⟨a, us, rfl, hl, ⟨n, y, rfl, h1, h2⟩, ha, q⟩ := h
    have nk := num_ok h1
    refine ⟨_, (pss_cons (ps_expr (My.pe_bi_ae (by rfl) z vV (pa_cons (pvN 0) (pa_cons (pe_joined (.cons pe_str (.cons (pe_fmt (pvN 1)) (.cons pe_str (.cons (pe_fmt (pvN 2)) .nil))))) pa_nil)))) (pss_cons (My.ps_st_ae (pvN 0) (pvN 1)) (pss_one (My.ps_sn_ae (pvN 0) (pvN 2))))), ?_⟩
    have l0 : (Str.empty ++ ("no flow: " : Str)).length = 9 := by decide +kernel
    have lg : (Int.natAbs (n : Int)).log2 < 1920 := by
      show n.log2 < 1920
      by_cases z : n = 0
      · rw [z]; decide
      · exact (Nat.log2_lt z).mpr (Nat.lt_of_lt_of_le (show n < 1000 by omega) (by decide))
    have ln : (Str.ofString (toString (n : Int))).length ≤ 3 := nk.hi
    have lc : ((", " : Str)).length = 2 := by decide +kernel
    have sz : ∀ m : Nat, m ≤ 200 → m ≤ sizeLine := fun m h => Nat.le_trans h (by decide)
    refine ⟨.ref a, rfl, _, rfl, sz _ (by rw [l0]; decide), .int n, rfl, .inr ⟨n, rfl, lg, _, rfl, sz _ (by rw [str_app, l0]; omega), _, rfl, sz _ (by rw [str_app, str_app, l0, lc]; omega), .str y, rfl, .inl ⟨y, rfl, sz _ (by omega), y, rfl, sz _ (by rw [str_app, str_app, str_app, l0, lc]; omega), ?_⟩⟩⟩
    refine ⟨a, C, _, rfl, by show 1 ≤ 1000; decide, T, ha, ?_⟩
    refine ⟨.int n, rfl, .ref a, rfl, a, C, rfl, T, n1, ha, fun dx nd ne => ?_⟩
    refine ⟨.str y, rfl, .ref a, rfl, a, C, dx, [("join", .int n)], rfl, T, n2, upd_same, by rw [upd_ne ne, upd_same], by show 1 ≤ 900; decide, ?_⟩
    have e : upd (upd (upd H dx (exd dx [("join", .int n)])) a (exo a C (some dx))) dx (exd dx [("why", .str y), ("join", .int n)]) = upd (upd H dx (exd dx [("why", .str y), ("join", .int n)])) a (exo a C (some dx)) := by
      funext b
      by_cases c1 : b = dx
      · subst c1; rw [upd_same, upd_ne ne, upd_same]
      · rw [upd_ne c1]
        by_cases c2 : b = a
        · subst c2; rw [upd_same, upd_same]
        · rw [upd_ne c2, upd_ne c2, upd_ne c1, upd_ne c1]
    have q' := q dx nd ne
    show Q .non (upd (upd (upd H dx (exd dx [("join", .int n)])) a (exo a C (some dx))) dx (exd dx [("why", .str y), ("join", .int n)]))
    rw [e]
    exact q'
end
theorem Pt.ok_mono {t : Pt} : ∀ {d e : Nat}, t.ok d → d ≤ e → t.ok e := by
  induction t with
  | noz js f p => exact fun h _ => h
  | fork js a b iha ihb => exact fun ⟨h0, h1, h2, h3, h4⟩ le => ⟨by omega, h1, h2, iha h3 (by omega), ihb h4 (by omega)⟩
theorem extN_go {i : Nat} {te : DE'} {ω : Om} {S : Sto} {D : Out} {a : Addr} {xs : List W} (N : List W → Prop) (hi : ω.s[i]? = some (some (.ref a))) (hS : S a = some (.lst xs)) (he : ∀ Q : WQ, (∀ ys, N ys → Q (.lst ys) S) → te ω S Q) (k : ∀ ys, N ys → xs.length + ys.length ≤ 1000000 ∧ D.nx ω (up S a (.lst (xs ++ ys)))) : ζq (dBM ξb (ζB i) (ζl te ζO)) D ω S := by
  refine drop_go (bm_go (var_go hi ⟨isL_ref hS, ?_⟩))
  simp only [ζl, ζO]
  refine he _ fun ys hy => ?_
  simp only [ξb]
  simp only [view_c_lst, hS]
  exact k ys hy
theorem frzX.drop {Ed : XW} {c : Value} {fs : Option (List (Str × W))} {l : List (Option W)} {S : Sto} {a : Addr} {xs : List W} (h : S a = none) (e : Ed c fs S) : frzX Ed c fs l (up S a (.lst xs)) := by
  refine ⟨_, Frz.drop (p := a) (o := .lst xs) up_same (fun _ e => (nomatch e)), ?_⟩
  rw [del_new h]
  exact e
def noFlow (n : Nat) (y : Nat) : Option (List (Str × W)) := some [("why", .str (whyS y)), ("join", .int n)]
def errE (C : Addr) (E : XW) (S : Sto) (n y : Nat) : Prop := E (.ref C) (noFlow n y) S
theorem whyS_len (y : Nat) : (whyS y).length ≤ 10 := by
  match y with
  | 0 => decide +kernel
  | 1 => decide +kernel
  | _ + 2 => exact (by decide +kernel : (("weak" : Str)).length ≤ 10)
def Rest (r : Except (Nat × Nat) (List Int)) (acc : List Int) (r' : Except (Nat × Nat) (List Int)) : Prop := (∀ e, r' = .error e → r = .error e) ∧ ∀ xs, r' = .ok xs → r = .ok (acc ++ xs)
theorem Rest.cons {r acc j} {t : Pn} {sh p : Int} {pa : Nat} (h : Rest r acc ((Pn.cons j t).walk sh p pa)) (hw : j.why (j.beh p (j.tk + t.tak sh)) (j.tk + t.tak sh) = none) : Rest r (acc ++ [j.beh p (j.tk + t.tak sh)]) (t.walk sh (j.beh p (j.tk + t.tak sh)) (pa + 1)) := by
  obtain ⟨h1, h2⟩ := h
  unfold Pn.walk at h1 h2
  rw [hw] at h1 h2
  constructor
  · intro e he
    refine h1 e ?_
    simp only [he]
  · intro xs hx
    have := h2 (j.beh p (j.tk + t.tak sh) :: xs) (by simp only [hx])
    rw [this, List.append_assoc]; rfl
theorem Rest.err {r acc j} {t : Pn} {sh p : Int} {pa : Nat} {y : Nat} (h : Rest r acc ((Pn.cons j t).walk sh p pa)) (hw : j.why (j.beh p (j.tk + t.tak sh)) (j.tk + t.tak sh) = some y) : r = .error (pa + 1, y) := by
  obtain ⟨h1, h2⟩ := h
  refine h1 _ ?_
  unfold Pn.walk
  rw [hw]
theorem Pn.walk_noz {sh f q p : Int} {pa : Nat} : (Pn.noz f q).walk sh p pa = if p < q then .error (pa + 1, 2) else .ok [p] := rfl
def Wk (t : Pt) (sh p : Int) (pa i : Nat) (acc : List Int) (p' : Int) : Prop := (i ≤ t.js.length → acc.length = i ∧ Rest (t.pn.walk sh p pa) acc ((t.drp i).pn.walk sh p' (pa + i))) ∧ (t.js.length < i → t.pn.walk sh p pa = .ok acc)
theorem Wk.join {d : Nat} {t : Pt} {sh p p' : Int} {pa i : Nat} {acc : List Int} {w : W} (ht : t.ok d) (hw : t.ws[i]? = some w) (hi : i ≤ t.js.length) (h : Wk t sh p pa i acc p') :
    (∃ nq : Nq, w = nq.w ∧ nq.ok ∧ (∀ y, nq.why (nq.beh p' ((t.drp i).pn.tak sh)) ((t.drp i).pn.tak sh) = some y → t.pn.walk sh p pa = .error (pa + i + 1, y)) ∧
      (nq.why (nq.beh p' ((t.drp i).pn.tak sh)) ((t.drp i).pn.tak sh) = none → Wk t sh p pa (i + 1) (acc ++ [nq.beh p' ((t.drp i).pn.tak sh)]) (nq.beh p' ((t.drp i).pn.tak sh)))) ∨
    ∃ a b : Pt, 0 < d ∧ w = forkW a.ws b.ws ∧ a.ok (d - 1) ∧ b.ok (d - 1) ∧ i = t.js.length ∧ t.joins.length = t.js.length + (a.joins.length + b.joins.length) ∧ Rest (t.pn.walk sh p pa) acc ((Pn.fork a.pn b.pn).walk sh p' (pa + i)) := by
  obtain ⟨hacc, hR⟩ := h.1 hi
  rcases Pt.at_k ht hw with ⟨h1, rfl, jok⟩ | ⟨ei, ⟨f, q2, rfl, hf, hq2, epn, ejl⟩ | ⟨a, b, d0, rfl, ha, hb, epn, ejl⟩⟩
  · refine .inl ⟨.j (t.js[i]), rfl, jok, ?_⟩
    rw [Pt.drp_cons h1] at hR ⊢
    refine ⟨fun y hy => hR.err hy, fun hn => ⟨fun _ => ⟨by rw [List.length_append, hacc]; rfl, hR.cons hn⟩, fun c => absurd c (by omega)⟩⟩
  · refine .inl ⟨.n f q2, rfl, ⟨hf, hq2⟩, ?_⟩
    rw [epn] at hR ⊢
    obtain ⟨r1, r2⟩ := hR
    rw [Pn.walk_noz] at r1 r2
    refine ⟨fun y hy => ?_, fun hn => ⟨fun c => absurd c (by omega), fun _ => ?_⟩⟩
    · replace hy : (if p' < q2 then some 2 else none) = some y := hy
      by_cases c : p' < q2
      · rw [if_pos c] at hy
        cases hy
        exact r1 _ (by rw [if_pos c])
      · rw [if_neg c] at hy; cases hy
    · replace hn : (if p' < q2 then some 2 else none) = none := hn
      by_cases c : p' < q2
      · rw [if_pos c] at hn; cases hn
      · exact r2 [p'] (by rw [if_neg c])
  · rw [epn] at hR
    exact .inr ⟨a, b, d0, rfl, ha, hb, ei, ejl, hR⟩
def sp_walked (C : Addr) : Nat → DSp
  | 0 => fun _ _ _ _ => False
  | d + 1 => fun ws S Q E => ∃ (t : Pt) (p sh : Int) (pa : Nat), ws = [.tup t.ws, .int p, .int sh, .int pa] ∧ t.ok d ∧ d ≤ 3 ∧ (0 ≤ sh ∧ sh ≤ 100) ∧ pa + t.joins.length ≤ 900 ∧ (∀ told : List Int, t.pn.walk sh p pa = .ok told → ∀ l, S l = none → Q (.ref l) (up S l (.lst (told.map W.int)))) ∧ ∀ n y, t.pn.walk sh p pa = .error (n, y) → errE C E S n y
theorem len_walked {C d ws S Q E} (h : sp_walked C (d + 1) ws S Q E) : ws.length = 4 := by obtain ⟨_, _, _, _, rfl, _⟩ := h; rfl
abbrev s_walked : Stmt := topS 47
abbrev N_walked : List Str := ["parts", "pressure", "share", "passed", "told", "at", "part", "flow", "why"]
theorem sc_walked : FnScope N_walked ["parts", "pressure", "share", "passed"] (defScope s_walked) := ⟨rfl, rfl, rfl, by decide +kernel, rfl, by decide +kernel, by decide +kernel⟩
theorem st_walked {x0 x1 x2 x3 : W} : ζg N_walked [x0, x1, x2, x3] = [some x0, some x1, some x2, some x3, none, none, none, none, none] := rfl
def td_walked (c_NoFlow : Addr) (d : Nat) : DS' :=
    (ζU (ζY 4 (ζm ζO))
    (ζU (dFor (ζz (ζl (ζB 0) ζO)) (.tp ((.nm 5) :: ((.nm 6) :: [])))
      (ζW (ζi (dOp dEq (dOp dIx (ζB 6) (dC (.int 0))) (dC (.str "fork")))) (ζU (ζq (dBM ξb (ζB 4) (ζl (ξc (dCallXD (sp_walked c_NoFlow d) [] (ζl (dOp dIx (ζB 6) (dC (.int 1))) (ζl (ζB 1) (ζl (ζB 2) (ζl (dOp ζH (ζB 3) (dCB ζR (ζl (ζB 4) ζO))) ζO)))))) ζO)))
        (ζq (dBM ξb (ζB 4) (ζl (ξc (dCallXD (sp_walked c_NoFlow d) [] (ζl (dOp dIx (ζB 6) (dC (.int 2))) (ζl (ζB 1) (ζl (ζB 2) (ζl (dOp ζH (ζB 3) (dCB ζR (ζl (ζB 4) ζO))) ζO)))))) ζO)))) (ζU (ζY 7 (ζu sp_taken (ζl (dSl (ζB 0) (ζv (ζB 5)) dNo) (ζl (ζB 2) ζO))))
        (ζU (ζY 1 (ζu sp_pressure_behind (ζl (ζB 6) (ζl (ζB 1) (ζl (ζB 7) ζO)))))
        (ζU (ζY 8 (ζu sp_why_failing (ζl (ζB 6) (ζl (ζB 1) (ζl (ζB 7) ζO)))))
        (ζU (ζW (ζi (dOp ζh (ζB 8) (dC .non))) (dRaise c_NoFlow ["join", "why"] okNSW (ζl (dOp ζH (dOp ζH (ζB 3) (dCB ζR (ζl (ζB 4) ζO))) (dC (.int 1))) (ζl (ζB 8) ζO))) ζp)
        (ζq (dBM ξa (ζB 4) (ζl (ζB 1) ζO)))))))))
    (ζV (ζB 4))))
theorem hd_walked (c_NoFlow : Addr) (d : Nat) (ws S Q E) (h : sp_walked c_NoFlow (d + 1) ws S Q E) : td_walked c_NoFlow d { nx := fun _ S' => frzQ Q .non S', rt := frzQ Q } ⟨ζg N_walked ws, frzX E⟩ S := by
  obtain ⟨t, p, sh, pa, rfl, ht, d3, hsh, hpa, q, qe⟩ := h
  have jl := Pt.joins_len ht
  have p8 : 2 ^ d ≤ 2 ^ 3 := Nat.pow_le_pow_right (by decide) d3
  have jok := Pt.joins_ok ht
  obtain ⟨js, last, lj, e1, e2, j7, jsok, hlast⟩ := Pt.split ht
  have wl : t.ws.length = js.length + 1 := by rw [e1, List.length_append, List.length_map]; rfl
  have jl2 : t.joins.length = js.length + lj.length := by rw [e2, List.length_append, List.length_map]
  simp only [st_walked, td_walked]
  refine seq_go (setN_go (fun w S1 => ∃ l, w = .ref l ∧ S l = none ∧ S1 = up S l (.lst [])) (fun Q hq => ?_) ?_)
  · (array_get_dec)
    exact ⟨by decide, fun p hp => hq _ _ ⟨p, rfl, hp, rfl⟩⟩
  rintro _ _ ⟨l, rfl, hl, rfl⟩
  (((try unfold ζp); dsimp only; refine seq_go ?_))
  have jlen : t.js.length + 1 = t.ws.length := by
    cases t with
    | noz js f p => show js.length + 1 = (js.map Jn.w ++ [nozW f p]).length; rw [List.length_append, List.length_map]; rfl
    | fork js a b => show js.length + 1 = (js.map Jn.w ++ [forkW a.ws b.ws]).length; rw [List.length_append, List.length_map]; rfl
  refine forE (xs := t.ws) (fun Q' h => by (array_get_dec); exact h) (fun i ω' S' => ∃ (p' : Int) (acc : List Int) (y5 y6 y7 y8 : Option W), ω' = ⟨[some (.tup t.ws), some (.int p'), some (.int sh), some (.int pa), some (.ref l), y5, y6, y7, y8], frzX E⟩ ∧ S' = up S l (.lst (acc.map W.int)) ∧ Wk t sh p pa i acc p') ⟨p, [], _, _, _, _, rfl, rfl, fun _ => ⟨rfl, by rw [Pt.drp_0]; exact ⟨fun _ h => h, fun _ h => h⟩⟩, fun h => absurd h (Nat.not_lt_zero _)⟩ ?_ ?_
  · rintro i w ω' S' hw ⟨p', acc, y5, y6, y7, y8, rfl, rfl, hin⟩
    refine ⟨_, rfl, ?_⟩
    have hiw : i < t.ws.length := (List.getElem?_eq_some_iff.mp hw).1
    obtain ⟨hacc, hR⟩ := hin.1 (by omega)
    have cd : cut t.ws (some (i : Int)) none = (t.drp i).ws := by rw [cut_drop (by omega), Pt.drp_ws (by omega)]
    have dok : (t.drp i).ok 3 := Pt.ok_mono (Pt.drp_ok ht) d3
    have tb := Pt.tak_b dok hsh
    rcases Wk.join ht hw (by omega) hin with ⟨nq, rfl, jok, herr, hnx⟩ | ⟨a, b, d0, rfl, ha, hb, ei, ejl, hF⟩
    · refine if_b false (fun Q hq => ?_) (fun e => (nomatch e)) (fun _ => ?_)
      · cases nq with
        | j j => cases j <;> (simp only [Nq.w, Jn.w]; (array_get_dec); exact ⟨rfl, rfl, hq⟩)
        | n f q2 =>
          simp only [Nq.w, nozW]
          (array_get_dec)
          exact ⟨rfl, rfl, hq⟩
      refine seq_go (set_go (.int ((t.drp i).pn.tak sh)) (up S l (.lst (acc.map W.int))) (fun Q hq => ?_) ?_)
      · (array_get_dec)
        rw [cd]
        exact ⟨_, sh, rfl, dok, hsh, hq⟩
      (((try unfold ζp); dsimp only; refine seq_go ?_))
      refine set_go (.int (nq.beh p' ((t.drp i).pn.tak sh))) (up S l (.lst (acc.map W.int))) (fun Q hq => ?_) ?_
      · (array_get_dec)
        exact ⟨nq, p', _, rfl, jok, tb, hq⟩
      (((try unfold ζp); dsimp only; refine seq_go ?_))
      refine set_go (whyW (nq.why (nq.beh p' ((t.drp i).pn.tak sh)) ((t.drp i).pn.tak sh))) (up S l (.lst (acc.map W.int))) (fun Q hq => ?_) ?_
      · (array_get_dec)
        exact ⟨nq, _, _, rfl, jok, hq⟩
      (((try unfold ζp); dsimp only; refine seq_go ?_))
      generalize nq.beh p' ((t.drp i).pn.tak sh) = r at herr hnx
      cases hy : nq.why r ((t.drp i).pn.tak sh) with
      | none =>
        refine if_b false (fun Q hq => by simp only [whyW]; (array_get_dec); exact hq) (fun e => (nomatch e)) (fun _ => ?_)
        (((try unfold ζp); dsimp only))
        refine app_go (.int r) rfl up_same (fun Q hq => by (array_get_dec); exact hq) (by rw [List.length_map]; omega) ⟨r, acc ++ [r], _, _, _, _, rfl, ?_, hnx hy⟩
        rw [up_up, List.map_append]
        rfl
      | some y =>
        have er := herr y hy
        refine if_b true (fun Q hq => by simp only [whyW]; (array_get_dec); exact hq) (fun _ => ?_) (fun e => (nomatch e))
        simp only [dRaise, whyW]
        (array_get_dec)
        simp only [view_ref (up_same (S := S) (a := l) (o := .lst (acc.map W.int)))]
        have en : W.int ((pa : Int) + ((acc.map W.int).length : Nat) + 1) = W.int ((pa + i + 1 : Nat) : Int) := by
          rw [List.length_map, hacc]
          congr 1
        have yl := whyS_len y
        refine ⟨trivial, ⟨pa + i + 1, whyS y, ?_, by omega, by omega⟩, frzX.drop hl ?_⟩
        · rw [en]
        · rw [en]
          exact qe _ _ er
    · subst ei
      obtain ⟨d, rfl⟩ : ∃ e, d = e + 1 := ⟨d - 1, by omega⟩
      rw [Nat.add_sub_cancel] at ha hb
      rw [Pn.walk_fork] at hF
      obtain ⟨F1, F2⟩ := hF
      refine if_b true (fun Q hq => ?_) (fun _ => ?_) (fun e => (nomatch e))
      · simp only [forkW]
        (array_get_dec)
        exact ⟨rfl, rfl, hq⟩
      refine seq_go (extN_go (fun ys => ∃ told : List Int, ys = told.map W.int ∧ a.pn.walk sh p' (pa + t.js.length) = .ok told) rfl up_same (fun Q hq => ?_) ?_)
      · simp only [ξc, dCallXD, forkW]
        (array_get_dec)
        simp only [view_ref (up_same (S := S) (a := l) (o := .lst (acc.map W.int)))]
        refine ⟨a, p', sh, pa + t.js.length, ?_, ha, by omega, hsh, by omega, fun told hl l2 h2 => frzL h2 (hq _ ⟨told, rfl, hl⟩), fun n y he => by unfold errE; exact frzX.drop hl (qe _ _ (F1 _ (by rw [he])))⟩
        rw [List.length_map, hacc]
        rfl
      rintro ys ⟨told, rfl, hta⟩
      have htl := Pn.walk_len hta
      rw [Pt.pn_cnt] at htl
      refine ⟨by rw [List.length_map, List.length_map]; omega, ?_⟩
      rw [up_up, ← List.map_append]
      rw [hta] at F1 F2
      simp only at F1 F2
      (((try unfold ζp); dsimp only))
      refine extN_go (fun ys => ∃ told2 : List Int, ys = told2.map W.int ∧ b.pn.walk sh p' (pa + t.js.length + told.length) = .ok told2) rfl up_same (fun Q hq => ?_) ?_
      · simp only [ξc, dCallXD, forkW]
        (array_get_dec)
        simp only [view_ref (up_same (S := S) (a := l) (o := .lst ((acc ++ told).map W.int)))]
        refine ⟨b, p', sh, pa + t.js.length + told.length, ?_, hb, by omega, hsh, by omega, fun told hl l2 h2 => frzL h2 (hq _ ⟨told, rfl, hl⟩), fun n y he => by unfold errE; exact frzX.drop hl (qe _ _ (F1 _ (by rw [he])))⟩
        rw [List.length_map, List.length_append, hacc]
        have : (pa : Int) + ((t.js.length + told.length : Nat) : Int) = ((pa + t.js.length + told.length : Nat) : Int) := by omega
        rw [this]
      rintro ys ⟨told2, rfl, htb⟩
      have htl2 := Pn.walk_len htb
      rw [Pt.pn_cnt] at htl2
      refine ⟨by rw [List.length_map, List.length_map, List.length_append]; omega, ?_⟩
      rw [up_up, ← List.map_append]
      refine ⟨p', _, _, _, _, _, rfl, rfl, fun c => absurd c (by omega), fun _ => ?_⟩
      rw [List.append_assoc]
      exact F2 _ (by rw [htb])
  · rintro ω' S' ⟨p', acc, y5, y6, y7, y8, rfl, rfl, _, hfin⟩
    (((try unfold ζp); dsimp only))
    exact ret_go (var_go rfl (frzQ.mk (q acc (hfin (by omega)) l hl)))
section
variable {P : Program} {w : World} {K : PySem.W.Frag} {mg : Str → Option Value} {base : Heap} {c_Line c_BadTime c_NoGround c_NoPlace c_NoProof c_NoKind c_BadText c_NoDeed c_NoRow c_TooMany c_NotDone c_NoBook c_NoCall c_NoEngine c_NoEngines c_NoLine c_NoJoin c_NoFlow c_Late c_Inside c_Dead c_NoTeam c_NoWearer c_NoBoard c_NoText c_Nothing c_NoSaying : Addr}
theorem okS_walked_0 {f : Addr} {fd : FuncData} (F : Fun K "walked" "walked" s_walked f fd) (T : Txt K w mg c_Line c_BadTime c_NoGround c_NoPlace c_NoProof c_NoKind c_BadText c_NoDeed c_NoRow c_TooMany c_NotDone c_NoBook c_NoCall c_NoEngine c_NoEngines c_NoLine c_NoJoin c_NoFlow c_Late c_Inside c_Dead c_NoTeam c_NoWearer c_NoBoard c_NoText c_Nothing c_NoSaying) (CX_walked : CalXD P w K mg base 7 "walked" (sp_walked c_NoFlow 0) []) (C_taken : CalD P w K mg base 6 "taken" sp_taken) (C_pressure_behind : CalD P w K mg base 1 "pressure_behind" sp_pressure_behind) (C_why_failing : CalD P w K mg base 1 "why_failing" sp_why_failing) (X_NoFlow : ExcD P w K mg base 1 "NoFlow" c_NoFlow ["join", "why"] okNS) : FnOk P w K mg base (L2.CX P w) 8 f fd ["parts", "pressure", "share", "passed"] (uSp K (sp_walked c_NoFlow 1)) :=
  Fun.okXF F sc_walked (td_walked c_NoFlow 0) (fun cdv A outer s H E hr =>
    (dss_cons (ds_set (i := 4) sc_walked.nd (de_lstM da_nil))
    (dss_cons (ds_for (passes_of rfl) (di_enA T.z_enumerate (da_cons (dv 0) da_nil)) (dg_tp (dgs_cons (dg_nm (i := 5) sc_walked.nd) (dgs_cons (dg_nm (i := 6) sc_walked.nd) dgs_nil)))
      (dss_one (ds_if (dt_cmp (oc_eq hr) (de_ix (dv 6) de_int) de_str) (dss_cons (ds_expr (de_extend (dv 4) (da_cons (de_frz (de_callX CX_walked (takes_of rfl rfl rfl rfl) hr (da_cons (de_ix (dv 6) de_int) (da_cons (dv 1) (da_cons (dv 2) (da_cons (de_op oa_add (dv 3) (de_callB cd_len T.z_len (da_cons (dv 4) da_nil))) da_nil)))))) da_nil)))
        (dss_one (ds_expr (de_extend (dv 4) (da_cons (de_frz (de_callX CX_walked (takes_of rfl rfl rfl rfl) hr (da_cons (de_ix (dv 6) de_int) (da_cons (dv 1) (da_cons (dv 2) (da_cons (de_op oa_add (dv 3) (de_callB cd_len T.z_len (da_cons (dv 4) da_nil))) da_nil)))))) da_nil))))) (dss_cons (ds_set (i := 7) sc_walked.nd (de_call C_taken hr (da_cons (de_sl (dv 0) (do_some (dv 5)) do_none) (da_cons (dv 2) da_nil))))
        (dss_cons (ds_set (i := 1) sc_walked.nd (de_call C_pressure_behind hr (da_cons (dv 6) (da_cons (dv 1) (da_cons (dv 7) da_nil)))))
        (dss_cons (ds_set (i := 8) sc_walked.nd (de_call C_why_failing hr (da_cons (dv 6) (da_cons (dv 1) (da_cons (dv 7) da_nil)))))
        (dss_cons (ds_if (dt_cmp oc_isnot (dv 8) de_non) (dss_one (ds_raiseE (okW := okNSW) X_NoFlow (takes_of rfl rfl rfl rfl) hr (da_cons (de_op oa_add (de_op oa_add (dv 3) (de_callB cd_len T.z_len (da_cons (dv 4) da_nil))) de_int) (da_cons (dv 8) da_nil)) okNS_of)) dss_nil)
        (dss_one (ds_expr (de_append (dv 4) (da_cons (dv 1) da_nil)))))))))))
    (dss_one (ds_ret (dv 4)))))) (fun ws S Q E h => len_walked h) (hd_walked c_NoFlow 0)
theorem okS_walked_1 {f : Addr} {fd : FuncData} (F : Fun K "walked" "walked" s_walked f fd) (T : Txt K w mg c_Line c_BadTime c_NoGround c_NoPlace c_NoProof c_NoKind c_BadText c_NoDeed c_NoRow c_TooMany c_NotDone c_NoBook c_NoCall c_NoEngine c_NoEngines c_NoLine c_NoJoin c_NoFlow c_Late c_Inside c_Dead c_NoTeam c_NoWearer c_NoBoard c_NoText c_Nothing c_NoSaying) (CX_walked : CalXD P w K mg base 8 "walked" (sp_walked c_NoFlow 1) []) (C_taken : CalD P w K mg base 6 "taken" sp_taken) (C_pressure_behind : CalD P w K mg base 1 "pressure_behind" sp_pressure_behind) (C_why_failing : CalD P w K mg base 1 "why_failing" sp_why_failing) (X_NoFlow : ExcD P w K mg base 1 "NoFlow" c_NoFlow ["join", "why"] okNS) : FnOk P w K mg base (L2.CX P w) 9 f fd ["parts", "pressure", "share", "passed"] (uSp K (sp_walked c_NoFlow 2)) :=
  Fun.okXF F sc_walked (td_walked c_NoFlow 1) (fun cdv A outer s H E hr =>
    (dss_cons (ds_set (i := 4) sc_walked.nd (de_lstM da_nil))
    (dss_cons (ds_for (passes_of rfl) (di_enA T.z_enumerate (da_cons (dv 0) da_nil)) (dg_tp (dgs_cons (dg_nm (i := 5) sc_walked.nd) (dgs_cons (dg_nm (i := 6) sc_walked.nd) dgs_nil)))
      (dss_one (ds_if (dt_cmp (oc_eq hr) (de_ix (dv 6) de_int) de_str) (dss_cons (ds_expr (de_extend (dv 4) (da_cons (de_frz (de_callX CX_walked (takes_of rfl rfl rfl rfl) hr (da_cons (de_ix (dv 6) de_int) (da_cons (dv 1) (da_cons (dv 2) (da_cons (de_op oa_add (dv 3) (de_callB cd_len T.z_len (da_cons (dv 4) da_nil))) da_nil)))))) da_nil)))
        (dss_one (ds_expr (de_extend (dv 4) (da_cons (de_frz (de_callX CX_walked (takes_of rfl rfl rfl rfl) hr (da_cons (de_ix (dv 6) de_int) (da_cons (dv 1) (da_cons (dv 2) (da_cons (de_op oa_add (dv 3) (de_callB cd_len T.z_len (da_cons (dv 4) da_nil))) da_nil)))))) da_nil))))) (dss_cons (ds_set (i := 7) sc_walked.nd (de_call C_taken hr (da_cons (de_sl (dv 0) (do_some (dv 5)) do_none) (da_cons (dv 2) da_nil))))
        (dss_cons (ds_set (i := 1) sc_walked.nd (de_call C_pressure_behind hr (da_cons (dv 6) (da_cons (dv 1) (da_cons (dv 7) da_nil)))))
        (dss_cons (ds_set (i := 8) sc_walked.nd (de_call C_why_failing hr (da_cons (dv 6) (da_cons (dv 1) (da_cons (dv 7) da_nil)))))
        (dss_cons (ds_if (dt_cmp oc_isnot (dv 8) de_non) (dss_one (ds_raiseE (okW := okNSW) X_NoFlow (takes_of rfl rfl rfl rfl) hr (da_cons (de_op oa_add (de_op oa_add (dv 3) (de_callB cd_len T.z_len (da_cons (dv 4) da_nil))) de_int) (da_cons (dv 8) da_nil)) okNS_of)) dss_nil)
        (dss_one (ds_expr (de_append (dv 4) (da_cons (dv 1) da_nil)))))))))))
    (dss_one (ds_ret (dv 4)))))) (fun ws S Q E h => len_walked h) (hd_walked c_NoFlow 1)
theorem okS_walked_2 {f : Addr} {fd : FuncData} (F : Fun K "walked" "walked" s_walked f fd) (T : Txt K w mg c_Line c_BadTime c_NoGround c_NoPlace c_NoProof c_NoKind c_BadText c_NoDeed c_NoRow c_TooMany c_NotDone c_NoBook c_NoCall c_NoEngine c_NoEngines c_NoLine c_NoJoin c_NoFlow c_Late c_Inside c_Dead c_NoTeam c_NoWearer c_NoBoard c_NoText c_Nothing c_NoSaying) (CX_walked : CalXD P w K mg base 9 "walked" (sp_walked c_NoFlow 2) []) (C_taken : CalD P w K mg base 6 "taken" sp_taken) (C_pressure_behind : CalD P w K mg base 1 "pressure_behind" sp_pressure_behind) (C_why_failing : CalD P w K mg base 1 "why_failing" sp_why_failing) (X_NoFlow : ExcD P w K mg base 1 "NoFlow" c_NoFlow ["join", "why"] okNS) : FnOk P w K mg base (L2.CX P w) 10 f fd ["parts", "pressure", "share", "passed"] (uSp K (sp_walked c_NoFlow 3)) :=
  Fun.okXF F sc_walked (td_walked c_NoFlow 2) (fun cdv A outer s H E hr =>
    (dss_cons (ds_set (i := 4) sc_walked.nd (de_lstM da_nil))
    (dss_cons (ds_for (passes_of rfl) (di_enA T.z_enumerate (da_cons (dv 0) da_nil)) (dg_tp (dgs_cons (dg_nm (i := 5) sc_walked.nd) (dgs_cons (dg_nm (i := 6) sc_walked.nd) dgs_nil)))
      (dss_one (ds_if (dt_cmp (oc_eq hr) (de_ix (dv 6) de_int) de_str) (dss_cons (ds_expr (de_extend (dv 4) (da_cons (de_frz (de_callX CX_walked (takes_of rfl rfl rfl rfl) hr (da_cons (de_ix (dv 6) de_int) (da_cons (dv 1) (da_cons (dv 2) (da_cons (de_op oa_add (dv 3) (de_callB cd_len T.z_len (da_cons (dv 4) da_nil))) da_nil)))))) da_nil)))
        (dss_one (ds_expr (de_extend (dv 4) (da_cons (de_frz (de_callX CX_walked (takes_of rfl rfl rfl rfl) hr (da_cons (de_ix (dv 6) de_int) (da_cons (dv 1) (da_cons (dv 2) (da_cons (de_op oa_add (dv 3) (de_callB cd_len T.z_len (da_cons (dv 4) da_nil))) da_nil)))))) da_nil))))) (dss_cons (ds_set (i := 7) sc_walked.nd (de_call C_taken hr (da_cons (de_sl (dv 0) (do_some (dv 5)) do_none) (da_cons (dv 2) da_nil))))
        (dss_cons (ds_set (i := 1) sc_walked.nd (de_call C_pressure_behind hr (da_cons (dv 6) (da_cons (dv 1) (da_cons (dv 7) da_nil)))))
        (dss_cons (ds_set (i := 8) sc_walked.nd (de_call C_why_failing hr (da_cons (dv 6) (da_cons (dv 1) (da_cons (dv 7) da_nil)))))
        (dss_cons (ds_if (dt_cmp oc_isnot (dv 8) de_non) (dss_one (ds_raiseE (okW := okNSW) X_NoFlow (takes_of rfl rfl rfl rfl) hr (da_cons (de_op oa_add (de_op oa_add (dv 3) (de_callB cd_len T.z_len (da_cons (dv 4) da_nil))) de_int) (da_cons (dv 8) da_nil)) okNS_of)) dss_nil)
        (dss_one (ds_expr (de_append (dv 4) (da_cons (dv 1) da_nil)))))))))))
    (dss_one (ds_ret (dv 4)))))) (fun ws S Q E h => len_walked h) (hd_walked c_NoFlow 2)
theorem okS_walked_3 {f : Addr} {fd : FuncData} (F : Fun K "walked" "walked" s_walked f fd) (T : Txt K w mg c_Line c_BadTime c_NoGround c_NoPlace c_NoProof c_NoKind c_BadText c_NoDeed c_NoRow c_TooMany c_NotDone c_NoBook c_NoCall c_NoEngine c_NoEngines c_NoLine c_NoJoin c_NoFlow c_Late c_Inside c_Dead c_NoTeam c_NoWearer c_NoBoard c_NoText c_Nothing c_NoSaying) (CX_walked : CalXD P w K mg base 10 "walked" (sp_walked c_NoFlow 3) []) (C_taken : CalD P w K mg base 6 "taken" sp_taken) (C_pressure_behind : CalD P w K mg base 1 "pressure_behind" sp_pressure_behind) (C_why_failing : CalD P w K mg base 1 "why_failing" sp_why_failing) (X_NoFlow : ExcD P w K mg base 1 "NoFlow" c_NoFlow ["join", "why"] okNS) : FnOk P w K mg base (L2.CX P w) 11 f fd ["parts", "pressure", "share", "passed"] (uSp K (sp_walked c_NoFlow 4)) :=
  Fun.okXF F sc_walked (td_walked c_NoFlow 3) (fun cdv A outer s H E hr =>
    (dss_cons (ds_set (i := 4) sc_walked.nd (de_lstM da_nil))
    (dss_cons (ds_for (passes_of rfl) (di_enA T.z_enumerate (da_cons (dv 0) da_nil)) (dg_tp (dgs_cons (dg_nm (i := 5) sc_walked.nd) (dgs_cons (dg_nm (i := 6) sc_walked.nd) dgs_nil)))
      (dss_one (ds_if (dt_cmp (oc_eq hr) (de_ix (dv 6) de_int) de_str) (dss_cons (ds_expr (de_extend (dv 4) (da_cons (de_frz (de_callX CX_walked (takes_of rfl rfl rfl rfl) hr (da_cons (de_ix (dv 6) de_int) (da_cons (dv 1) (da_cons (dv 2) (da_cons (de_op oa_add (dv 3) (de_callB cd_len T.z_len (da_cons (dv 4) da_nil))) da_nil)))))) da_nil)))
        (dss_one (ds_expr (de_extend (dv 4) (da_cons (de_frz (de_callX CX_walked (takes_of rfl rfl rfl rfl) hr (da_cons (de_ix (dv 6) de_int) (da_cons (dv 1) (da_cons (dv 2) (da_cons (de_op oa_add (dv 3) (de_callB cd_len T.z_len (da_cons (dv 4) da_nil))) da_nil)))))) da_nil))))) (dss_cons (ds_set (i := 7) sc_walked.nd (de_call C_taken hr (da_cons (de_sl (dv 0) (do_some (dv 5)) do_none) (da_cons (dv 2) da_nil))))
        (dss_cons (ds_set (i := 1) sc_walked.nd (de_call C_pressure_behind hr (da_cons (dv 6) (da_cons (dv 1) (da_cons (dv 7) da_nil)))))
        (dss_cons (ds_set (i := 8) sc_walked.nd (de_call C_why_failing hr (da_cons (dv 6) (da_cons (dv 1) (da_cons (dv 7) da_nil)))))
        (dss_cons (ds_if (dt_cmp oc_isnot (dv 8) de_non) (dss_one (ds_raiseE (okW := okNSW) X_NoFlow (takes_of rfl rfl rfl rfl) hr (da_cons (de_op oa_add (de_op oa_add (dv 3) (de_callB cd_len T.z_len (da_cons (dv 4) da_nil))) de_int) (da_cons (dv 8) da_nil)) okNS_of)) dss_nil)
        (dss_one (ds_expr (de_append (dv 4) (da_cons (dv 1) da_nil)))))))))))
    (dss_one (ds_ret (dv 4)))))) (fun ws S Q E h => len_walked h) (hd_walked c_NoFlow 3)
end
theorem and_go {ta tb : DT'} {ω : Om} {S : Sto} {Q : Bool → Sto → Prop} (h : ta ω S fun a S1 => if a = true then tb ω S1 Q else Q false S1) : ζL ta tb ω S Q := h
theorem try_go {K : PySem.W.Frag} {C : Value} {tb ts : DS'} {D : Out} {ω : Om} {S : Sto} (h : tb { nx := fun ω' S' => D.nx ⟨ω'.s, ω.ex⟩ S', rt := D.rt, bk := fun ω' S' => D.bk ⟨ω'.s, ω.ex⟩ S', ct := fun ω' S' => D.ct ⟨ω'.s, ω.ex⟩ S' }
  ⟨ω.s, fun c fs l S' => ∃ b, PySem.W.exmOne K c C = some b ∧ (b = true → ts D ⟨l, ω.ex⟩ S') ∧ (b = false → ω.ex c fs l S')⟩ S) : dTry K C tb ts D ω S := h
theorem mthX_go {C : Addr} {m : Str} {dsp : DSp} {us : List W} {to : DE'} {t : DA'} {ω : Om} {S : Sto} {Q : WQ} (h : to ω S fun w S1 => insOk S1 C m w ∧ t ω S1 fun ws S2 => dsp (w :: (ws ++ us)) S2 Q fun c fs S' => ω.ex c fs ω.s S') : dMthX C m dsp us to t ω S Q := h
theorem callX_go {dsp : DSp} {us : List W} {t : DA'} {ω : Om} {S : Sto} {Q : WQ} (h : t ω S fun ws S1 => dsp (ws ++ us) S1 Q fun c fs S' => ω.ex c fs ω.s S') : dCallXD dsp us t ω S Q := h
def lineW (C : Addr) (s : So) (t : Pt) : W := .ins C ["source", "parts"] [s.w, .tup t.ws]
def So.p : So → Int
  | .hyd p _ => p
  | .pond d => -d
def ans (s : So) (t : Pt) (sh : Int) : Except (Nat × Nat) (List Int) := match s with
  | .hyd p f => if f < t.pn.tak sh then .error (0, 1) else t.pn.walk sh p 0
  | .pond d => t.pn.walk sh (-d) 0
theorem l_source {S : Sto} {C : Addr} {s t} : fget S C "source" (lineW C s t) = some s.w := by
  show (if C = C then _ else none) = _
  rw [if_pos rfl]
  rfl
theorem l_parts {S : Sto} {C : Addr} {s t} : fget S C "parts" (lineW C s t) = some (.tup t.ws) := by
  show (if C = C then _ else none) = _
  rw [if_pos rfl]
  rfl
theorem l_ins {S : Sto} {C : Addr} {s t} {m : Str} (h : m ∉ (["source", "parts"] : List Str)) : insOk S C m (lineW C s t) := by
  refine ⟨rfl, look_none fun hm => h ?_⟩
  obtain ⟨p, hp, e⟩ := List.mem_map.mp hm
  rw [← e]
  exact (List.of_mem_zip hp).1
abbrev s_Line_pressures : Stmt := inClass (topS 40) 4
abbrev N_Line_pressures : List Str := ["self", "share", "pressure"]
theorem sc_Line_pressures : FnScope N_Line_pressures ["self", "share"] (defScope s_Line_pressures) := ⟨rfl, rfl, rfl, by decide +kernel, rfl, by decide +kernel, by decide +kernel⟩
theorem st_Line_pressures {x0 x1 : W} : ζg N_Line_pressures [x0, x1] = [some x0, some x1, none] := rfl
def td_Line_pressures (c_Line c_NoFlow : Addr) : DS' :=
    (ζU (ζW (ζL (ζi (dOp dEq (dOp dIx (ξd c_Line "source" (ζB 0)) (dC (.int 0))) (dC (.str "hydrant")))) (ζi (dOp dGt (ζu sp_taken (ζl (ξd c_Line "parts" (ζB 0)) (ζl (ζB 1) ζO))) (dOp dIx (ξd c_Line "source" (ζB 0)) (dC (.int 2)))))) (dRaise c_NoFlow ["join", "why"] okNSW (ζl (dC (.int 0)) (ζl (dC (.str "flow")) ζO))) ζp)
    (ζU (ζY 2 (dIf (ζi (dOp dEq (dOp dIx (ξd c_Line "source" (ζB 0)) (dC (.int 0))) (dC (.str "hydrant")))) (dOp dIx (ξd c_Line "source" (ζB 0)) (dC (.int 1))) (dUn ζI (dOp dIx (ξd c_Line "source" (ζB 0)) (dC (.int 1))))))
    (ζV (dCallXD (sp_walked c_NoFlow 4) [] (ζl (ξd c_Line "parts" (ζB 0)) (ζl (ζB 2) (ζl (ζB 1) (ζl (dC (.int 0)) ζO))))))))
def sp_Line_pressures (C CN : Addr) : DSp := fun ws S Q E => ∃ (s : So) (t : Pt) (sh : Int), ws = [lineW C s t, .int sh] ∧ s.ok ∧ t.ok 3 ∧ (0 ≤ sh ∧ sh ≤ 100) ∧ (∀ told : List Int, ans s t sh = .ok told → ∀ l, S l = none → Q (.ref l) (up S l (.lst (told.map W.int)))) ∧ ∀ n y, ans s t sh = .error (n, y) → errE CN E S n y
theorem len_Line_pressures {C CN ws S Q E} (h : sp_Line_pressures C CN ws S Q E) : ws.length = 2 := by obtain ⟨_, _, _, rfl, _⟩ := h; rfl
theorem hd_Line_pressures (c_Line c_NoFlow : Addr) (ws S Q E) (h : sp_Line_pressures c_Line c_NoFlow ws S Q E) : td_Line_pressures c_Line c_NoFlow { nx := fun _ S' => frzQ Q .non S', rt := frzQ Q } ⟨ζg N_Line_pressures ws, frzX E⟩ S := by
  obtain ⟨s, t, sh, rfl, hs, ht, hsh, q, qe⟩ := h
  have jl := Pt.joins_len ht
  have go : ∀ p : Int, ans s t sh = t.pn.walk sh p 0 → sp_walked c_NoFlow 4 [.tup t.ws, .int p, .int sh, .int 0] S (frzQ Q) fun c fs S' => frzX E c fs [some (lineW c_Line s t), some (.int sh), some (.int p)] S' := fun p e =>
    ⟨t, p, sh, 0, rfl, ht, by decide, hsh, by omega, fun told h l hl => frzQ.mk (q told (e.trans h) l hl), fun n y h => by unfold errE; exact frzX.mk (qe n y (e.trans h))⟩
  simp only [st_Line_pressures, td_Line_pressures]
  cases s with
  | hyd pr fl =>
    have t1 : ∀ (x2 : Option W) (Q : Bool → Sto → Prop), Q true S → ζi (dOp dEq (dOp dIx (ξd c_Line "source" (ζB 0)) (dC (.int 0))) (dC (.str "hydrant"))) ⟨[some (lineW c_Line (.hyd pr fl) t), some (.int sh), x2], frzX E⟩ S Q := fun x2 Q hq => by
      (array_get_dec)
      simp only [l_source, So.w]
      (array_get_dec)
      exact ⟨rfl, rfl, hq⟩
    refine seq_go (if_b (decide (fl < t.pn.tak sh)) (fun Q hq => ?_) (fun c => ?_) (fun c => ?_))
    · refine and_go (t1 _ _ ?_)
      rw [if_pos rfl]
      (array_get_dec)
      simp only [l_parts]
      try (array_get_dec)
      refine ⟨t, sh, rfl, ht, hsh, ?_⟩
      simp only [l_source, So.w]
      (array_get_dec)
      exact hq
    · have c := of_decide_eq_true c
      simp only [dRaise]
      (array_get_dec)
      refine ⟨trivial, ⟨0, "flow", rfl, by decide, by decide +kernel⟩, frzX.mk (qe 0 1 ?_)⟩
      show (if fl < t.pn.tak sh then Except.error (0, 1) else _) = _
      rw [if_pos c]
    · have c := of_decide_eq_false c
      (((try unfold ζp); dsimp only; refine seq_go ?_))
      refine set_go (.int pr) S (fun Q hq => ?_) ?_
      · refine ifE_go (t1 _ _ ?_)
        rw [if_pos rfl]
        (array_get_dec)
        simp only [l_source, So.w]
        (array_get_dec)
        exact hq
      (((try unfold ζp); dsimp only))
      refine ret_go ?_
      refine callX_go ?_
      (array_get_dec)
      simp only [l_parts]
      try (array_get_dec)
      refine go pr ?_
      show (if fl < t.pn.tak sh then Except.error (0, 1) else _) = _
      rw [if_neg c]
  | pond dp =>
    have t1 : ∀ (x2 : Option W) (Q : Bool → Sto → Prop), Q false S → ζi (dOp dEq (dOp dIx (ξd c_Line "source" (ζB 0)) (dC (.int 0))) (dC (.str "hydrant"))) ⟨[some (lineW c_Line (.pond dp) t), some (.int sh), x2], frzX E⟩ S Q := fun x2 Q hq => by
      (array_get_dec)
      simp only [l_source, So.w]
      (array_get_dec)
      exact ⟨rfl, rfl, hq⟩
    refine seq_go (if_b false (fun Q hq => ?_) (fun e => (nomatch e)) (fun _ => ?_))
    · exact and_b (a := false) (b := false) (fun Q h => t1 _ _ h) (fun e => (nomatch e)) hq
    (((try unfold ζp); dsimp only; refine seq_go ?_))
    refine set_go (.int (-dp)) S (fun Q hq => ?_) ?_
    · refine ifE_go (t1 _ _ ?_)
      rw [if_neg Bool.false_ne_true]
      (array_get_dec)
      simp only [l_source, So.w]
      (array_get_dec)
      exact hq
    (((try unfold ζp); dsimp only))
    refine ret_go ?_
    refine callX_go ?_
    (array_get_dec)
    simp only [l_parts]
    try (array_get_dec)
    exact go (-dp) rfl
section
variable {P : Program} {w : World} {K : PySem.W.Frag} {mg : Str → Option Value} {base : Heap} {c_Line c_BadTime c_NoGround c_NoPlace c_NoProof c_NoKind c_BadText c_NoDeed c_NoRow c_TooMany c_NotDone c_NoBook c_NoCall c_NoEngine c_NoEngines c_NoLine c_NoJoin c_NoFlow c_Late c_Inside c_Dead c_NoTeam c_NoWearer c_NoBoard c_NoText c_Nothing c_NoSaying : Addr}
theorem ok_Line_pressures {f : Addr} {fd : FuncData} (F : FunD K "pressures" "Line.pressures" (defArgs s_Line_pressures) (defBody s_Line_pressures) (defScope s_Line_pressures) [.int 100] [] f fd) (T : Txt K w mg c_Line c_BadTime c_NoGround c_NoPlace c_NoProof c_NoKind c_BadText c_NoDeed c_NoRow c_TooMany c_NotDone c_NoBook c_NoCall c_NoEngine c_NoEngines c_NoLine c_NoJoin c_NoFlow c_Late c_Inside c_Dead c_NoTeam c_NoWearer c_NoBoard c_NoText c_Nothing c_NoSaying) (C_taken : CalD P w K mg base 6 "taken" sp_taken) (X_NoFlow : ExcD P w K mg base 1 "NoFlow" c_NoFlow ["join", "why"] okNS) (CX_walked : CalXD P w K mg base 11 "walked" (sp_walked c_NoFlow 4) []) : FnOk P w K mg base (L2.CX P w) 12 f fd ["self", "share"] (uSp K (sp_Line_pressures c_Line c_NoFlow)) :=
  FunD.okXF F sc_Line_pressures (td_Line_pressures c_Line c_NoFlow) (fun cdv A outer s H E hr =>
    (dss_cons (ds_if (PW.pt (dw_and (dt_cmp (oc_eq hr) (de_ix (de_fld T.cl_Line T.n_Line_source (dv 0)) de_int) de_str) (dw_and1 (dt_cmp oc_gt (de_call C_taken hr (da_cons (de_fld T.cl_Line T.n_Line_parts (dv 0)) (da_cons (dv 1) da_nil))) (de_ix (de_fld T.cl_Line T.n_Line_source (dv 0)) de_int))))) (dss_one (ds_raiseE (okW := okNSW) X_NoFlow (takes_of rfl rfl rfl rfl) hr (da_cons de_int (da_cons de_str da_nil)) okNS_of)) dss_nil)
    (dss_cons (ds_set (i := 2) sc_Line_pressures.nd (de_if (dt_cmp (oc_eq hr) (de_ix (de_fld T.cl_Line T.n_Line_source (dv 0)) de_int) de_str) (de_ix (de_fld T.cl_Line T.n_Line_source (dv 0)) de_int) (de_neg (de_ix (de_fld T.cl_Line T.n_Line_source (dv 0)) de_int))))
    (dss_one (ds_ret (de_callX CX_walked (takes_of rfl rfl rfl rfl) hr (da_cons (de_fld T.cl_Line T.n_Line_parts (dv 0)) (da_cons (dv 2) (da_cons (dv 1) (da_cons de_int da_nil)))))))))) (fun ws S Q E h => len_Line_pressures h) (hd_Line_pressures c_Line c_NoFlow)
end
abbrev s_Line_holds : Stmt := inClass (topS 40) 7
abbrev N_Line_holds : List Str := ["self", "share"]
theorem sc_Line_holds : FnScope N_Line_holds ["self", "share"] (defScope s_Line_holds) := ⟨rfl, rfl, rfl, by decide +kernel, rfl, by decide +kernel, by decide +kernel⟩
theorem st_Line_holds {x0 x1 : W} : ζg N_Line_holds [x0, x1] = [some x0, some x1] := rfl
def td_Line_holds (K : PySem.W.Frag) (c_Line c_NoFlow : Addr) : DS' :=
    (ζU (dTry K (.ref c_NoFlow) (ζq (dMthX c_Line "pressures" (sp_Line_pressures c_Line c_NoFlow) [] (ζB 0) (ζl (ζB 1) ζO))) (ζV (dC (.bl false))))
    (ζV (dC (.bl true))))
def sp_Line_holds (C : Addr) : DSp := fun ws S Q _ => ∃ (s : So) (t : Pt) (sh : Int), ws = [lineW C s t, .int sh] ∧ s.ok ∧ t.ok 3 ∧ (0 ≤ sh ∧ sh ≤ 100) ∧ Q (.bl (match ans s t sh with | .ok _ => true | .error _ => false)) S
theorem len_Line_holds {C ws S Q E} (h : sp_Line_holds C ws S Q E) : ws.length = 2 := by obtain ⟨_, _, _, rfl, _⟩ := h; rfl
theorem hd_Line_holds (K : PySem.W.Frag) (c_Line c_NoFlow : Addr) (ex : PySem.W.exmOne K (.ref c_NoFlow) (.ref c_NoFlow) = some true) (ws S Q E) (h : sp_Line_holds c_Line ws S Q E) : td_Line_holds K c_Line c_NoFlow { nx := fun _ S' => frzQ Q .non S', rt := frzQ Q } ⟨ζg N_Line_holds ws, XF⟩ S := by
  obtain ⟨s, t, sh, rfl, hs, ht, hsh, q⟩ := h
  simp only [st_Line_holds, td_Line_holds]
  refine seq_go ?_
  refine try_go (drop_go (mthX_go ?_))
  (array_get_dec)
  refine ⟨l_ins (by decide +kernel), s, t, sh, rfl, hs, ht, hsh, fun told h l hl => ?_, fun n y h => ⟨true, ex, fun _ => ?_, fun e => (nomatch e)⟩⟩
  · try (array_get_dec)
    rw [h] at q
    refine ⟨_, _, Frz.drop (p := l) (o := .lst (told.map W.int)) up_same (fun _ e => (nomatch e)), ?_⟩
    rw [del_new hl]
    exact q
  · try (array_get_dec)
    rw [h] at q
    exact frzQ.mk q
section
variable {P : Program} {w : World} {K : PySem.W.Frag} {mg : Str → Option Value} {base : Heap} {c_Line c_BadTime c_NoGround c_NoPlace c_NoProof c_NoKind c_BadText c_NoDeed c_NoRow c_TooMany c_NotDone c_NoBook c_NoCall c_NoEngine c_NoEngines c_NoLine c_NoJoin c_NoFlow c_Late c_Inside c_Dead c_NoTeam c_NoWearer c_NoBoard c_NoText c_Nothing c_NoSaying : Addr}
theorem ok_Line_holds {f : Addr} {fd : FuncData} (F : Fun K "holds" "Line.holds" s_Line_holds f fd) (T : Txt K w mg c_Line c_BadTime c_NoGround c_NoPlace c_NoProof c_NoKind c_BadText c_NoDeed c_NoRow c_TooMany c_NotDone c_NoBook c_NoCall c_NoEngine c_NoEngines c_NoLine c_NoJoin c_NoFlow c_Late c_Inside c_Dead c_NoTeam c_NoWearer c_NoBoard c_NoText c_Nothing c_NoSaying) (DX_Line_pressures : MthX P w K mg base 12 c_Line "pressures" (sp_Line_pressures c_Line c_NoFlow) []) (gx_NoFlow : mg "NoFlow" = some (.ref c_NoFlow)) (ex_NoFlow : PySem.W.exmOne K (.ref c_NoFlow) (.ref c_NoFlow) = some true) : FnOk P w K mg base CX0 13 f fd ["self", "share"] (uSp K (sp_Line_holds c_Line)) :=
  Fun.okF F sc_Line_holds (td_Line_holds K c_Line c_NoFlow) (fun cdv A outer s H E hr =>
    (dss_cons (ds_try ⟨rfl, by decide, .inl gx_NoFlow⟩ takes0 (fun W pn xe tk po => (dss_one (ds_expr (de_mthX T.cl_Line DX_Line_pressures tk hr (dv 0) (da_cons (dv 1) da_nil))))) (fun a oe cls d pn hz hf => (dss_one (ds_ret de_bl))))
    (dss_one (ds_ret de_bl)))) (fun ws S Q E h => len_Line_holds h) (hd_Line_holds K c_Line c_NoFlow ex_NoFlow)
end
theorem forDown {t : DA'} {T : Tg} {tb : DS'} {D : Out} {ω : Om} {S : Sto} {i j : Int} (h : ∀ Q' : List W → Sto → Prop, Q' [.int i, .int j, .int (-1)] S → t ω S Q') (hb : -(2 ^ 62) ≤ i ∧ i < 2 ^ 62 ∧ -(2 ^ 62) ≤ j ∧ j < 2 ^ 62) (P : Nat → Om → Sto → Prop) (h0 : P 0 ω S)
    (st : ∀ (k : Nat) ω' S', k < (i - j).toNat → P k ω' S' → ∃ ω2, ζt T (.int (i + (k : Nat) * (-1))) ω' = some ω2 ∧ tb { D with nx := P (k + 1), ct := P (k + 1), bk := D.nx } ω2 S') (fin : ∀ ω' S', P (i - j).toNat ω' S' → D.nx ω' S') : dFor (dRng3 t) T tb D ω S := by
  refine h _ ⟨i, j, rfl, hb, P, h0, fun _ _ _ _ => trivial, fun k w ω' S' hw p => ?_, fun ω' S' p => fin ω' S' (by rw [idown_len] at p; exact p)⟩
  have hk : k < (i - j).toNat := by have := (List.getElem?_eq_some_iff.mp hw).1; rw [idown_len] at this; exact this
  rw [idown_at hk] at hw
  cases hw
  exact st k ω' S' hk p
theorem lcEY {t : DA'} {te : DE'} {T : Tg} {own : List Nat} {ω : Om} {S : Sto} {Q : WQ} {xs : List W} (h : ∀ Q' : List W → Sto → Prop, Q' [.tup xs] S → t ω S Q') (g : W → W) (hl : xs.length ≤ 1000000)
    (hb : ∀ w ∈ ienum xs, ∃ ω2, ζt T w (wp ω own) = some ω2 ∧ ∀ p acc, S p = none → ∀ Qe : WQ, Qe (g w) (up S p (.lst acc)) → te ω2 (up S p (.lst acc)) Qe)
    (q : Q (.lst ((ienum xs).map g)) S) : dLc (ζz t) T dYes te own ω S Q := by
  refine h _ ?_
  exact lcM g (by rw [ienum_len]; exact hl) (fun _ _ _ => trivial) hb q
theorem bls_t (xs : List W) : bls (xs.map fun _ => W.bl true) = some (xs.map fun _ => true) := by
  induction xs with
  | nil => rfl
  | cons x xs ih => simp only [List.map_cons, bls, ih]; rfl
theorem all_t (xs : List W) : ((xs.map fun _ => true).all id) = true := by
  induction xs with
  | nil => rfl
  | cons x xs ih => rw [List.map_cons, List.all_cons, ih]; rfl
def holds (s : So) (t : Pt) (sh : Int) : Bool := match ans s t sh with | .ok _ => true | .error _ => false
def great (s : So) (t : Pt) : Nat → W
  | 0 => .non
  | n + 1 => if holds s t n then .int n else great s t n
abbrev s_Line_greatest : Stmt := inClass (topS 40) 5
abbrev N_Line_greatest : List Str := ["self", "share"]
theorem sc_Line_greatest : FnScope N_Line_greatest ["self"] (defScope s_Line_greatest) := ⟨rfl, rfl, rfl, by decide +kernel, rfl, by decide +kernel, by decide +kernel⟩
theorem st_Line_greatest {x0 : W} : ζg N_Line_greatest [x0] = [some x0, none] := rfl
def td_Line_greatest (c_Line : Addr) : DS' :=
    (ζU (dFor (dRng3 (ζl (dC w_WHOLE_SHARE) (ζl (dUn ζI (dC (.int 1))) (ζl (dUn ζI (dC (.int 1))) ζO)))) (.nm 1)
      (ζW (ζK (dMth c_Line "holds" (sp_Line_holds c_Line) [] (ζB 0) (ζl (ζB 1) ζO))) (ζV (ζB 1)) ζp))
    (ζV (dC .non)))
def sp_Line_greatest (C : Addr) : DSp := fun ws S Q _ => ∃ (s : So) (t : Pt), ws = [lineW C s t] ∧ s.ok ∧ t.ok 3 ∧ Q (great s t 101) S
theorem len_Line_greatest {C ws S Q E} (h : sp_Line_greatest C ws S Q E) : ws.length = 1 := by obtain ⟨_, _, rfl, _⟩ := h; rfl
theorem hd_Line_greatest (c_Line : Addr) (ws S Q E) (h : sp_Line_greatest c_Line ws S Q E) : td_Line_greatest c_Line { nx := fun _ S' => frzQ Q .non S', rt := frzQ Q } ⟨ζg N_Line_greatest ws, XF⟩ S := by
  obtain ⟨s, t, rfl, hs, ht, q⟩ := h
  simp only [st_Line_greatest, td_Line_greatest]
  refine seq_go ?_
  refine forDown (i := 100) (j := -1) (fun Q' h => by (array_get_dec); exact h) (by decide) (fun k ω' S' => ∃ y1, ω' = ⟨[some (lineW c_Line s t), y1], XF⟩ ∧ S' = S ∧ great s t 101 = great s t (101 - k)) ⟨_, rfl, rfl, rfl⟩ ?_ ?_
  · rintro k ω' S' hk ⟨y1, rfl, rfl, hg⟩
    have hk : k < 101 := hk
    refine ⟨_, rfl, ?_⟩
    have ek : W.int (100 + ((k : Nat) : Int) * (-1)) = W.int ((100 - k : Nat) : Int) := by congr 1; omega
    have eg : great s t (101 - k) = if holds s t ((100 - k : Nat) : Int) then .int ((100 - k : Nat) : Int) else great s t (100 - k) := by
      rw [show 101 - k = (100 - k) + 1 by omega]; rfl
    rw [ek]
    refine if_b (holds s t ((100 - k : Nat) : Int)) (fun Q hq => ?_) (fun c => ?_) (fun c => ?_)
    · (array_get_dec)
      simp only [dMth]
      (array_get_dec)
      refine ⟨l_ins (by decide +kernel), s, t, _, rfl, hs, ht, by omega, ?_⟩
      (array_get_dec)
      exact hq
    · (((try unfold ζp); dsimp only))
      rw [eg, if_pos c] at hg
      rw [hg] at q
      exact ret_go (var_go rfl (frzQ.mk q))
    · (((try unfold ζp); dsimp only))
      rw [eg, c] at hg
      exact ⟨_, rfl, rfl, by rw [show 101 - (k + 1) = 100 - k by omega]; exact hg⟩
  · rintro ω' S' ⟨y1, rfl, rfl, hg⟩
    (((try unfold ζp); dsimp only))
    rw [hg] at q
    exact ret_go (frzQ.mk q)
section
variable {P : Program} {w : World} {K : PySem.W.Frag} {mg : Str → Option Value} {base : Heap} {c_Line c_BadTime c_NoGround c_NoPlace c_NoProof c_NoKind c_BadText c_NoDeed c_NoRow c_TooMany c_NotDone c_NoBook c_NoCall c_NoEngine c_NoEngines c_NoLine c_NoJoin c_NoFlow c_Late c_Inside c_Dead c_NoTeam c_NoWearer c_NoBoard c_NoText c_Nothing c_NoSaying : Addr}
theorem ok_Line_greatest {f : Addr} {fd : FuncData} (F : Fun K "greatest" "Line.greatest" s_Line_greatest f fd) (T : Txt K w mg c_Line c_BadTime c_NoGround c_NoPlace c_NoProof c_NoKind c_BadText c_NoDeed c_NoRow c_TooMany c_NotDone c_NoBook c_NoCall c_NoEngine c_NoEngines c_NoLine c_NoJoin c_NoFlow c_Late c_Inside c_Dead c_NoTeam c_NoWearer c_NoBoard c_NoText c_Nothing c_NoSaying) (D_Line_holds : MthD P w K mg base 13 c_Line "holds" (sp_Line_holds c_Line) []) : FnOk P w K mg base CX0 14 f fd ["self"] (uSp K (sp_Line_greatest c_Line)) :=
  Fun.okF F sc_Line_greatest (td_Line_greatest c_Line) (fun cdv A outer s H E hr =>
    (dss_cons (ds_for PassesOwn.never (di_range3 T.z_range (da_cons (de_glob T.g_WHOLE_SHARE) (da_cons (de_neg de_int) (da_cons (de_neg de_int) da_nil)))) (dg_nm (i := 1) sc_Line_greatest.nd)
      (dss_one (ds_if (dt_tru (de_mth T.cl_Line D_Line_holds hr (dv 0) (da_cons (dv 1) da_nil))) (dss_one (ds_ret (dv 1))) dss_nil)))
    (dss_one (ds_ret de_non)))) (fun ws S Q E h => len_Line_greatest h) (hd_Line_greatest c_Line)
end
def sp_are_parts : Nat → DSp
  | 0 => fun _ _ _ _ => False
  | k + 1 => fun ws S Q _ => ∃ t : Pt, ws = [.tup t.ws, .int k] ∧ t.ok k ∧ Q (.bl true) S
theorem len_are_parts {d ws S Q E} (h : sp_are_parts (d + 1) ws S Q E) : ws.length = 2 := by obtain ⟨_, rfl, _⟩ := h; rfl
def PartOk (k : Nat) (w : W) (last : Bool) : Prop := (∃ j : Jn, j.ok ∧ w = j.w ∧ last = false) ∨ (∃ f p : Int, (0 ≤ f ∧ f ≤ 2000) ∧ (0 ≤ p ∧ p ≤ 100) ∧ w = nozW f p ∧ last = true) ∨ ∃ a b : Pt, 0 < k ∧ w = forkW a.ws b.ws ∧ last = true ∧ a.ok (k - 1) ∧ b.ok (k - 1)
theorem Pt.part {k : Nat} {t : Pt} (h : t.ok k) {i : Nat} {w : W} (hw : t.ws[i]? = some w) : PartOk k w (decide (i + 1 = t.ws.length)) := by
  obtain ⟨js, last, lj, e1, e2, j7, jok, hlast⟩ := Pt.split h
  rw [e1] at hw ⊢
  have hi := (List.getElem?_eq_some_iff.mp hw).1
  rw [List.length_append, List.length_map] at hi ⊢
  simp only [List.length_cons, List.length_nil] at hi ⊢
  by_cases lt : i < js.length
  · rw [List.getElem?_append_left (by rw [List.length_map]; exact lt), List.getElem?_map, List.getElem?_eq_getElem lt] at hw
    cases hw
    exact .inl ⟨_, jok _ (List.getElem_mem lt), rfl, decide_eq_false (by omega)⟩
  · have ei : i = js.length := by omega
    subst ei
    rw [List.getElem?_append_right (by rw [List.length_map]; exact Nat.le_refl _), List.length_map, Nat.sub_self] at hw
    cases hw
    rcases hlast with ⟨f, p, hf, hp, rfl, _⟩ | ⟨a, b, d0, rfl, _, ha, hb⟩
    · exact .inr (.inl ⟨f, p, hf, hp, rfl, decide_eq_true rfl⟩)
    · exact .inr (.inr ⟨a, b, d0, rfl, decide_eq_true rfl, ha, hb⟩)
def sp_is_part (k : Nat) : DSp := fun ws S Q _ => ∃ w last, ws = [w, .bl last, .int k] ∧ PartOk k w last ∧ Q (.bl true) S
theorem len_is_part {k ws S Q E} (h : sp_is_part k ws S Q E) : ws.length = 3 := by obtain ⟨_, _, rfl, _⟩ := h; rfl
abbrev s_is_part : Stmt := topS 43
abbrev N_is_part : List Str := ["thing", "is_last", "forks"]
theorem sc_is_part : FnScope N_is_part ["thing", "is_last", "forks"] (defScope s_is_part) := ⟨rfl, rfl, rfl, by decide +kernel, rfl, by decide +kernel, by decide +kernel⟩
theorem st_is_part {x0 x1 x2 : W} : ζg N_is_part [x0, x1, x2] = [some x0, some x1, some x2] := rfl
def td_is_part (d : Nat) : DS' :=
    (ζU (ζW (ζL (ζK (ζu sp_is_tuple_within (ζl (ζB 0) (ζl (dC (.int 3)) (ζl (dC (.int 3)) ζO))))) (ζi (dOp dEq (dOp dIx (ζB 0) (dC (.int 0))) (dC (.str "fork"))))) (ζV (ζj (ζB 1) (ζj (dOp dGt (ζB 2) (dC (.int 0))) (ζj (ζu (sp_are_parts d) (ζl (dOp dIx (ζB 0) (dC (.int 1))) (ζl (dOp ζC (ζB 2) (dC (.int 1))) ζO))) (ζu (sp_are_parts d) (ζl (dOp dIx (ζB 0) (dC (.int 2))) (ζl (dOp ζC (ζB 2) (dC (.int 1))) ζO))))))) ζp)
    (ζV (ζj (ζu sp_is_among (ζl (dC w_JOINS) (ζl (ζB 0) ζO))) (dOp dEq (dOp dEq (dOp dIx (ζB 0) (dC (.int 0))) (dC (.str "nozzle"))) (ζB 1)))))
theorem hd_is_part (d : Nat) (ws S Q E) (h : sp_is_part d ws S Q E) : td_is_part d { nx := fun _ S' => frzQ Q .non S', rt := frzQ Q } ⟨ζg N_is_part ws, XF⟩ S := by
  obtain ⟨w, last, rfl, hp, q⟩ := h
  simp only [st_is_part, td_is_part]
  rcases hp with ⟨j, hj, rfl, rfl⟩ | ⟨f, p, hf, hp, rfl, rfl⟩ | ⟨a, b, h0, rfl, rfl, ha, hb⟩
  · refine seq_go (if_b false (fun Q hq => ?_) (fun e => (nomatch e)) (fun _ => ?_))
    · refine and_go ?_
      cases j <;> (simp only [Jn.w]; (array_get_dec); refine ⟨_, _, _, rfl, rfl, ?_⟩; simp only [tupIn]; (try (array_get_dec)); first | exact hq | exact (show _ ∧ _ ∧ _ from ⟨rfl, rfl, hq⟩))
    · (((try unfold ζp); dsimp only))
      refine ret_go ?_
      (array_get_dec)
      refine among_join hj ?_
      cases j <;> (simp only [Jn.w]; (array_get_dec); exact ⟨rfl, rfl, rfl, rfl, frzQ.mk q⟩)
  · refine seq_go (if_b false (fun Q hq => ?_) (fun e => (nomatch e)) (fun _ => ?_))
    · refine and_go ?_
      simp only [nozW]
      (array_get_dec)
      refine ⟨_, _, _, rfl, rfl, ?_⟩
      simp only [tupIn]
      try (array_get_dec)
      exact (show _ ∧ _ ∧ _ from ⟨rfl, rfl, hq⟩)
    · (((try unfold ζp); dsimp only))
      refine ret_go ?_
      (array_get_dec)
      refine among_noz hf hp ?_
      simp only [nozW]
      (array_get_dec)
      exact ⟨rfl, rfl, rfl, rfl, frzQ.mk q⟩
  · obtain ⟨e, rfl⟩ : ∃ e, d = e + 1 := ⟨d - 1, by omega⟩
    rw [Nat.add_sub_cancel] at ha hb
    have ek : W.int (((e + 1 : Nat) : Int) - 1) = W.int (e : Nat) := by
      congr 1
      omega
    refine seq_go (if_b true (fun Q hq => ?_) (fun _ => ?_) (fun e => (nomatch e)))
    · refine and_go ?_
      simp only [forkW]
      (array_get_dec)
      refine ⟨_, _, _, rfl, rfl, ?_⟩
      simp only [tupIn]
      try (array_get_dec)
      exact (show _ ∧ _ ∧ _ from ⟨rfl, rfl, hq⟩)
    · (((try unfold ζp); dsimp only))
      refine ret_go ?_
      simp only [forkW]
      (array_get_dec)
      rw [decide_eq_true (show (0 : Int) < ((e + 1 : Nat) : Int) by omega)]
      try (array_get_dec)
      rw [ek]
      refine ⟨a, rfl, ha, ?_⟩
      try (array_get_dec)
      exact ⟨b, rfl, hb, frzQ.mk q⟩
section
variable {P : Program} {w : World} {K : PySem.W.Frag} {mg : Str → Option Value} {base : Heap} {c_Line c_BadTime c_NoGround c_NoPlace c_NoProof c_NoKind c_BadText c_NoDeed c_NoRow c_TooMany c_NotDone c_NoBook c_NoCall c_NoEngine c_NoEngines c_NoLine c_NoJoin c_NoFlow c_Late c_Inside c_Dead c_NoTeam c_NoWearer c_NoBoard c_NoText c_Nothing c_NoSaying : Addr}
theorem okS_is_part_0 {f : Addr} {fd : FuncData} (F : Fun K "is_part" "is_part" s_is_part f fd) (T : Txt K w mg c_Line c_BadTime c_NoGround c_NoPlace c_NoProof c_NoKind c_BadText c_NoDeed c_NoRow c_TooMany c_NotDone c_NoBook c_NoCall c_NoEngine c_NoEngines c_NoLine c_NoJoin c_NoFlow c_Late c_Inside c_Dead c_NoTeam c_NoWearer c_NoBoard c_NoText c_Nothing c_NoSaying) (C_is_tuple_within : CalD P w K mg base 1 "is_tuple_within" sp_is_tuple_within) (C_are_parts : CalD P w K mg base 4 "are_parts" (sp_are_parts 0)) (C_is_among : CalD P w K mg base 4 "is_among" sp_is_among) : FnOk P w K mg base CX0 5 f fd ["thing", "is_last", "forks"] (uSp K (sp_is_part 0)) :=
  Fun.okF F sc_is_part (td_is_part 0) (fun cdv A outer s H E hr =>
    (dss_cons (ds_if (PW.pt (dw_and (dt_tru (de_call C_is_tuple_within hr (da_cons (dv 0) (da_cons de_int (da_cons de_int da_nil))))) (dw_and1 (dt_cmp (oc_eq hr) (de_ix (dv 0) de_int) de_str)))) (dss_one (ds_ret (de_and (dv 1) (de_and (de_cmp oc_gt (dv 2) de_int) (de_and (de_call C_are_parts hr (da_cons (de_ix (dv 0) de_int) (da_cons (de_op oa_sub (dv 2) de_int) da_nil))) (de_one (de_call C_are_parts hr (da_cons (de_ix (dv 0) de_int) (da_cons (de_op oa_sub (dv 2) de_int) da_nil))))))))) dss_nil)
    (dss_one (ds_ret (de_and (de_call C_is_among hr (da_cons (de_glob T.g_JOINS) (da_cons (dv 0) da_nil))) (de_one (de_cmp (oc_eq hr) (de_cmp (oc_eq hr) (de_ix (dv 0) de_int) de_str) (dv 1)))))))) (fun ws S Q E h => len_is_part h) (hd_is_part 0)
theorem okS_is_part_1 {f : Addr} {fd : FuncData} (F : Fun K "is_part" "is_part" s_is_part f fd) (T : Txt K w mg c_Line c_BadTime c_NoGround c_NoPlace c_NoProof c_NoKind c_BadText c_NoDeed c_NoRow c_TooMany c_NotDone c_NoBook c_NoCall c_NoEngine c_NoEngines c_NoLine c_NoJoin c_NoFlow c_Late c_Inside c_Dead c_NoTeam c_NoWearer c_NoBoard c_NoText c_Nothing c_NoSaying) (C_is_tuple_within : CalD P w K mg base 1 "is_tuple_within" sp_is_tuple_within) (C_are_parts : CalD P w K mg base 6 "are_parts" (sp_are_parts 1)) (C_is_among : CalD P w K mg base 4 "is_among" sp_is_among) : FnOk P w K mg base CX0 7 f fd ["thing", "is_last", "forks"] (uSp K (sp_is_part 1)) :=
  Fun.okF F sc_is_part (td_is_part 1) (fun cdv A outer s H E hr =>
    (dss_cons (ds_if (PW.pt (dw_and (dt_tru (de_call C_is_tuple_within hr (da_cons (dv 0) (da_cons de_int (da_cons de_int da_nil))))) (dw_and1 (dt_cmp (oc_eq hr) (de_ix (dv 0) de_int) de_str)))) (dss_one (ds_ret (de_and (dv 1) (de_and (de_cmp oc_gt (dv 2) de_int) (de_and (de_call C_are_parts hr (da_cons (de_ix (dv 0) de_int) (da_cons (de_op oa_sub (dv 2) de_int) da_nil))) (de_one (de_call C_are_parts hr (da_cons (de_ix (dv 0) de_int) (da_cons (de_op oa_sub (dv 2) de_int) da_nil))))))))) dss_nil)
    (dss_one (ds_ret (de_and (de_call C_is_among hr (da_cons (de_glob T.g_JOINS) (da_cons (dv 0) da_nil))) (de_one (de_cmp (oc_eq hr) (de_cmp (oc_eq hr) (de_ix (dv 0) de_int) de_str) (dv 1)))))))) (fun ws S Q E h => len_is_part h) (hd_is_part 1)
theorem okS_is_part_2 {f : Addr} {fd : FuncData} (F : Fun K "is_part" "is_part" s_is_part f fd) (T : Txt K w mg c_Line c_BadTime c_NoGround c_NoPlace c_NoProof c_NoKind c_BadText c_NoDeed c_NoRow c_TooMany c_NotDone c_NoBook c_NoCall c_NoEngine c_NoEngines c_NoLine c_NoJoin c_NoFlow c_Late c_Inside c_Dead c_NoTeam c_NoWearer c_NoBoard c_NoText c_Nothing c_NoSaying) (C_is_tuple_within : CalD P w K mg base 1 "is_tuple_within" sp_is_tuple_within) (C_are_parts : CalD P w K mg base 8 "are_parts" (sp_are_parts 2)) (C_is_among : CalD P w K mg base 4 "is_among" sp_is_among) : FnOk P w K mg base CX0 9 f fd ["thing", "is_last", "forks"] (uSp K (sp_is_part 2)) :=
  Fun.okF F sc_is_part (td_is_part 2) (fun cdv A outer s H E hr =>
    (dss_cons (ds_if (PW.pt (dw_and (dt_tru (de_call C_is_tuple_within hr (da_cons (dv 0) (da_cons de_int (da_cons de_int da_nil))))) (dw_and1 (dt_cmp (oc_eq hr) (de_ix (dv 0) de_int) de_str)))) (dss_one (ds_ret (de_and (dv 1) (de_and (de_cmp oc_gt (dv 2) de_int) (de_and (de_call C_are_parts hr (da_cons (de_ix (dv 0) de_int) (da_cons (de_op oa_sub (dv 2) de_int) da_nil))) (de_one (de_call C_are_parts hr (da_cons (de_ix (dv 0) de_int) (da_cons (de_op oa_sub (dv 2) de_int) da_nil))))))))) dss_nil)
    (dss_one (ds_ret (de_and (de_call C_is_among hr (da_cons (de_glob T.g_JOINS) (da_cons (dv 0) da_nil))) (de_one (de_cmp (oc_eq hr) (de_cmp (oc_eq hr) (de_ix (dv 0) de_int) de_str) (dv 1)))))))) (fun ws S Q E h => len_is_part h) (hd_is_part 2)
theorem okS_is_part_3 {f : Addr} {fd : FuncData} (F : Fun K "is_part" "is_part" s_is_part f fd) (T : Txt K w mg c_Line c_BadTime c_NoGround c_NoPlace c_NoProof c_NoKind c_BadText c_NoDeed c_NoRow c_TooMany c_NotDone c_NoBook c_NoCall c_NoEngine c_NoEngines c_NoLine c_NoJoin c_NoFlow c_Late c_Inside c_Dead c_NoTeam c_NoWearer c_NoBoard c_NoText c_Nothing c_NoSaying) (C_is_tuple_within : CalD P w K mg base 1 "is_tuple_within" sp_is_tuple_within) (C_are_parts : CalD P w K mg base 10 "are_parts" (sp_are_parts 3)) (C_is_among : CalD P w K mg base 4 "is_among" sp_is_among) : FnOk P w K mg base CX0 11 f fd ["thing", "is_last", "forks"] (uSp K (sp_is_part 3)) :=
  Fun.okF F sc_is_part (td_is_part 3) (fun cdv A outer s H E hr =>
    (dss_cons (ds_if (PW.pt (dw_and (dt_tru (de_call C_is_tuple_within hr (da_cons (dv 0) (da_cons de_int (da_cons de_int da_nil))))) (dw_and1 (dt_cmp (oc_eq hr) (de_ix (dv 0) de_int) de_str)))) (dss_one (ds_ret (de_and (dv 1) (de_and (de_cmp oc_gt (dv 2) de_int) (de_and (de_call C_are_parts hr (da_cons (de_ix (dv 0) de_int) (da_cons (de_op oa_sub (dv 2) de_int) da_nil))) (de_one (de_call C_are_parts hr (da_cons (de_ix (dv 0) de_int) (da_cons (de_op oa_sub (dv 2) de_int) da_nil))))))))) dss_nil)
    (dss_one (ds_ret (de_and (de_call C_is_among hr (da_cons (de_glob T.g_JOINS) (da_cons (dv 0) da_nil))) (de_one (de_cmp (oc_eq hr) (de_cmp (oc_eq hr) (de_ix (dv 0) de_int) de_str) (dv 1)))))))) (fun ws S Q E h => len_is_part h) (hd_is_part 3)
end
abbrev s_are_parts : Stmt := topS 44
abbrev N_are_parts : List Str := ["thing", "forks", "at", "part"]
theorem sc_are_parts : FnScope N_are_parts ["thing", "forks"] (defScope s_are_parts) := ⟨rfl, rfl, rfl, by decide +kernel, rfl, by decide +kernel, by decide +kernel⟩
theorem st_are_parts {x0 x1 : W} : ζg N_are_parts [x0, x1] = [some x0, some x1, none, none] := rfl
def td_are_parts (d : Nat) : DS' :=
    (ζU (ζW (ζM (ζK (ζu sp_is_tuple_within (ζl (ζB 0) (ζl (dC (.int 1)) (ζl (dC w_MOST_PARTS) ζO)))))) (ζV (dC (.bl false))) ζp)
    (ζV (dCB ζT (ζl (dLc (ζz (ζl (ζB 0) ζO)) (.tp ((.nm 2) :: ((.nm 3) :: []))) dYes (ζu (sp_is_part d) (ζl (ζB 3) (ζl (dOp dEq (dOp ζH (ζB 2) (dC (.int 1))) (dCB ζR (ζl (ζB 0) ζO))) (ζl (ζB 1) ζO)))) [2, 3]) ζO))))
theorem hd_are_parts (d : Nat) (ws S Q E) (h : sp_are_parts (d + 1) ws S Q E) : td_are_parts d { nx := fun _ S' => frzQ Q .non S', rt := frzQ Q } ⟨ζg N_are_parts ws, XF⟩ S := by
  obtain ⟨t, rfl, ht, q⟩ := h
  have wl := Pt.ws_len ht
  simp only [st_are_parts, td_are_parts]
  refine seq_go (if_b false (fun Q hq => ?_) (fun e => (nomatch e)) (fun _ => ?_))
  · (array_get_dec)
    refine ⟨_, _, _, rfl, rfl, ?_⟩
    simp only [tupIn]
    have e : (decide ((1 : Int) ≤ (t.ws.length : Int)) && decide ((t.ws.length : Int) ≤ 8)) = true := by
      rw [decide_eq_true (by omega), decide_eq_true (by omega)]; rfl
    try (array_get_dec)
    rw [e]
    exact hq
  · (((try unfold ζp); dsimp only))
    refine ret_go ?_
    simp only [dCB, ζl, ζO]
    refine lcEY (xs := t.ws) (fun Q' h => by (array_get_dec); exact h) (fun _ => .bl true) (by omega) (fun w hw => ?_) ?_
    · obtain ⟨i, hi⟩ := List.getElem?_of_mem hw
      obtain ⟨y, hy, rfl⟩ := ienum_at' hi
      refine ⟨_, rfl, fun p' acc hp' Qe he => ?_⟩
      (array_get_dec)
      refine ⟨rfl, rfl, y, _, rfl, ?_, he⟩
      rw [weq_int]
      have e : decide (((i : Nat) : Int) + 1 = (t.ws.length : Int)) = decide (i + 1 = t.ws.length) := decide_eq_decide.mpr (by omega)
      rw [e]
      exact Pt.part ht hy
    · simp only [ζT, view_c_lst, bls_t, all_t]
      exact frzQ.mk q
section
variable {P : Program} {w : World} {K : PySem.W.Frag} {mg : Str → Option Value} {base : Heap} {c_Line c_BadTime c_NoGround c_NoPlace c_NoProof c_NoKind c_BadText c_NoDeed c_NoRow c_TooMany c_NotDone c_NoBook c_NoCall c_NoEngine c_NoEngines c_NoLine c_NoJoin c_NoFlow c_Late c_Inside c_Dead c_NoTeam c_NoWearer c_NoBoard c_NoText c_Nothing c_NoSaying : Addr}
theorem okS_are_parts_0 {f : Addr} {fd : FuncData} (F : Fun K "are_parts" "are_parts" s_are_parts f fd) (T : Txt K w mg c_Line c_BadTime c_NoGround c_NoPlace c_NoProof c_NoKind c_BadText c_NoDeed c_NoRow c_TooMany c_NotDone c_NoBook c_NoCall c_NoEngine c_NoEngines c_NoLine c_NoJoin c_NoFlow c_Late c_Inside c_Dead c_NoTeam c_NoWearer c_NoBoard c_NoText c_Nothing c_NoSaying) (C_is_tuple_within : CalD P w K mg base 1 "is_tuple_within" sp_is_tuple_within) (C_is_part : CalD P w K mg base 5 "is_part" (sp_is_part 0)) : FnOk P w K mg base CX0 6 f fd ["thing", "forks"] (uSp K (sp_are_parts 1)) :=
  Fun.okF F sc_are_parts (td_are_parts 0) (fun cdv A outer s H E hr =>
    (dss_cons (ds_if (dt_not (dt_tru (de_call C_is_tuple_within hr (da_cons (dv 0) (da_cons de_int (da_cons (de_glob T.g_MOST_PARTS) da_nil)))))) (dss_one (ds_ret de_bl)) dss_nil)
    (dss_one (ds_ret (de_callB cd_all T.z_all (da_cons (de_lc (own := [("at", 2), ("part", 3)]) sc_are_parts.nd (di_enA T.z_enumerate (da_cons (dv 0) da_nil)) (blkOk_by (own := [("at", 2), ("part", 3)]) (N := N_are_parts) (sc := defScope s_are_parts) (by decide +kernel)) (fun _ _ _ _ _ => (dg_tp (dgs_cons (dg_nm (i := 2) sc_are_parts.nd) (dgs_cons (dg_nm (i := 3) sc_are_parts.nd) dgs_nil)))) (fun _ _ _ _ _ => dts_nil) (fun _ _ _ _ _ => (de_call C_is_part hr (da_cons (dv 3) (da_cons (de_cmp (oc_eq hr) (de_op oa_add (dv 2) de_int) (de_callB cd_len T.z_len (da_cons (dv 0) da_nil))) (da_cons (dv 1) da_nil)))))) da_nil)))))) (fun ws S Q E h => len_are_parts h) (hd_are_parts 0)
theorem okS_are_parts_1 {f : Addr} {fd : FuncData} (F : Fun K "are_parts" "are_parts" s_are_parts f fd) (T : Txt K w mg c_Line c_BadTime c_NoGround c_NoPlace c_NoProof c_NoKind c_BadText c_NoDeed c_NoRow c_TooMany c_NotDone c_NoBook c_NoCall c_NoEngine c_NoEngines c_NoLine c_NoJoin c_NoFlow c_Late c_Inside c_Dead c_NoTeam c_NoWearer c_NoBoard c_NoText c_Nothing c_NoSaying) (C_is_tuple_within : CalD P w K mg base 1 "is_tuple_within" sp_is_tuple_within) (C_is_part : CalD P w K mg base 7 "is_part" (sp_is_part 1)) : FnOk P w K mg base CX0 8 f fd ["thing", "forks"] (uSp K (sp_are_parts 2)) :=
  Fun.okF F sc_are_parts (td_are_parts 1) (fun cdv A outer s H E hr =>
    (dss_cons (ds_if (dt_not (dt_tru (de_call C_is_tuple_within hr (da_cons (dv 0) (da_cons de_int (da_cons (de_glob T.g_MOST_PARTS) da_nil)))))) (dss_one (ds_ret de_bl)) dss_nil)
    (dss_one (ds_ret (de_callB cd_all T.z_all (da_cons (de_lc (own := [("at", 2), ("part", 3)]) sc_are_parts.nd (di_enA T.z_enumerate (da_cons (dv 0) da_nil)) (blkOk_by (own := [("at", 2), ("part", 3)]) (N := N_are_parts) (sc := defScope s_are_parts) (by decide +kernel)) (fun _ _ _ _ _ => (dg_tp (dgs_cons (dg_nm (i := 2) sc_are_parts.nd) (dgs_cons (dg_nm (i := 3) sc_are_parts.nd) dgs_nil)))) (fun _ _ _ _ _ => dts_nil) (fun _ _ _ _ _ => (de_call C_is_part hr (da_cons (dv 3) (da_cons (de_cmp (oc_eq hr) (de_op oa_add (dv 2) de_int) (de_callB cd_len T.z_len (da_cons (dv 0) da_nil))) (da_cons (dv 1) da_nil)))))) da_nil)))))) (fun ws S Q E h => len_are_parts h) (hd_are_parts 1)
theorem okS_are_parts_2 {f : Addr} {fd : FuncData} (F : Fun K "are_parts" "are_parts" s_are_parts f fd) (T : Txt K w mg c_Line c_BadTime c_NoGround c_NoPlace c_NoProof c_NoKind c_BadText c_NoDeed c_NoRow c_TooMany c_NotDone c_NoBook c_NoCall c_NoEngine c_NoEngines c_NoLine c_NoJoin c_NoFlow c_Late c_Inside c_Dead c_NoTeam c_NoWearer c_NoBoard c_NoText c_Nothing c_NoSaying) (C_is_tuple_within : CalD P w K mg base 1 "is_tuple_within" sp_is_tuple_within) (C_is_part : CalD P w K mg base 9 "is_part" (sp_is_part 2)) : FnOk P w K mg base CX0 10 f fd ["thing", "forks"] (uSp K (sp_are_parts 3)) :=
  Fun.okF F sc_are_parts (td_are_parts 2) (fun cdv A outer s H E hr =>
    (dss_cons (ds_if (dt_not (dt_tru (de_call C_is_tuple_within hr (da_cons (dv 0) (da_cons de_int (da_cons (de_glob T.g_MOST_PARTS) da_nil)))))) (dss_one (ds_ret de_bl)) dss_nil)
    (dss_one (ds_ret (de_callB cd_all T.z_all (da_cons (de_lc (own := [("at", 2), ("part", 3)]) sc_are_parts.nd (di_enA T.z_enumerate (da_cons (dv 0) da_nil)) (blkOk_by (own := [("at", 2), ("part", 3)]) (N := N_are_parts) (sc := defScope s_are_parts) (by decide +kernel)) (fun _ _ _ _ _ => (dg_tp (dgs_cons (dg_nm (i := 2) sc_are_parts.nd) (dgs_cons (dg_nm (i := 3) sc_are_parts.nd) dgs_nil)))) (fun _ _ _ _ _ => dts_nil) (fun _ _ _ _ _ => (de_call C_is_part hr (da_cons (dv 3) (da_cons (de_cmp (oc_eq hr) (de_op oa_add (dv 2) de_int) (de_callB cd_len T.z_len (da_cons (dv 0) da_nil))) (da_cons (dv 1) da_nil)))))) da_nil)))))) (fun ws S Q E h => len_are_parts h) (hd_are_parts 2)
end
theorem is_line {C : Addr} (s t) : isIns C (lineW C s t) = true := decide_eq_true rfl
theorem is_line' {C : Addr} (s t) : tyO C (lineW C s t) = true := by unfold tyO; rw [is_line, Bool.or_true]
theorem So.nd (s : So) : ND 1 s.w := by
  cases s <;> exact ND.tup (n := 0) (fun w hw => by
    simp only [List.mem_cons, List.not_mem_nil, or_false] at hw
    rcases hw with rfl | rfl | rfl <;> first | exact ND.str _ | exact ND.int _)
theorem So.okD {s : So} (_ : s.ok) : okD s.w = true := (So.nd s).ok (by decide)
theorem Jn.nd (j : Jn) : ND 1 j.w := by
  cases j <;> exact ND.tup (n := 0) (fun w hw => by
    simp only [List.mem_cons, List.not_mem_nil, or_false] at hw
    rcases hw with rfl | rfl | rfl <;> first | exact ND.str _ | exact ND.int _)
theorem Pt.nd {t : Pt} : ∀ {d : Nat}, t.ok d → ∀ w ∈ t.ws, ND (2 * d + 1) w := by
  induction t with
  | noz js f p =>
    intro d h w hw
    rcases List.mem_append.mp hw with hw | hw
    · obtain ⟨j, _, rfl⟩ := List.mem_map.mp hw
      exact (Jn.nd j).mono (by omega)
    · rw [List.mem_singleton.mp hw]
      exact (ND.tup (n := 0) (fun w hw => by
        simp only [List.mem_cons, List.not_mem_nil, or_false] at hw
        rcases hw with rfl | rfl | rfl <;> first | exact ND.str _ | exact ND.int _) : ND 1 (nozW f p)).mono (by omega)
  | fork js a b iha ihb =>
    rintro d ⟨h0, h1, _, h3, h4⟩ w hw
    obtain ⟨e, rfl⟩ : ∃ e, d = e + 1 := ⟨d - 1, by omega⟩
    rw [Nat.add_sub_cancel] at h3 h4
    rcases List.mem_append.mp hw with hw | hw
    · obtain ⟨j, _, rfl⟩ := List.mem_map.mp hw
      exact (Jn.nd j).mono (by omega)
    · rw [List.mem_singleton.mp hw]
      exact ND.tup (n := 2 * e + 2) (fun w hw => by
        simp only [List.mem_cons, List.not_mem_nil, or_false] at hw
        rcases hw with rfl | rfl | rfl
        · exact ND.str _
        · exact ND.tup (n := 2 * e + 1) (fun w hw => iha h3 w hw)
        · exact ND.tup (n := 2 * e + 1) (fun w hw => ihb h4 w hw))
theorem Pt.okD {t : Pt} (h : t.ok 3) : okD (.tup t.ws) = true := ND.ok (n := 8) (ND.tup fun w hw => Pt.nd h w hw) (by decide)
abbrev s_Line__init_ : Stmt := inClass (topS 40) 0
abbrev N_Line__init_ : List Str := ["self", "source", "parts", "at", "part"]
theorem sc_Line__init_ : FnScope N_Line__init_ ["self", "source", "parts"] (defScope s_Line__init_) := ⟨rfl, rfl, rfl, by decide +kernel, rfl, by decide +kernel, by decide +kernel⟩
theorem st_Line__init_ {x0 x1 x2 : W} : ζg N_Line__init_ [x0, x1, x2] = [some x0, some x1, some x2, none, none] := rfl
def td_Line__init_ (c_Line : Addr) : DS' :=
    (ζU (ζW (ζM (ζK (ζu sp_is_among (ζl (dC w_SOURCES) (ζl (ζB 1) ζO))))) (fun _ _ _ => False) ζp)
    (ζU (ζW (ζM (ζK (ζu sp_is_tuple_within (ζl (ζB 2) (ζl (dC (.int 1)) (ζl (dC w_MOST_PARTS) ζO)))))) (fun _ _ _ => False) ζp)
    (ζU (dFor (ζz (ζl (ζB 2) ζO)) (.tp ((.nm 3) :: ((.nm 4) :: [])))
      (ζW (ζM (ζK (ζu (sp_is_part 3) (ζl (ζB 4) (ζl (dOp dEq (dOp ζH (ζB 3) (dC (.int 1))) (dCB ζR (ζl (ζB 2) ζO))) (ζl (dC w_MOST_FORKS) ζO)))))) (fun _ _ _ => False) ζp))
    (ζU (ζw c_Line "source" (ζB 0) (ζB 1))
    (ζw c_Line "parts" (ζB 0) (ζB 2))))))
def sp_Line__init_ (c_Line : Addr) : DSp := fun ws S Q _ => ∃ x dx s t, ws = [.ref x, So.w s, .tup (Pt.ws t)] ∧ S x = some (.ins c_Line dx []) ∧ s.ok ∧ t.ok 3 ∧ Q .non (up S x (.ins c_Line dx [("source", s.w), ("parts", .tup t.ws)]))
theorem len_Line__init_ {c_Line ws S Q E} (h : sp_Line__init_ c_Line ws S Q E) : ws.length = 3 := by obtain ⟨x, dx, s, t, rfl, _⟩ := h; rfl
theorem hd_Line__init_ (c_Line) (ws S Q E) (h : sp_Line__init_ c_Line ws S Q E) : td_Line__init_ c_Line { nx := fun _ S' => frzQ Q .non S', rt := frzQ Q } ⟨ζg N_Line__init_ ws, XF⟩ S := by
  obtain ⟨x, dx, s, t, rfl, hx, hs, ht, q⟩ := h
  have wl := Pt.ws_len ht
  simp only [st_Line__init_, td_Line__init_]
  refine seq_go (if_b false (fun Q hq => ?_) (fun e => (nomatch e)) (fun _ => ?_))
  · (array_get_dec)
    refine among_src hs ?_
    (array_get_dec)
    exact hq
  (((try unfold ζp); dsimp only; refine seq_go ?_))
  refine if_b false (fun Q hq => ?_) (fun e => (nomatch e)) (fun _ => ?_)
  · (array_get_dec)
    refine ⟨_, _, _, rfl, rfl, ?_⟩
    simp only [tupIn]
    have e : (decide ((1 : Int) ≤ (t.ws.length : Int)) && decide ((t.ws.length : Int) ≤ 8)) = true := by
      rw [decide_eq_true (by omega), decide_eq_true (by omega)]; rfl
    try (array_get_dec)
    rw [e]
    exact hq
  (((try unfold ζp); dsimp only; refine seq_go ?_))
  refine forE (xs := t.ws) (fun Q' h => by (array_get_dec); exact h) (fun i ω' S' => ∃ y3 y4, ω' = ⟨[some (.ref x), some s.w, some (.tup t.ws), y3, y4], XF⟩ ∧ S' = S) ⟨_, _, rfl, rfl⟩ ?_ ?_
  · rintro i w ω' S' hw ⟨y3, y4, rfl, rfl⟩
    refine ⟨_, rfl, ?_⟩
    refine if_b false (fun Q hq => ?_) (fun e => (nomatch e)) (fun _ => ?_)
    · (array_get_dec)
      refine ⟨rfl, rfl, w, _, rfl, ?_, ?_⟩
      · rw [weq_int]
        have e : decide (((i : Nat) : Int) + 1 = (t.ws.length : Int)) = decide (i + 1 = t.ws.length) := decide_eq_decide.mpr (by omega)
        rw [e]
        exact Pt.part ht hw
      · (array_get_dec)
        exact hq
    · (((try unfold ζp); dsimp only))
      exact ⟨_, _, rfl, rfl⟩
  · rintro ω' S' ⟨y3, y4, rfl, rfl⟩
    (((try unfold ζp); dsimp only; refine seq_go ?_))
    simp only [ζw]
    (array_get_dec)
    simp only [hx]
    refine ⟨trivial, by decide, ?_⟩
    simp only [wputF, up_same, up_up]
    refine ⟨trivial, by simp, ?_⟩
    rw [if_neg (by decide)]
    exact frzQ.mk q
section
variable {P : Program} {w : World} {K : PySem.W.Frag} {mg : Str → Option Value} {base : Heap} {c_Line c_BadTime c_NoGround c_NoPlace c_NoProof c_NoKind c_BadText c_NoDeed c_NoRow c_TooMany c_NotDone c_NoBook c_NoCall c_NoEngine c_NoEngines c_NoLine c_NoJoin c_NoFlow c_Late c_Inside c_Dead c_NoTeam c_NoWearer c_NoBoard c_NoText c_Nothing c_NoSaying : Addr}
theorem ok_Line__init_ {f : Addr} {fd : FuncData} (F : Fun K "__init__" "Line.__init__" s_Line__init_ f fd) (T : Txt K w mg c_Line c_BadTime c_NoGround c_NoPlace c_NoProof c_NoKind c_BadText c_NoDeed c_NoRow c_TooMany c_NotDone c_NoBook c_NoCall c_NoEngine c_NoEngines c_NoLine c_NoJoin c_NoFlow c_Late c_Inside c_Dead c_NoTeam c_NoWearer c_NoBoard c_NoText c_Nothing c_NoSaying) (C_is_among : CalD P w K mg base 4 "is_among" sp_is_among) (C_is_tuple_within : CalD P w K mg base 1 "is_tuple_within" sp_is_tuple_within) (C_is_part : CalD P w K mg base 11 "is_part" (sp_is_part 3)) : FnOk P w K mg base CX0 12 f fd ["self", "source", "parts"] (uSp K (sp_Line__init_ c_Line)) :=
  Fun.okF F sc_Line__init_ (td_Line__init_ c_Line) (fun cdv A outer s H E hr =>
    (dss_cons (ds_if (dt_not (dt_tru (de_call C_is_among hr (da_cons (de_glob T.g_SOURCES) (da_cons (dv 1) da_nil))))) (dss_one ds_never) dss_nil)
    (dss_cons (ds_if (dt_not (dt_tru (de_call C_is_tuple_within hr (da_cons (dv 2) (da_cons de_int (da_cons (de_glob T.g_MOST_PARTS) da_nil)))))) (dss_one ds_never) dss_nil)
    (dss_cons (ds_for PassesOwn.never (di_enA T.z_enumerate (da_cons (dv 2) da_nil)) (dg_tp (dgs_cons (dg_nm (i := 3) sc_Line__init_.nd) (dgs_cons (dg_nm (i := 4) sc_Line__init_.nd) dgs_nil)))
      (dss_one (ds_if (dt_not (dt_tru (de_call C_is_part hr (da_cons (dv 4) (da_cons (de_cmp (oc_eq hr) (de_op oa_add (dv 3) de_int) (de_callB cd_len T.z_len (da_cons (dv 2) da_nil))) (da_cons (de_glob T.g_MOST_FORKS) da_nil)))))) (dss_one ds_never) dss_nil)))
    (dss_cons (ds_fld T.cl_Line T.n_Line_source (dv 0) (dv 1))
    (dss_one (ds_fld T.cl_Line T.n_Line_parts (dv 0) (dv 2)))))))) (fun ws S Q E h => len_Line__init_ h) (hd_Line__init_ c_Line)
end
abbrev s_law_take : Stmt := topS 53
abbrev N_law_take : List Str := ["_law_bag_here", "_law_many", "_law_digit"]
theorem sc_law_take : FnScope N_law_take ["_law_bag_here", "_law_many"] (defScope s_law_take) := ⟨rfl, rfl, rfl, by decide +kernel, rfl, by decide +kernel, by decide +kernel⟩
theorem st_law_take {x0 x1 : W} : ζg N_law_take [x0, x1] = [some x0, some x1, none] := rfl
def td_law_take : DS' :=
    (ζU (ζW (ζi (dOp dGt (dOp dIx (ζB 0) (dC (.int 0))) (dC (.int 0)))) (ζU (ζY 2 (dOp ζF (dOp dIx (ζB 0) (dC (.int 0))) (ζB 1)))
      (ζU (ζf (ζB 0) (dC (.int 0)) (dOp ζE (dOp dIx (ζB 0) (dC (.int 0))) (ζB 1)))
      (ζV (ζB 2)))) ζp)
    (ζU (ζf (ζB 0) (dC (.int 1)) (dOp ζF (dOp ζH (dOp ζD (dOp dIx (ζB 0) (dC (.int 1))) (dC (.int 48271))) (dC (.int 11))) (dC (.int 2147483647))))
    (ζV (dOp ζF (dOp ζF (dOp ζG (dOp ζE (dOp dIx (ζB 0) (dC (.int 1))) (dC (.int 8))) (dC (.int 3))) (dC (.int 2147483629))) (ζB 1)))))
def sp_law_take : DSp := fun ws S Q _ => ∃ (b : Addr) (m : Int), ws = [.ref b, .int m] ∧ Bg S b ∧ 0 < m ∧ m < 1000000 ∧ ∀ r, 0 ≤ r → r < m → aft S b fun S' => Q (.int r) S'
theorem len_law_take {ws S Q E} (h : sp_law_take ws S Q E) : ws.length = 2 := by obtain ⟨b, m, rfl, _⟩ := h; rfl
theorem hd_law_take (ws S Q E) (h : sp_law_take ws S Q E) : td_law_take { nx := fun _ S' => frzQ Q .non S', rt := frzQ Q } ⟨ζg N_law_take ws, XF⟩ S := by
  obtain ⟨b, m, rfl, ⟨g, s, hb, ok⟩, m0, m1, q⟩ := h
  simp only [st_law_take, td_law_take]
  (array_get_dec)
  simp only [view_ref hb, atI_0, atI_1]
  try (array_get_dec)
  refine bl_cases (fun e => ?_) (fun e => ?_)
  · have eg : (0 : Int) < g := of_decide_eq_true e
    refine ⟨m0, ⟨m0, by omega⟩, ?_⟩
    simp only [hb]
    have e1 : ixN [W.int g, W.int s].length 0 = some 0 := rfl
    simp only [e1]
    try (array_get_dec)
    exact frzQ.mk (q _ (Int.emod_nonneg _ (by omega)) (Int.emod_lt_of_pos _ m0) _ _ ⟨Int.ediv_nonneg ok.g0 (by omega), ok.s0, ok.s1⟩)
  · refine ⟨.inr ⟨by omega, by omega⟩, (by decide), ?_⟩
    simp only [hb]
    have e1 : ixN [W.int g, W.int s].length 1 = some 1 := rfl
    simp only [e1]
    try (array_get_dec)
    simp only [view_ref up_same, atI_1]
    try (array_get_dec)
    have h0 : 0 ≤ (s * 48271 + 11) % 2147483647 := Int.emod_nonneg _ (by decide)
    have h1 : (s * 48271 + 11) % 2147483647 < 2147483647 := Int.emod_lt_of_pos _ (by decide)
    refine ⟨⟨by decide, by decide⟩, ⟨by decide, by decide, by omega⟩, by decide, m0, ?_⟩
    exact frzQ.mk (q _ (Int.emod_nonneg _ (by omega)) (Int.emod_lt_of_pos _ m0) _ _ ⟨ok.g0, h0, by omega⟩)
section
variable {P : Program} {w : World} {K : PySem.W.Frag} {mg : Str → Option Value} {base : Heap} {c_Line c_BadTime c_NoGround c_NoPlace c_NoProof c_NoKind c_BadText c_NoDeed c_NoRow c_TooMany c_NotDone c_NoBook c_NoCall c_NoEngine c_NoEngines c_NoLine c_NoJoin c_NoFlow c_Late c_Inside c_Dead c_NoTeam c_NoWearer c_NoBoard c_NoText c_Nothing c_NoSaying : Addr}
theorem ok_law_take {f : Addr} {fd : FuncData} (F : Fun K "_law_take" "_law_take" s_law_take f fd) (T : Txt K w mg c_Line c_BadTime c_NoGround c_NoPlace c_NoProof c_NoKind c_BadText c_NoDeed c_NoRow c_TooMany c_NotDone c_NoBook c_NoCall c_NoEngine c_NoEngines c_NoLine c_NoJoin c_NoFlow c_Late c_Inside c_Dead c_NoTeam c_NoWearer c_NoBoard c_NoText c_Nothing c_NoSaying) : FnOk P w K mg base CX0 1 f fd ["_law_bag_here", "_law_many"] (uSp K (sp_law_take)) :=
  Fun.okF F sc_law_take (td_law_take) (fun cdv A outer s H E hr =>
    (dss_cons (ds_if (dt_cmp oc_gt (de_ix (dv 0) de_int) de_int) (dss_cons (ds_set (i := 2) sc_law_take.nd (de_op oa_mod (de_ix (dv 0) de_int) (dv 1)))
      (dss_cons (ds_setIx (dv 0) de_int (de_op oa_div (de_ix (dv 0) de_int) (dv 1)))
      (dss_one (ds_ret (dv 2))))) dss_nil)
    (dss_cons (ds_setIx (dv 0) de_int (de_op oa_mod (de_op oa_add (de_op oa_mul (de_ix (dv 0) de_int) de_int) de_int) de_int))
    (dss_one (ds_ret (de_op oa_mod (de_op oa_mod (de_op oa_pow (de_op oa_div (de_ix (dv 0) de_int) de_int) de_int) de_int) (dv 1))))))) (fun ws S Q E h => len_law_take h) (hd_law_take)
end
abbrev s_law_bag : Stmt := topS 52
abbrev N_law_bag : List Str := ["_law_script", "_law_at", "_law_cell", "_law_great", "_law_primes"]
theorem sc_law_bag : FnScope N_law_bag ["_law_script", "_law_at"] (defScope s_law_bag) := ⟨rfl, rfl, rfl, by decide +kernel, rfl, by decide +kernel, by decide +kernel⟩
theorem st_law_bag {x0 x1 : W} : ζg N_law_bag [x0, x1] = [some x0, some x1, none, none, none] := rfl
def td_law_bag : DS' :=
    (ζU (ζY 2 (dC (.int 0)))
    (ζU (ζW (ζi (dOp dGt (dCB ζR (ζl (ζB 0) ζO)) (dC (.int 0)))) (ζY 2 (dOp dIx (ζB 0) (dOp ζF (ζB 1) (dCB ζR (ζl (ζB 0) ζO))))) ζp)
    (ζU (ζY 3 (dC (.int 0)))
    (ζU (ζW (ζL (ζi (dOp dGe (dCB ζS (ζl (ζB 2) ζO)) (dOp ζG (dC (.int 10)) (dC (.int 18))))) (ζi (dOp dLt (ζB 1) (dCB ζR (ζl (ζB 0) ζO))))) (ζY 3 (dCB ζS (ζl (ζB 2) ζO))) ζp)
    (ζU (ζY 4 (ζP (ζl (dC (.int 2147483629)) (ζl (dC (.int 2147483587)) (ζl (dC (.int 2147483579)) (ζl (dC (.int 2147483563)) (ζl (dC (.int 2147483549)) (ζl (dC (.int 2147483543)) (ζl (dC (.int 2147483497)) (ζl (dC (.int 2147483489)) ζO))))))))))
    (ζV (ζm (ζl (ζB 3) (ζl (dOp ζF (dOp ζG (dOp ζH (dOp ζH (dOp ζF (ζB 2) (dC (.int 2147483647))) (dOp ζD (dC (.int 104729)) (ζB 1))) (dC (.int 7))) (dC (.int 5))) (dOp dIx (ζB 4) (dOp ζF (ζB 1) (dC (.int 8))))) ζO)))))))))
def sp_law_bag : DSp := fun ws S Q _ => ∃ (ns : List Int) (m : Int), ws = [.scr ns, .int m] ∧ 0 ≤ m ∧ m < 1000000 ∧ ∀ p, S p = none → aft S p fun S' => Q (.ref p) S'
theorem len_law_bag {ws S Q E} (h : sp_law_bag ws S Q E) : ws.length = 2 := by obtain ⟨b, m, rfl, _⟩ := h; rfl
theorem hd_law_bag (ws S Q E) (h : sp_law_bag ws S Q E) : td_law_bag { nx := fun _ S' => frzQ Q .non S', rt := frzQ Q } ⟨ζg N_law_bag ws, XF⟩ S := by
  obtain ⟨ns, m, rfl, m0, m1, q⟩ := h
  have nat8 : (m % 8).toNat < 8 := by omega
  obtain ⟨pr, hpr, pr0, pr1⟩ := primes_at _ nat8
  have hat : L2.atI (primes.map W.int) (m % 8) = some (.int pr) := by rw [atI_toNat (by omega) (by rw [List.length_map]; exact nat8), List.getElem?_map, hpr]; rfl
  have hcell : ∀ x : Int, (x % 2147483647 + 104729 * m + 7).natAbs < 2 ^ 64 := fun x => by omega
  have cp : CPow 10 18 := ⟨by decide, by decide, by omega⟩
  have cm : CMul 104729 m := .inl ⟨by omega, by omega⟩
  simp only [st_law_bag, td_law_bag]
  refine seq_go (set_go (.int 0) S (fun _ h => h) ?_)
  (((try unfold ζp); dsimp only; refine seq_go ?_))
  refine ifset_go (decide ((0 : Int) < (ns.length : Int))) (fun w => ∃ c : Int, w = .int c) (fun Q h => by (array_get_dec); exact h) (fun e Q h => ?_) ⟨_, rfl, 0, rfl⟩ ?_
  · have hl : (0 : Int) < (ns.length : Int) := of_decide_eq_true e
    have h0 : 0 ≤ m % (ns.length : Int) := Int.emod_nonneg _ (by omega)
    have h1 : m % (ns.length : Int) < (ns.length : Int) := Int.emod_lt_of_pos _ hl
    have ha : L2.atI ns (m % (ns.length : Int)) = some (ns[(m % (ns.length : Int)).toNat]'(by omega)) := by rw [atI_toNat h0 (by omega)]; exact List.getElem?_eq_getElem (by omega)
    (array_get_dec)
    refine ⟨hl, ?_⟩
    simp only [ha]
    exact h _ ⟨_, rfl⟩
  rintro _ ⟨c, rfl⟩
  (((try unfold ζp); dsimp only; refine seq_go ?_))
  refine set_go (.int 0) S (fun _ h => h) ?_
  (((try unfold ζp); dsimp only; refine seq_go ?_))
  refine ifset_go (decide ((if c < 0 then -c else c) ≥ 10 ^ Int.toNat 18) && decide (m < (ns.length : Int))) (fun w => ∃ g : Int, w = .int g ∧ 0 ≤ g) (fun Q h => ?_) (fun e Q h => ?_) ⟨_, rfl, 0, rfl, by decide⟩ ?_
  · refine and_b (a := decide ((if c < 0 then -c else c) ≥ 10 ^ Int.toNat 18)) (b := decide (m < (ns.length : Int))) (fun Q h => ?_) (fun _ Q h => ?_) h
    · (array_get_dec)
      refine ⟨cp, ?_⟩
      exact h
    · (array_get_dec)
      exact h
  · (array_get_dec)
    exact h _ ⟨_, rfl, by split <;> omega⟩
  rintro _ ⟨g, rfl, hg⟩
  (((try unfold ζp); dsimp only; refine seq_go ?_))
  refine set_go (.tup (primes.map W.int)) S (fun Q h => ?_) ?_
  · (array_get_dec)
    exact ⟨by decide, h⟩
  (((try unfold ζp); dsimp only))
  refine ret_go ?_
  (array_get_dec)
  simp only [hat]
  refine ⟨by decide, cm, ⟨by decide, by decide, hcell c⟩, by decide, pr0, by decide, fun p hp => ?_⟩
  exact frzQ.mk (q p hp _ _ ⟨hg, Int.emod_nonneg _ (by omega), Int.lt_trans (Int.emod_lt_of_pos _ pr0) pr1⟩)
section
variable {P : Program} {w : World} {K : PySem.W.Frag} {mg : Str → Option Value} {base : Heap} {c_Line c_BadTime c_NoGround c_NoPlace c_NoProof c_NoKind c_BadText c_NoDeed c_NoRow c_TooMany c_NotDone c_NoBook c_NoCall c_NoEngine c_NoEngines c_NoLine c_NoJoin c_NoFlow c_Late c_Inside c_Dead c_NoTeam c_NoWearer c_NoBoard c_NoText c_Nothing c_NoSaying : Addr}
theorem ok_law_bag {f : Addr} {fd : FuncData} (F : Fun K "_law_bag" "_law_bag" s_law_bag f fd) (T : Txt K w mg c_Line c_BadTime c_NoGround c_NoPlace c_NoProof c_NoKind c_BadText c_NoDeed c_NoRow c_TooMany c_NotDone c_NoBook c_NoCall c_NoEngine c_NoEngines c_NoLine c_NoJoin c_NoFlow c_Late c_Inside c_Dead c_NoTeam c_NoWearer c_NoBoard c_NoText c_Nothing c_NoSaying) : FnOk P w K mg base CX0 1 f fd ["_law_script", "_law_at"] (uSp K (sp_law_bag)) :=
  Fun.okF F sc_law_bag (td_law_bag) (fun cdv A outer s H E hr =>
    (dss_cons (ds_set (i := 2) sc_law_bag.nd de_int)
    (dss_cons (ds_if (dt_cmp oc_gt (de_callB cd_len T.z_len (da_cons (dv 0) da_nil)) de_int) (dss_one (ds_set (i := 2) sc_law_bag.nd (de_ix (dv 0) (de_op oa_mod (dv 1) (de_callB cd_len T.z_len (da_cons (dv 0) da_nil)))))) dss_nil)
    (dss_cons (ds_set (i := 3) sc_law_bag.nd de_int)
    (dss_cons (ds_if (PW.pt (dw_and (dt_cmp oc_ge (de_callB cd_abs T.z_abs (da_cons (dv 2) da_nil)) (de_op oa_pow de_int de_int)) (dw_and1 (dt_cmp oc_lt (dv 1) (de_callB cd_len T.z_len (da_cons (dv 0) da_nil)))))) (dss_one (ds_set (i := 3) sc_law_bag.nd (de_callB cd_abs T.z_abs (da_cons (dv 2) da_nil)))) dss_nil)
    (dss_cons (ds_set (i := 4) sc_law_bag.nd (de_tup (da_cons de_int (da_cons de_int (da_cons de_int (da_cons de_int (da_cons de_int (da_cons de_int (da_cons de_int (da_cons de_int da_nil))))))))))
    (dss_one (ds_ret (de_lstM (da_cons (dv 3) (da_cons (de_op oa_mod (de_op oa_pow (de_op oa_add (de_op oa_add (de_op oa_mod (dv 2) de_int) (de_op oa_mul de_int (dv 1))) de_int) de_int) (de_ix (dv 4) (de_op oa_mod (dv 1) de_int))) da_nil))))))))))) (fun ws S Q E h => len_law_bag h) (hd_law_bag)
end
theorem pick2 (a c : Int) {r : Int} (h0 : 0 ≤ r) (h1 : r < 2) : ∃ m, L2.atI [W.int a, W.int c] r = some (.int m) ∧ (m = a ∨ m = c) := by
  rcases (by omega : r = 0 ∨ r = 1) with rfl | rfl
  · exact ⟨a, rfl, .inl rfl⟩
  · exact ⟨c, rfl, .inr rfl⟩
theorem pick3 (a c e : Int) {r : Int} (h0 : 0 ≤ r) (h1 : r < 3) : ∃ m, L2.atI [W.int a, W.int c, W.int e] r = some (.int m) ∧ (m = a ∨ m = c ∨ m = e) := by
  rcases (by omega : r = 0 ∨ r = 1 ∨ r = 2) with rfl | rfl | rfl
  · exact ⟨a, rfl, .inl rfl⟩
  · exact ⟨c, rfl, .inr (.inl rfl)⟩
  · exact ⟨e, rfl, .inr (.inr rfl)⟩
abbrev s_law_source : Stmt := topS 55
abbrev N_law_source : List Str := ["_law_bag_here"]
theorem sc_law_source : FnScope N_law_source ["_law_bag_here"] (defScope s_law_source) := ⟨rfl, rfl, rfl, by decide +kernel, rfl, by decide +kernel, by decide +kernel⟩
theorem st_law_source {x0 : W} : ζg N_law_source [x0] = [some x0] := rfl
def td_law_source : DS' :=
    (ζU (ζW (ζi (dOp dEq (ζu sp_law_take (ζl (ζB 0) (ζl (dC (.int 4)) ζO))) (dC (.int 0)))) (ζV (ζP (ζl (dC (.str "pond")) (ζl (ζu sp_law_take (ζl (ζB 0) (ζl (dC (.int 9)) ζO))) ζO)))) ζp)
    (ζV (ζP (ζl (dC (.str "hydrant")) (ζl (ζu sp_law_take (ζl (ζB 0) (ζl (dC (.int 151)) ζO))) (ζl (dOp ζH (dC (.int 1)) (ζu sp_law_take (ζl (ζB 0) (ζl (dOp dIx (ζP (ζl (dC (.int 5000)) (ζl (dC (.int 1500)) ζO))) (ζu sp_law_take (ζl (ζB 0) (ζl (dC (.int 2)) ζO)))) ζO)))) ζO))))))
def sp_law_source : DSp := fun ws S Q _ => ∃ (b : Addr), ws = [.ref b] ∧ Bg S b ∧ ∀ s : So, s.ok → aft S b (Q s.w)
theorem len_law_source {ws S Q E} (h : sp_law_source ws S Q E) : ws.length = 1 := by obtain ⟨b, rfl, _⟩ := h; rfl
theorem hd_law_source (ws S Q E) (h : sp_law_source ws S Q E) : td_law_source { nx := fun _ S' => frzQ Q .non S', rt := frzQ Q } ⟨ζg N_law_source ws, XF⟩ S := by
  obtain ⟨b, rfl, hb, q⟩ := h
  simp only [st_law_source, td_law_source]
  refine seq_go (if_N (fun _ S1 => ∃ g s, BagOk g s ∧ S1 = up S b (bagO g s)) (fun Q hq => ?_) ?_)
  · (array_get_dec)
    refine ⟨b, 4, rfl, hb, by decide, by decide, fun r r0 r1 g s ok => ?_⟩
    refine ⟨rfl, rfl, ?_⟩
    exact hq _ _ ⟨g, s, ok, rfl⟩
  rintro c _ ⟨g, s, ok, rfl⟩
  cases c
  · rw [if_neg Bool.false_ne_true]
    (((try unfold ζp); dsimp only))
    refine ret_go ?_
    (array_get_dec)
    refine ⟨b, 151, rfl, Bg.up ok, by decide, by decide, fun r r0 r1 g s ok => ?_⟩
    rw [up_up]
    refine ⟨by decide, b, 2, rfl, Bg.up ok, by decide, by decide, fun t t0 t1 g s ok => ?_⟩
    rw [up_up]
    obtain ⟨m, hm, mm⟩ := pick2 5000 1500 t0 t1
    simp only [hm]
    refine ⟨b, m, rfl, Bg.up ok, by omega, by omega, fun u u0 u1 g s ok => ?_⟩
    rw [up_up]
    refine ⟨(by decide : (0 + 1 + 1 + 1 : Nat) ≤ 1000000), ?_⟩
    exact frzQ.mk (q (.hyd r (1 + u)) ⟨by omega, by omega⟩ g s ok)
  · rw [if_pos rfl]
    refine ret_go ?_
    (array_get_dec)
    refine ⟨b, 9, rfl, Bg.up ok, by decide, by decide, fun r r0 r1 g s ok => ?_⟩
    rw [up_up]
    refine ⟨by decide, ?_⟩
    exact frzQ.mk (q (.pond r) ⟨by omega, by omega⟩ g s ok)
section
variable {P : Program} {w : World} {K : PySem.W.Frag} {mg : Str → Option Value} {base : Heap} {c_Line c_BadTime c_NoGround c_NoPlace c_NoProof c_NoKind c_BadText c_NoDeed c_NoRow c_TooMany c_NotDone c_NoBook c_NoCall c_NoEngine c_NoEngines c_NoLine c_NoJoin c_NoFlow c_Late c_Inside c_Dead c_NoTeam c_NoWearer c_NoBoard c_NoText c_Nothing c_NoSaying : Addr}
theorem ok_law_source {f : Addr} {fd : FuncData} (F : Fun K "_law_source" "_law_source" s_law_source f fd) (T : Txt K w mg c_Line c_BadTime c_NoGround c_NoPlace c_NoProof c_NoKind c_BadText c_NoDeed c_NoRow c_TooMany c_NotDone c_NoBook c_NoCall c_NoEngine c_NoEngines c_NoLine c_NoJoin c_NoFlow c_Late c_Inside c_Dead c_NoTeam c_NoWearer c_NoBoard c_NoText c_Nothing c_NoSaying) (C_law_take : CalD P w K mg base 1 "_law_take" sp_law_take) : FnOk P w K mg base CX0 2 f fd ["_law_bag_here"] (uSp K (sp_law_source)) :=
  Fun.okF F sc_law_source (td_law_source) (fun cdv A outer s H E hr =>
    (dss_cons (ds_if (dt_cmp (oc_eq hr) (de_call C_law_take hr (da_cons (dv 0) (da_cons de_int da_nil))) de_int) (dss_one (ds_ret (de_tup (da_cons de_str (da_cons (de_call C_law_take hr (da_cons (dv 0) (da_cons de_int da_nil))) da_nil))))) dss_nil)
    (dss_one (ds_ret (de_tup (da_cons de_str (da_cons (de_call C_law_take hr (da_cons (dv 0) (da_cons de_int da_nil))) (da_cons (de_op oa_add de_int (de_call C_law_take hr (da_cons (dv 0) (da_cons (de_ix (de_tup (da_cons de_int (da_cons de_int da_nil))) (de_call C_law_take hr (da_cons (dv 0) (da_cons de_int da_nil)))) da_nil)))) da_nil)))))))) (fun ws S Q E h => len_law_source h) (hd_law_source)
end
theorem appD_go {i : Nat} {te : DE'} {ω : Om} {S : Sto} {D : Out} {a : Addr} {xs : List W} (N : W → Sto → Prop) (hi : ω.s[i]? = some (some (.ref a))) (hS : S a = some (.lst xs)) (he : ∀ Q : WQ, (∀ w S1, N w S1 → Q w S1) → te ω S Q) (k : ∀ w S1, N w S1 → S1 a = some (.lst xs) ∧ xs.length < 1000000 ∧ D.nx ω (up S1 a (.lst (xs ++ [w])))) : ζq (dBM ξa (ζB i) (ζl te ζO)) D ω S := by
  refine drop_go (bm_go (var_go hi ⟨isL_ref hS, he _ fun w S1 h => ?_⟩))
  obtain ⟨e, l, k⟩ := k w S1 h
  simp only [ζO, ξa, e]
  exact ⟨l, k⟩
theorem dand_go {ta tb : DT'} {ω : Om} {S : Sto} {Q : Bool → Sto → Prop} (a : Bool) (ha : ∀ Q : Bool → Sto → Prop, Q a S → ta ω S Q) (ht : a = true → tb ω S Q) (hf : a = false → Q false S) : ζL ta tb ω S Q := by
  refine ha _ ?_
  cases a
  · exact hf rfl
  · exact ht rfl
def nfS (S : Sto) (b l : Addr) (g s : Int) (xs : List W) : Sto := up (up S b (bagO g s)) l (.lst xs)
theorem nf_b {S : Sto} {b l : Addr} {g s : Int} {xs} (h : l ≠ b) (ok : BagOk g s) : Bg (nfS S b l g s xs) b := (Bg.up ok).frame h
theorem nf_l {S : Sto} {b l : Addr} {g s : Int} {xs} : nfS S b l g s xs l = some (.lst xs) := up_same
theorem nf_v {S : Sto} {b l : Addr} {g s : Int} {xs} : view (nfS S b l g s xs) (.ref l) = .lst xs := by unfold view; simp only [nf_l]
theorem nf_a {S : Sto} {b l : Addr} {g s : Int} {xs ys} : up (nfS S b l g s xs) l (.lst ys) = nfS S b l g s ys := up_up
theorem nf_d {S : Sto} {b l : Addr} {g s g' s' : Int} {xs} (h : l ≠ b) : up (nfS S b l g s xs) b (bagO g' s') = nfS S b l g' s' xs := by
  unfold nfS
  rw [up_comm h, up_up]
theorem nf_dd {S : Sto} {b l : Addr} {g' s' : Int} {xs} (h : l ≠ b) : up (up S l (.lst xs)) b (bagO g' s') = nfS S b l g' s' xs := up_comm h
theorem nf_frz {S : Sto} {b l : Addr} {g s : Int} {xs} {Q : WQ} {w : W} (h : l ≠ b) (hl : S l = none) (q : Q w (up S b (bagO g s))) : frzQ Q w (nfS S b l g s xs) := by
  have hn : up S b (bagO g s) l = none := by rw [up_ne h]; exact hl
  refine ⟨_, _, Frz.drop (p := l) (o := .lst xs) up_same (fun _ e => (nomatch e)), ?_⟩
  unfold nfS
  rw [del_new hn]
  exact q
def sp_law_parts : Nat → DSp
  | 0 => fun _ _ _ _ => False
  | d + 1 => fun ws S Q _ => ∃ (b : Addr) (e : Nat), ws = [.ref b, .int (e : Nat)] ∧ e ≤ d ∧ Bg S b ∧ d ≤ 3 ∧ ∀ t : Pt, t.ok e → aft S b (Q (.tup t.ws))
theorem len_law_parts {d ws S Q E} (h : sp_law_parts (d + 1) ws S Q E) : ws.length = 2 := by obtain ⟨_, _, rfl, _⟩ := h; rfl
abbrev s_law_parts : Stmt := topS 54
abbrev N_law_parts : List Str := ["_law_bag_here", "_law_forks", "_law_found", "_law_k", "_law_sort", "_law_heights", "_law_height", "_law_flow"]
theorem sc_law_parts : FnScope N_law_parts ["_law_bag_here", "_law_forks"] (defScope s_law_parts) := ⟨rfl, rfl, rfl, by decide +kernel, rfl, by decide +kernel, by decide +kernel⟩
theorem st_law_parts {x0 x1 : W} : ζg N_law_parts [x0, x1] = [some x0, some x1, none, none, none, none, none, none] := rfl
def td_law_parts (d : Nat) : DS' :=
    (ζU (ζY 2 (ζm ζO))
    (ζU (dFor (ζx (ζl (ζu sp_law_take (ζl (ζB 0) (ζl (dOp dIx (ζP (ζl (dC (.int 3)) (ζl (dC (.int 8)) ζO))) (ζu sp_law_take (ζl (ζB 0) (ζl (dC (.int 2)) ζO)))) ζO))) ζO)) (.nm 3)
      (ζU (ζY 4 (ζu sp_law_take (ζl (ζB 0) (ζl (dC (.int 4)) ζO))))
      (ζW (ζi (dOp dLt (ζB 4) (dC (.int 2)))) (ζU (ζY 5 (ζP (ζl (dC (.int 0)) (ζl (dOp ζC (dC (.int 60)) (ζu sp_law_take (ζl (ζB 0) (ζl (dC (.int 121)) ζO)))) (ζl (dOp ζC (dC (.int 5)) (ζu sp_law_take (ζl (ζB 0) (ζl (dC (.int 11)) ζO)))) ζO)))))
        (ζU (ζY 6 (dOp dIx (ζB 5) (ζu sp_law_take (ζl (ζB 0) (ζl (dC (.int 3)) ζO)))))
        (ζq (dBM ξa (ζB 2) (ζl (ζP (ζl (dC (.str "hose")) (ζl (dOp ζH (dC (.int 1)) (ζu sp_law_take (ζl (ζB 0) (ζl (dOp dIx (ζP (ζl (dC (.int 20)) (ζl (dC (.int 4)) ζO))) (ζu sp_law_take (ζl (ζB 0) (ζl (dC (.int 2)) ζO)))) ζO)))) (ζl (ζB 6) ζO)))) ζO))))) (ζW (ζi (dOp dEq (ζB 4) (dC (.int 2)))) (ζq (dBM ξa (ζB 2) (ζl (ζP (ζl (dC (.str "pump")) (ζl (ζu sp_law_take (ζl (ζB 0) (ζl (dC (.int 121)) ζO))) (ζl (dOp ζH (dC (.int 1)) (ζu sp_law_take (ζl (ζB 0) (ζl (dOp dIx (ζP (ζl (dC (.int 5000)) (ζl (dC (.int 900)) ζO))) (ζu sp_law_take (ζl (ζB 0) (ζl (dC (.int 2)) ζO)))) ζO)))) ζO)))) ζO))) (ζq (dBM ξa (ζB 2) (ζl (ζP (ζl (dC (.str "leak")) (ζl (ζu sp_law_take (ζl (ζB 0) (ζl (dOp dIx (ζP (ζl (dC (.int 1001)) (ζl (dC (.int 90)) ζO))) (ζu sp_law_take (ζl (ζB 0) (ζl (dC (.int 2)) ζO)))) ζO))) ζO))) ζO)))))))
    (ζU (ζW (ζL (ζi (dOp dGt (ζB 1) (dC (.int 0)))) (ζi (dOp dEq (ζu sp_law_take (ζl (ζB 0) (ζl (dC (.int 2)) ζO))) (dC (.int 0))))) (ζV (dOp ζH (dCB ζc (ζl (ζB 2) ζO)) (ζP (ζl (ζP (ζl (dC (.str "fork")) (ζl (ζu (sp_law_parts d) (ζl (ζB 0) (ζl (dOp ζC (ζB 1) (dC (.int 1))) ζO))) (ζl (ζu (sp_law_parts d) (ζl (ζB 0) (ζl (dOp ζC (ζB 1) (dC (.int 1))) ζO))) ζO)))) ζO)))) ζp)
    (ζU (ζY 7 (ζu sp_law_take (ζl (ζB 0) (ζl (dOp dIx (ζP (ζl (dC (.int 2001)) (ζl (dC (.int 600)) (ζl (dC (.int 60)) ζO)))) (ζu sp_law_take (ζl (ζB 0) (ζl (dC (.int 3)) ζO)))) ζO))))
    (ζU (ζq (dBM ξa (ζB 2) (ζl (ζP (ζl (dC (.str "nozzle")) (ζl (ζB 7) (ζl (ζu sp_law_take (ζl (ζB 0) (ζl (dOp dIx (ζP (ζl (dC (.int 101)) (ζl (dC (.int 40)) (ζl (dC (.int 1)) ζO)))) (ζu sp_law_take (ζl (ζB 0) (ζl (dC (.int 3)) ζO)))) ζO))) ζO)))) ζO)))
    (ζV (dCB ζc (ζl (ζB 2) ζO))))))))
theorem hd_law_parts (d : Nat) (ws S Q E) (h : sp_law_parts (d + 1) ws S Q E) : td_law_parts d { nx := fun _ S' => frzQ Q .non S', rt := frzQ Q } ⟨ζg N_law_parts ws, XF⟩ S := by
  obtain ⟨b, e, rfl, le, hb, d3, q⟩ := h
  simp only [st_law_parts, td_law_parts]
  refine seq_go (setN_go (fun w S1 => ∃ l, w = .ref l ∧ S l = none ∧ S1 = up S l (.lst [])) (fun Q hq => ?_) ?_)
  · (array_get_dec)
    exact ⟨by decide, fun p hp => hq _ _ ⟨p, rfl, hp, rfl⟩⟩
  rintro _ _ ⟨l, rfl, hl, rfl⟩
  have hlb : l ≠ b := hb.ne hl
  (((try unfold ζp); dsimp only; refine seq_go ?_))
  refine forRN (fun n S1 => ∃ g s, (0 ≤ n ∧ n ≤ 7) ∧ BagOk g s ∧ S1 = nfS S b l g s []) (fun Q h => ?_) ?_
  · (array_get_dec)
    refine ⟨by decide, b, 2, rfl, hb.frame hlb, by decide, by decide, fun r r0 r1 g s ok => ?_⟩
    rw [nf_dd hlb]
    obtain ⟨m, hm, mm⟩ := pick2 3 8 r0 r1
    simp only [hm]
    refine ⟨b, m, rfl, nf_b hlb ok, by omega, by omega, fun n n0 n1 g s ok => ?_⟩
    rw [nf_d hlb]
    exact h _ _ ⟨g, s, by omega, ok, rfl⟩
  rintro n _ ⟨g, s, hn, ok, rfl⟩
  refine ⟨by omega, fun i ω' S' => ∃ y3 y4 y5 y6 js g s, ω' = ⟨[some (.ref b), some (.int (e : Nat)), some (.ref l), y3, y4, y5, y6, none], XF⟩ ∧ js.length = i ∧ (∀ j ∈ js, Jn.ok j) ∧ BagOk g s ∧ S' = nfS S b l g s (js.map Jn.w), ⟨_, _, _, _, [], g, s, rfl, rfl, (fun _ h => nomatch h), ok, rfl⟩, ?_, ?_⟩
  · rintro i ω' S' hi ⟨y3, y4, y5, y6, js, g, s, rfl, hj, hjs, ok, rfl⟩
    refine ⟨_, rfl, ?_⟩
    have jl : js.length < 7 := by omega
    refine seq_go (setN_go (fun w S1 => ∃ k g s, w = .int k ∧ BagOk g s ∧ S1 = nfS S b l g s (js.map Jn.w)) (fun Q hq => ?_) ?_)
    · (array_get_dec)
      refine ⟨b, 4, rfl, nf_b hlb ok, by decide, by decide, fun r r0 r1 g s ok => ?_⟩
      rw [nf_d hlb]
      exact hq _ _ ⟨r, g, s, rfl, ok, rfl⟩
    rintro _ _ ⟨k, g, s, rfl, ok, rfl⟩
    (((try unfold ζp); dsimp only))
    have jm : (js.map Jn.w).length < 1000000 := by rw [List.length_map]; omega
    have jx : ∀ j : Jn, j.ok → ∀ x ∈ js ++ [j], x.ok := fun j hj x hx => (List.mem_append.mp hx).elim (hjs x) fun h => by rw [List.mem_singleton.mp h]; exact hj
    have je : ∀ j : Jn, (js ++ [j]).length = i + 1 := fun j => by rw [List.length_append, hj]; rfl
    have ja : ∀ (j : Jn) (g s), up (nfS S b l g s (js.map Jn.w)) l (.lst (js.map Jn.w ++ [j.w])) = nfS S b l g s ((js ++ [j]).map Jn.w) := fun j g s => by rw [nf_a, List.map_append]; rfl
    refine if_b (decide (k < 2)) (fun Q hq => by (array_get_dec); exact hq) (fun _ => ?_) (fun _ => ?_)
    · refine seq_go (setN_go (fun w S1 => ∃ x y g s, w = .tup [.int 0, .int x, .int y] ∧ (-60 ≤ x ∧ x ≤ 60) ∧ (-5 ≤ y ∧ y ≤ 5) ∧ BagOk g s ∧ S1 = nfS S b l g s (js.map Jn.w)) (fun Q hq => ?_) ?_)
      · (array_get_dec)
        refine ⟨b, 121, rfl, nf_b hlb ok, by decide, by decide, fun r r0 r1 g s ok => ?_⟩
        rw [nf_d hlb]
        refine ⟨b, 11, rfl, nf_b hlb ok, by decide, by decide, fun t t0 t1 g s ok => ?_⟩
        rw [nf_d hlb]
        exact ⟨by decide, hq _ _ ⟨_, _, g, s, rfl, by omega, by omega, ok, rfl⟩⟩
      rintro _ _ ⟨x, y, g, s, rfl, hx, hy, ok, rfl⟩
      (((try unfold ζp); dsimp only; refine seq_go ?_))
      refine seq_go (setN_go (fun w S1 => ∃ z g s, w = .int z ∧ (-60 ≤ z ∧ z ≤ 60) ∧ BagOk g s ∧ S1 = nfS S b l g s (js.map Jn.w)) (fun Q hq => ?_) ?_)
      · (array_get_dec)
        refine ⟨b, 3, rfl, nf_b hlb ok, by decide, by decide, fun r r0 r1 g s ok => ?_⟩
        rw [nf_d hlb]
        obtain ⟨m, hm, mm⟩ := pick3 0 x y r0 r1
        simp only [hm]
        exact hq _ _ ⟨m, g, s, rfl, by omega, ok, rfl⟩
      rintro _ _ ⟨z, g, s, rfl, hz, ok, rfl⟩
      (((try unfold ζp); dsimp only))
      refine appD_go (fun w S1 => ∃ (j : Jn) (g s : Int), w = j.w ∧ j.ok ∧ BagOk g s ∧ S1 = nfS S b l g s (js.map Jn.w)) rfl nf_l (fun Q hq => ?_) ?_
      · (array_get_dec)
        refine ⟨by decide, b, 2, rfl, nf_b hlb ok, by decide, by decide, fun r r0 r1 g s ok => ?_⟩
        rw [nf_d hlb]
        obtain ⟨m, hm, mm⟩ := pick2 20 4 r0 r1
        simp only [hm]
        refine ⟨b, m, rfl, nf_b hlb ok, by omega, by omega, fun u u0 u1 g s ok => ?_⟩
        rw [nf_d hlb]
        refine ⟨(by decide : (0 + 1 + 1 + 1 : Nat) ≤ 1000000), ?_⟩
        exact hq _ _ ⟨.hose (1 + u) z, g, s, rfl, ⟨by omega, hz⟩, ok, rfl⟩
      · rintro _ _ ⟨j, g, s, rfl, jo, ok, rfl⟩
        exact ⟨nf_l, jm, _, _, _, _, js ++ [j], g, s, rfl, je j, jx j jo, ok, ja j g s⟩
    · refine if_b (decide (k = 2)) (fun Q hq => ?_) (fun _ => ?_) (fun _ => ?_)
      · (array_get_dec)
        refine ⟨rfl, rfl, ?_⟩
        rw [weq_int]
        exact hq
      · refine appD_go (fun w S1 => ∃ (j : Jn) (g s : Int), w = j.w ∧ j.ok ∧ BagOk g s ∧ S1 = nfS S b l g s (js.map Jn.w)) rfl nf_l (fun Q hq => ?_) ?_
        · (array_get_dec)
          refine ⟨b, 121, rfl, nf_b hlb ok, by decide, by decide, fun p p0 p1 g s ok => ?_⟩
          rw [nf_d hlb]
          refine ⟨by decide, b, 2, rfl, nf_b hlb ok, by decide, by decide, fun r r0 r1 g s ok => ?_⟩
          rw [nf_d hlb]
          obtain ⟨m, hm, mm⟩ := pick2 5000 900 r0 r1
          simp only [hm]
          refine ⟨b, m, rfl, nf_b hlb ok, by omega, by omega, fun u u0 u1 g s ok => ?_⟩
          rw [nf_d hlb]
          refine ⟨(by decide : (0 + 1 + 1 + 1 : Nat) ≤ 1000000), ?_⟩
          exact hq _ _ ⟨.pump p (1 + u), g, s, rfl, ⟨by omega, by omega⟩, ok, rfl⟩
        · rintro _ _ ⟨j, g, s, rfl, jo, ok, rfl⟩
          exact ⟨nf_l, jm, _, _, _, _, js ++ [j], g, s, rfl, je j, jx j jo, ok, ja j g s⟩
      · refine appD_go (fun w S1 => ∃ (j : Jn) (g s : Int), w = j.w ∧ j.ok ∧ BagOk g s ∧ S1 = nfS S b l g s (js.map Jn.w)) rfl nf_l (fun Q hq => ?_) ?_
        · (array_get_dec)
          refine ⟨by decide, b, 2, rfl, nf_b hlb ok, by decide, by decide, fun r r0 r1 g s ok => ?_⟩
          rw [nf_d hlb]
          obtain ⟨m, hm, mm⟩ := pick2 1001 90 r0 r1
          simp only [hm]
          refine ⟨b, m, rfl, nf_b hlb ok, by omega, by omega, fun u u0 u1 g s ok => ?_⟩
          rw [nf_d hlb]
          refine ⟨by decide, ?_⟩
          exact hq _ _ ⟨.leak u, g, s, rfl, ⟨by omega, by omega⟩, ok, rfl⟩
        · rintro _ _ ⟨j, g, s, rfl, jo, ok, rfl⟩
          exact ⟨nf_l, jm, _, _, _, _, js ++ [j], g, s, rfl, je j, jx j jo, ok, ja j g s⟩
  · rintro ω' S' ⟨y3, y4, y5, y6, js, g, s, rfl, hj, hjs, ok, rfl⟩
    have j7 : js.length ≤ 7 := by omega
    (((try unfold ζp); dsimp only; refine seq_go ?_))
    refine seq_go (if_N (fun c S1 => ∃ g s, (c = true → 0 < e) ∧ BagOk g s ∧ S1 = nfS S b l g s (js.map Jn.w)) (fun Q hq => ?_) ?_)
    · refine dand_go (decide (0 < e)) (fun Q h => ?_) (fun d0 => ?_) (fun d0 => ?_)
      · (array_get_dec)
        rw [show decide ((e : Int) > 0) = decide (0 < e) from decide_eq_decide.mpr (by omega)]
        exact h
      · (array_get_dec)
        refine ⟨b, 2, rfl, nf_b hlb ok, by decide, by decide, fun r r0 r1 g s ok => ?_⟩
        rw [nf_d hlb]
        exact ⟨rfl, rfl, hq _ _ ⟨g, s, fun _ => of_decide_eq_true d0, ok, rfl⟩⟩
      · exact hq _ _ ⟨g, s, fun e => (nomatch e), ok, rfl⟩
    rintro c _ ⟨g, s, hc, ok, rfl⟩
    cases c
    · rw [if_neg Bool.false_ne_true]
      (((try unfold ζp); dsimp only; refine seq_go ?_))
      refine seq_go (setN_go (fun w S1 => ∃ f g s, w = .int f ∧ (0 ≤ f ∧ f ≤ 2000) ∧ BagOk g s ∧ S1 = nfS S b l g s (js.map Jn.w)) (fun Q hq => ?_) ?_)
      · (array_get_dec)
        refine ⟨by decide, b, 3, rfl, nf_b hlb ok, by decide, by decide, fun r r0 r1 g s ok => ?_⟩
        rw [nf_d hlb]
        obtain ⟨m, hm, mm⟩ := pick3 2001 600 60 r0 r1
        simp only [hm]
        refine ⟨b, m, rfl, nf_b hlb ok, by omega, by omega, fun u u0 u1 g s ok => ?_⟩
        rw [nf_d hlb]
        exact hq _ _ ⟨u, g, s, rfl, by omega, ok, rfl⟩
      rintro _ _ ⟨f, g, s, rfl, hf, ok, rfl⟩
      (((try unfold ζp); dsimp only; refine seq_go ?_))
      refine seq_go (appD_go (fun w S1 => ∃ p g s, w = nozW f p ∧ (0 ≤ p ∧ p ≤ 100) ∧ BagOk g s ∧ S1 = nfS S b l g s (js.map Jn.w)) rfl nf_l (fun Q hq => ?_) ?_)
      · (array_get_dec)
        refine ⟨by decide, b, 3, rfl, nf_b hlb ok, by decide, by decide, fun r r0 r1 g s ok => ?_⟩
        rw [nf_d hlb]
        obtain ⟨m, hm, mm⟩ := pick3 101 40 1 r0 r1
        simp only [hm]
        refine ⟨b, m, rfl, nf_b hlb ok, by omega, by omega, fun u u0 u1 g s ok => ?_⟩
        rw [nf_d hlb]
        refine ⟨by decide, ?_⟩
        exact hq _ _ ⟨u, g, s, rfl, by omega, ok, rfl⟩
      rintro _ _ ⟨p, g, s, rfl, hp, ok, rfl⟩
      refine ⟨nf_l, by rw [List.length_map]; omega, ?_⟩
      rw [nf_a]
      (((try unfold ζp); dsimp only))
      refine ret_go ?_
      (array_get_dec)
      rw [nf_v]
      exact nf_frz hlb hl (q (.noz js f p) ⟨j7, hjs, hf, hp⟩ g s ok)
    · rw [if_pos rfl]
      obtain ⟨e, rfl⟩ : ∃ e', e = e' + 1 := ⟨e - 1, by have := hc rfl; omega⟩
      obtain ⟨d, rfl⟩ : ∃ d', d = d' + 1 := ⟨d - 1, by omega⟩
      refine ret_go ?_
      (array_get_dec)
      rw [nf_v]
      have e1 : ((e + 1 : Nat) : Int) - 1 = (e : Nat) := by omega
      rw [e1]
      refine ⟨b, e, rfl, by omega, nf_b hlb ok, by omega, fun t1 ok1 g s ok => ?_⟩
      rw [nf_d hlb]
      refine ⟨b, e, rfl, by omega, nf_b hlb ok, by omega, fun t2 ok2 g s ok => ?_⟩
      rw [nf_d hlb]
      refine ⟨by decide, by decide, by rw [List.length_map]; omega, ?_⟩
      exact nf_frz hlb hl (q (.fork js t1 t2) ⟨by omega, j7, hjs, ok1, ok2⟩ g s ok)
section
variable {P : Program} {w : World} {K : PySem.W.Frag} {mg : Str → Option Value} {base : Heap} {c_Line c_BadTime c_NoGround c_NoPlace c_NoProof c_NoKind c_BadText c_NoDeed c_NoRow c_TooMany c_NotDone c_NoBook c_NoCall c_NoEngine c_NoEngines c_NoLine c_NoJoin c_NoFlow c_Late c_Inside c_Dead c_NoTeam c_NoWearer c_NoBoard c_NoText c_Nothing c_NoSaying : Addr}
theorem okS_law_parts_0 {f : Addr} {fd : FuncData} (F : Fun K "_law_parts" "_law_parts" s_law_parts f fd) (T : Txt K w mg c_Line c_BadTime c_NoGround c_NoPlace c_NoProof c_NoKind c_BadText c_NoDeed c_NoRow c_TooMany c_NotDone c_NoBook c_NoCall c_NoEngine c_NoEngines c_NoLine c_NoJoin c_NoFlow c_Late c_Inside c_Dead c_NoTeam c_NoWearer c_NoBoard c_NoText c_Nothing c_NoSaying) (C_law_take : CalD P w K mg base 1 "_law_take" sp_law_take) (C_law_parts : CalD P w K mg base 3 "_law_parts" (sp_law_parts 0)) : FnOk P w K mg base CX0 4 f fd ["_law_bag_here", "_law_forks"] (uSp K (sp_law_parts 1)) :=
  Fun.okF F sc_law_parts (td_law_parts 0) (fun cdv A outer s H E hr =>
    (dss_cons (ds_set (i := 2) sc_law_parts.nd (de_lstM da_nil))
    (dss_cons (ds_for PassesOwn.never (di_range1 T.z_range (da_cons (de_call C_law_take hr (da_cons (dv 0) (da_cons (de_ix (de_tup (da_cons de_int (da_cons de_int da_nil))) (de_call C_law_take hr (da_cons (dv 0) (da_cons de_int da_nil)))) da_nil))) da_nil)) (dg_nm (i := 3) sc_law_parts.nd)
      (dss_cons (ds_set (i := 4) sc_law_parts.nd (de_call C_law_take hr (da_cons (dv 0) (da_cons de_int da_nil))))
      (dss_one (ds_if (dt_cmp oc_lt (dv 4) de_int) (dss_cons (ds_set (i := 5) sc_law_parts.nd (de_tup (da_cons de_int (da_cons (de_op oa_sub de_int (de_call C_law_take hr (da_cons (dv 0) (da_cons de_int da_nil)))) (da_cons (de_op oa_sub de_int (de_call C_law_take hr (da_cons (dv 0) (da_cons de_int da_nil)))) da_nil)))))
        (dss_cons (ds_set (i := 6) sc_law_parts.nd (de_ix (dv 5) (de_call C_law_take hr (da_cons (dv 0) (da_cons de_int da_nil)))))
        (dss_one (ds_expr (de_append (dv 2) (da_cons (de_tup (da_cons de_str (da_cons (de_op oa_add de_int (de_call C_law_take hr (da_cons (dv 0) (da_cons (de_ix (de_tup (da_cons de_int (da_cons de_int da_nil))) (de_call C_law_take hr (da_cons (dv 0) (da_cons de_int da_nil)))) da_nil)))) (da_cons (dv 6) da_nil)))) da_nil)))))) (dss_one (ds_if (dt_cmp (oc_eq hr) (dv 4) de_int) (dss_one (ds_expr (de_append (dv 2) (da_cons (de_tup (da_cons de_str (da_cons (de_call C_law_take hr (da_cons (dv 0) (da_cons de_int da_nil))) (da_cons (de_op oa_add de_int (de_call C_law_take hr (da_cons (dv 0) (da_cons (de_ix (de_tup (da_cons de_int (da_cons de_int da_nil))) (de_call C_law_take hr (da_cons (dv 0) (da_cons de_int da_nil)))) da_nil)))) da_nil)))) da_nil)))) (dss_one (ds_expr (de_append (dv 2) (da_cons (de_tup (da_cons de_str (da_cons (de_call C_law_take hr (da_cons (dv 0) (da_cons (de_ix (de_tup (da_cons de_int (da_cons de_int da_nil))) (de_call C_law_take hr (da_cons (dv 0) (da_cons de_int da_nil)))) da_nil))) da_nil))) da_nil))))))))))
    (dss_cons (ds_if (PW.pt (dw_and (dt_cmp oc_gt (dv 1) de_int) (dw_and1 (dt_cmp (oc_eq hr) (de_call C_law_take hr (da_cons (dv 0) (da_cons de_int da_nil))) de_int)))) (dss_one (ds_ret (de_op oa_add (de_callTy cd_tuple T.z_tuple (da_cons (dv 2) da_nil)) (de_tup (da_cons (de_tup (da_cons de_str (da_cons (de_call C_law_parts hr (da_cons (dv 0) (da_cons (de_op oa_sub (dv 1) de_int) da_nil))) (da_cons (de_call C_law_parts hr (da_cons (dv 0) (da_cons (de_op oa_sub (dv 1) de_int) da_nil))) da_nil)))) da_nil))))) dss_nil)
    (dss_cons (ds_set (i := 7) sc_law_parts.nd (de_call C_law_take hr (da_cons (dv 0) (da_cons (de_ix (de_tup (da_cons de_int (da_cons de_int (da_cons de_int da_nil)))) (de_call C_law_take hr (da_cons (dv 0) (da_cons de_int da_nil)))) da_nil))))
    (dss_cons (ds_expr (de_append (dv 2) (da_cons (de_tup (da_cons de_str (da_cons (dv 7) (da_cons (de_call C_law_take hr (da_cons (dv 0) (da_cons (de_ix (de_tup (da_cons de_int (da_cons de_int (da_cons de_int da_nil)))) (de_call C_law_take hr (da_cons (dv 0) (da_cons de_int da_nil)))) da_nil))) da_nil)))) da_nil)))
    (dss_one (ds_ret (de_callTy cd_tuple T.z_tuple (da_cons (dv 2) da_nil)))))))))) (fun ws S Q E h => len_law_parts h) (hd_law_parts 0)
theorem okS_law_parts_1 {f : Addr} {fd : FuncData} (F : Fun K "_law_parts" "_law_parts" s_law_parts f fd) (T : Txt K w mg c_Line c_BadTime c_NoGround c_NoPlace c_NoProof c_NoKind c_BadText c_NoDeed c_NoRow c_TooMany c_NotDone c_NoBook c_NoCall c_NoEngine c_NoEngines c_NoLine c_NoJoin c_NoFlow c_Late c_Inside c_Dead c_NoTeam c_NoWearer c_NoBoard c_NoText c_Nothing c_NoSaying) (C_law_take : CalD P w K mg base 1 "_law_take" sp_law_take) (C_law_parts : CalD P w K mg base 4 "_law_parts" (sp_law_parts 1)) : FnOk P w K mg base CX0 5 f fd ["_law_bag_here", "_law_forks"] (uSp K (sp_law_parts 2)) :=
  Fun.okF F sc_law_parts (td_law_parts 1) (fun cdv A outer s H E hr =>
    (dss_cons (ds_set (i := 2) sc_law_parts.nd (de_lstM da_nil))
    (dss_cons (ds_for PassesOwn.never (di_range1 T.z_range (da_cons (de_call C_law_take hr (da_cons (dv 0) (da_cons (de_ix (de_tup (da_cons de_int (da_cons de_int da_nil))) (de_call C_law_take hr (da_cons (dv 0) (da_cons de_int da_nil)))) da_nil))) da_nil)) (dg_nm (i := 3) sc_law_parts.nd)
      (dss_cons (ds_set (i := 4) sc_law_parts.nd (de_call C_law_take hr (da_cons (dv 0) (da_cons de_int da_nil))))
      (dss_one (ds_if (dt_cmp oc_lt (dv 4) de_int) (dss_cons (ds_set (i := 5) sc_law_parts.nd (de_tup (da_cons de_int (da_cons (de_op oa_sub de_int (de_call C_law_take hr (da_cons (dv 0) (da_cons de_int da_nil)))) (da_cons (de_op oa_sub de_int (de_call C_law_take hr (da_cons (dv 0) (da_cons de_int da_nil)))) da_nil)))))
        (dss_cons (ds_set (i := 6) sc_law_parts.nd (de_ix (dv 5) (de_call C_law_take hr (da_cons (dv 0) (da_cons de_int da_nil)))))
        (dss_one (ds_expr (de_append (dv 2) (da_cons (de_tup (da_cons de_str (da_cons (de_op oa_add de_int (de_call C_law_take hr (da_cons (dv 0) (da_cons (de_ix (de_tup (da_cons de_int (da_cons de_int da_nil))) (de_call C_law_take hr (da_cons (dv 0) (da_cons de_int da_nil)))) da_nil)))) (da_cons (dv 6) da_nil)))) da_nil)))))) (dss_one (ds_if (dt_cmp (oc_eq hr) (dv 4) de_int) (dss_one (ds_expr (de_append (dv 2) (da_cons (de_tup (da_cons de_str (da_cons (de_call C_law_take hr (da_cons (dv 0) (da_cons de_int da_nil))) (da_cons (de_op oa_add de_int (de_call C_law_take hr (da_cons (dv 0) (da_cons (de_ix (de_tup (da_cons de_int (da_cons de_int da_nil))) (de_call C_law_take hr (da_cons (dv 0) (da_cons de_int da_nil)))) da_nil)))) da_nil)))) da_nil)))) (dss_one (ds_expr (de_append (dv 2) (da_cons (de_tup (da_cons de_str (da_cons (de_call C_law_take hr (da_cons (dv 0) (da_cons (de_ix (de_tup (da_cons de_int (da_cons de_int da_nil))) (de_call C_law_take hr (da_cons (dv 0) (da_cons de_int da_nil)))) da_nil))) da_nil))) da_nil))))))))))
    (dss_cons (ds_if (PW.pt (dw_and (dt_cmp oc_gt (dv 1) de_int) (dw_and1 (dt_cmp (oc_eq hr) (de_call C_law_take hr (da_cons (dv 0) (da_cons de_int da_nil))) de_int)))) (dss_one (ds_ret (de_op oa_add (de_callTy cd_tuple T.z_tuple (da_cons (dv 2) da_nil)) (de_tup (da_cons (de_tup (da_cons de_str (da_cons (de_call C_law_parts hr (da_cons (dv 0) (da_cons (de_op oa_sub (dv 1) de_int) da_nil))) (da_cons (de_call C_law_parts hr (da_cons (dv 0) (da_cons (de_op oa_sub (dv 1) de_int) da_nil))) da_nil)))) da_nil))))) dss_nil)
    (dss_cons (ds_set (i := 7) sc_law_parts.nd (de_call C_law_take hr (da_cons (dv 0) (da_cons (de_ix (de_tup (da_cons de_int (da_cons de_int (da_cons de_int da_nil)))) (de_call C_law_take hr (da_cons (dv 0) (da_cons de_int da_nil)))) da_nil))))
    (dss_cons (ds_expr (de_append (dv 2) (da_cons (de_tup (da_cons de_str (da_cons (dv 7) (da_cons (de_call C_law_take hr (da_cons (dv 0) (da_cons (de_ix (de_tup (da_cons de_int (da_cons de_int (da_cons de_int da_nil)))) (de_call C_law_take hr (da_cons (dv 0) (da_cons de_int da_nil)))) da_nil))) da_nil)))) da_nil)))
    (dss_one (ds_ret (de_callTy cd_tuple T.z_tuple (da_cons (dv 2) da_nil)))))))))) (fun ws S Q E h => len_law_parts h) (hd_law_parts 1)
theorem okS_law_parts_2 {f : Addr} {fd : FuncData} (F : Fun K "_law_parts" "_law_parts" s_law_parts f fd) (T : Txt K w mg c_Line c_BadTime c_NoGround c_NoPlace c_NoProof c_NoKind c_BadText c_NoDeed c_NoRow c_TooMany c_NotDone c_NoBook c_NoCall c_NoEngine c_NoEngines c_NoLine c_NoJoin c_NoFlow c_Late c_Inside c_Dead c_NoTeam c_NoWearer c_NoBoard c_NoText c_Nothing c_NoSaying) (C_law_take : CalD P w K mg base 1 "_law_take" sp_law_take) (C_law_parts : CalD P w K mg base 5 "_law_parts" (sp_law_parts 2)) : FnOk P w K mg base CX0 6 f fd ["_law_bag_here", "_law_forks"] (uSp K (sp_law_parts 3)) :=
  Fun.okF F sc_law_parts (td_law_parts 2) (fun cdv A outer s H E hr =>
    (dss_cons (ds_set (i := 2) sc_law_parts.nd (de_lstM da_nil))
    (dss_cons (ds_for PassesOwn.never (di_range1 T.z_range (da_cons (de_call C_law_take hr (da_cons (dv 0) (da_cons (de_ix (de_tup (da_cons de_int (da_cons de_int da_nil))) (de_call C_law_take hr (da_cons (dv 0) (da_cons de_int da_nil)))) da_nil))) da_nil)) (dg_nm (i := 3) sc_law_parts.nd)
      (dss_cons (ds_set (i := 4) sc_law_parts.nd (de_call C_law_take hr (da_cons (dv 0) (da_cons de_int da_nil))))
      (dss_one (ds_if (dt_cmp oc_lt (dv 4) de_int) (dss_cons (ds_set (i := 5) sc_law_parts.nd (de_tup (da_cons de_int (da_cons (de_op oa_sub de_int (de_call C_law_take hr (da_cons (dv 0) (da_cons de_int da_nil)))) (da_cons (de_op oa_sub de_int (de_call C_law_take hr (da_cons (dv 0) (da_cons de_int da_nil)))) da_nil)))))
        (dss_cons (ds_set (i := 6) sc_law_parts.nd (de_ix (dv 5) (de_call C_law_take hr (da_cons (dv 0) (da_cons de_int da_nil)))))
        (dss_one (ds_expr (de_append (dv 2) (da_cons (de_tup (da_cons de_str (da_cons (de_op oa_add de_int (de_call C_law_take hr (da_cons (dv 0) (da_cons (de_ix (de_tup (da_cons de_int (da_cons de_int da_nil))) (de_call C_law_take hr (da_cons (dv 0) (da_cons de_int da_nil)))) da_nil)))) (da_cons (dv 6) da_nil)))) da_nil)))))) (dss_one (ds_if (dt_cmp (oc_eq hr) (dv 4) de_int) (dss_one (ds_expr (de_append (dv 2) (da_cons (de_tup (da_cons de_str (da_cons (de_call C_law_take hr (da_cons (dv 0) (da_cons de_int da_nil))) (da_cons (de_op oa_add de_int (de_call C_law_take hr (da_cons (dv 0) (da_cons (de_ix (de_tup (da_cons de_int (da_cons de_int da_nil))) (de_call C_law_take hr (da_cons (dv 0) (da_cons de_int da_nil)))) da_nil)))) da_nil)))) da_nil)))) (dss_one (ds_expr (de_append (dv 2) (da_cons (de_tup (da_cons de_str (da_cons (de_call C_law_take hr (da_cons (dv 0) (da_cons (de_ix (de_tup (da_cons de_int (da_cons de_int da_nil))) (de_call C_law_take hr (da_cons (dv 0) (da_cons de_int da_nil)))) da_nil))) da_nil))) da_nil))))))))))
    (dss_cons (ds_if (PW.pt (dw_and (dt_cmp oc_gt (dv 1) de_int) (dw_and1 (dt_cmp (oc_eq hr) (de_call C_law_take hr (da_cons (dv 0) (da_cons de_int da_nil))) de_int)))) (dss_one (ds_ret (de_op oa_add (de_callTy cd_tuple T.z_tuple (da_cons (dv 2) da_nil)) (de_tup (da_cons (de_tup (da_cons de_str (da_cons (de_call C_law_parts hr (da_cons (dv 0) (da_cons (de_op oa_sub (dv 1) de_int) da_nil))) (da_cons (de_call C_law_parts hr (da_cons (dv 0) (da_cons (de_op oa_sub (dv 1) de_int) da_nil))) da_nil)))) da_nil))))) dss_nil)
    (dss_cons (ds_set (i := 7) sc_law_parts.nd (de_call C_law_take hr (da_cons (dv 0) (da_cons (de_ix (de_tup (da_cons de_int (da_cons de_int (da_cons de_int da_nil)))) (de_call C_law_take hr (da_cons (dv 0) (da_cons de_int da_nil)))) da_nil))))
    (dss_cons (ds_expr (de_append (dv 2) (da_cons (de_tup (da_cons de_str (da_cons (dv 7) (da_cons (de_call C_law_take hr (da_cons (dv 0) (da_cons (de_ix (de_tup (da_cons de_int (da_cons de_int (da_cons de_int da_nil)))) (de_call C_law_take hr (da_cons (dv 0) (da_cons de_int da_nil)))) da_nil))) da_nil)))) da_nil)))
    (dss_one (ds_ret (de_callTy cd_tuple T.z_tuple (da_cons (dv 2) da_nil)))))))))) (fun ws S Q E h => len_law_parts h) (hd_law_parts 2)
theorem okS_law_parts_3 {f : Addr} {fd : FuncData} (F : Fun K "_law_parts" "_law_parts" s_law_parts f fd) (T : Txt K w mg c_Line c_BadTime c_NoGround c_NoPlace c_NoProof c_NoKind c_BadText c_NoDeed c_NoRow c_TooMany c_NotDone c_NoBook c_NoCall c_NoEngine c_NoEngines c_NoLine c_NoJoin c_NoFlow c_Late c_Inside c_Dead c_NoTeam c_NoWearer c_NoBoard c_NoText c_Nothing c_NoSaying) (C_law_take : CalD P w K mg base 1 "_law_take" sp_law_take) (C_law_parts : CalD P w K mg base 6 "_law_parts" (sp_law_parts 3)) : FnOk P w K mg base CX0 7 f fd ["_law_bag_here", "_law_forks"] (uSp K (sp_law_parts 4)) :=
  Fun.okF F sc_law_parts (td_law_parts 3) (fun cdv A outer s H E hr =>
    (dss_cons (ds_set (i := 2) sc_law_parts.nd (de_lstM da_nil))
    (dss_cons (ds_for PassesOwn.never (di_range1 T.z_range (da_cons (de_call C_law_take hr (da_cons (dv 0) (da_cons (de_ix (de_tup (da_cons de_int (da_cons de_int da_nil))) (de_call C_law_take hr (da_cons (dv 0) (da_cons de_int da_nil)))) da_nil))) da_nil)) (dg_nm (i := 3) sc_law_parts.nd)
      (dss_cons (ds_set (i := 4) sc_law_parts.nd (de_call C_law_take hr (da_cons (dv 0) (da_cons de_int da_nil))))
      (dss_one (ds_if (dt_cmp oc_lt (dv 4) de_int) (dss_cons (ds_set (i := 5) sc_law_parts.nd (de_tup (da_cons de_int (da_cons (de_op oa_sub de_int (de_call C_law_take hr (da_cons (dv 0) (da_cons de_int da_nil)))) (da_cons (de_op oa_sub de_int (de_call C_law_take hr (da_cons (dv 0) (da_cons de_int da_nil)))) da_nil)))))
        (dss_cons (ds_set (i := 6) sc_law_parts.nd (de_ix (dv 5) (de_call C_law_take hr (da_cons (dv 0) (da_cons de_int da_nil)))))
        (dss_one (ds_expr (de_append (dv 2) (da_cons (de_tup (da_cons de_str (da_cons (de_op oa_add de_int (de_call C_law_take hr (da_cons (dv 0) (da_cons (de_ix (de_tup (da_cons de_int (da_cons de_int da_nil))) (de_call C_law_take hr (da_cons (dv 0) (da_cons de_int da_nil)))) da_nil)))) (da_cons (dv 6) da_nil)))) da_nil)))))) (dss_one (ds_if (dt_cmp (oc_eq hr) (dv 4) de_int) (dss_one (ds_expr (de_append (dv 2) (da_cons (de_tup (da_cons de_str (da_cons (de_call C_law_take hr (da_cons (dv 0) (da_cons de_int da_nil))) (da_cons (de_op oa_add de_int (de_call C_law_take hr (da_cons (dv 0) (da_cons (de_ix (de_tup (da_cons de_int (da_cons de_int da_nil))) (de_call C_law_take hr (da_cons (dv 0) (da_cons de_int da_nil)))) da_nil)))) da_nil)))) da_nil)))) (dss_one (ds_expr (de_append (dv 2) (da_cons (de_tup (da_cons de_str (da_cons (de_call C_law_take hr (da_cons (dv 0) (da_cons (de_ix (de_tup (da_cons de_int (da_cons de_int da_nil))) (de_call C_law_take hr (da_cons (dv 0) (da_cons de_int da_nil)))) da_nil))) da_nil))) da_nil))))))))))
    (dss_cons (ds_if (PW.pt (dw_and (dt_cmp oc_gt (dv 1) de_int) (dw_and1 (dt_cmp (oc_eq hr) (de_call C_law_take hr (da_cons (dv 0) (da_cons de_int da_nil))) de_int)))) (dss_one (ds_ret (de_op oa_add (de_callTy cd_tuple T.z_tuple (da_cons (dv 2) da_nil)) (de_tup (da_cons (de_tup (da_cons de_str (da_cons (de_call C_law_parts hr (da_cons (dv 0) (da_cons (de_op oa_sub (dv 1) de_int) da_nil))) (da_cons (de_call C_law_parts hr (da_cons (dv 0) (da_cons (de_op oa_sub (dv 1) de_int) da_nil))) da_nil)))) da_nil))))) dss_nil)
    (dss_cons (ds_set (i := 7) sc_law_parts.nd (de_call C_law_take hr (da_cons (dv 0) (da_cons (de_ix (de_tup (da_cons de_int (da_cons de_int (da_cons de_int da_nil)))) (de_call C_law_take hr (da_cons (dv 0) (da_cons de_int da_nil)))) da_nil))))
    (dss_cons (ds_expr (de_append (dv 2) (da_cons (de_tup (da_cons de_str (da_cons (dv 7) (da_cons (de_call C_law_take hr (da_cons (dv 0) (da_cons (de_ix (de_tup (da_cons de_int (da_cons de_int (da_cons de_int da_nil)))) (de_call C_law_take hr (da_cons (dv 0) (da_cons de_int da_nil)))) da_nil))) da_nil)))) da_nil)))
    (dss_one (ds_ret (de_callTy cd_tuple T.z_tuple (da_cons (dv 2) da_nil)))))))))) (fun ws S Q E h => len_law_parts h) (hd_law_parts 3)
end
abbrev s_law_which : Stmt := topS 56
abbrev N_law_which : List Str := ["_law_e", "_law_told", "_law_text"]
theorem sc_law_which : FnScope N_law_which ["_law_e"] (defScope s_law_which) := ⟨rfl, rfl, rfl, by decide +kernel, rfl, by decide +kernel, by decide +kernel⟩
theorem st_law_which {x0 : W} : ζg N_law_which [x0] = [some x0, none, none] := rfl
def td_law_which (K : PySem.W.Frag) (c_BadTime c_NoGround c_NoPlace c_NoProof c_NoKind c_BadText c_NoDeed c_NoRow c_TooMany c_NotDone c_NoBook c_NoCall c_NoEngine c_NoEngines c_NoLine c_NoJoin c_NoFlow c_Late c_Inside c_Dead c_NoTeam c_NoWearer c_NoBoard c_NoText c_Nothing c_NoSaying : Addr) (a : Addr) (cls : Value) (d : Option Addr) : DS' :=
    (ζU (ζY 1 (ζQ (ζl (dCB (dIsE K [c_NoFlow] a cls d) (ζl (ζB 0) (ζl (dC (.ref c_BadTime)) ζO))) (ζl (dCB (dIsE K [c_NoFlow] a cls d) (ζl (ζB 0) (ζl (dC (.ref c_NoGround)) ζO))) (ζl (dCB (dIsE K [c_NoFlow] a cls d) (ζl (ζB 0) (ζl (dC (.ref c_NoPlace)) ζO))) (ζl (dCB (dIsE K [c_NoFlow] a cls d) (ζl (ζB 0) (ζl (dC (.ref c_NoProof)) ζO))) ζO))))))
    (ζU (ζY 1 (dOp ζH (ζB 1) (ζQ (ζl (dCB (dIsE K [c_NoFlow] a cls d) (ζl (ζB 0) (ζl (dC (.ref c_NoKind)) ζO))) (ζl (dCB (dIsE K [c_NoFlow] a cls d) (ζl (ζB 0) (ζl (dC (.ref c_BadText)) ζO))) (ζl (dCB (dIsE K [c_NoFlow] a cls d) (ζl (ζB 0) (ζl (dC (.ref c_NoDeed)) ζO))) (ζl (dCB (dIsE K [c_NoFlow] a cls d) (ζl (ζB 0) (ζl (dC (.ref c_NoRow)) ζO))) ζO)))))))
    (ζU (ζY 1 (dOp ζH (ζB 1) (ζQ (ζl (dCB (dIsE K [c_NoFlow] a cls d) (ζl (ζB 0) (ζl (dC (.ref c_TooMany)) ζO))) (ζl (dCB (dIsE K [c_NoFlow] a cls d) (ζl (ζB 0) (ζl (dC (.ref c_NotDone)) ζO))) (ζl (dCB (dIsE K [c_NoFlow] a cls d) (ζl (ζB 0) (ζl (dC (.ref c_NoBook)) ζO))) (ζl (dCB (dIsE K [c_NoFlow] a cls d) (ζl (ζB 0) (ζl (dC (.ref c_NoCall)) ζO))) ζO)))))))
    (ζU (ζY 1 (dOp ζH (ζB 1) (ζQ (ζl (dCB (dIsE K [c_NoFlow] a cls d) (ζl (ζB 0) (ζl (dC (.ref c_NoEngine)) ζO))) (ζl (dCB (dIsE K [c_NoFlow] a cls d) (ζl (ζB 0) (ζl (dC (.ref c_NoEngines)) ζO))) (ζl (dCB (dIsE K [c_NoFlow] a cls d) (ζl (ζB 0) (ζl (dC (.ref c_NoLine)) ζO))) (ζl (dCB (dIsE K [c_NoFlow] a cls d) (ζl (ζB 0) (ζl (dC (.ref c_NoJoin)) ζO))) ζO)))))))
    (ζU (ζY 1 (dOp ζH (ζB 1) (ζQ (ζl (dCB (dIsE K [c_NoFlow] a cls d) (ζl (ζB 0) (ζl (dC (.ref c_NoFlow)) ζO))) (ζl (dCB (dIsE K [c_NoFlow] a cls d) (ζl (ζB 0) (ζl (dC (.ref c_Late)) ζO))) (ζl (dCB (dIsE K [c_NoFlow] a cls d) (ζl (ζB 0) (ζl (dC (.ref c_Inside)) ζO))) (ζl (dCB (dIsE K [c_NoFlow] a cls d) (ζl (ζB 0) (ζl (dC (.ref c_Dead)) ζO))) ζO)))))))
    (ζU (ζY 1 (dOp ζH (ζB 1) (ζQ (ζl (dCB (dIsE K [c_NoFlow] a cls d) (ζl (ζB 0) (ζl (dC (.ref c_NoTeam)) ζO))) (ζl (dCB (dIsE K [c_NoFlow] a cls d) (ζl (ζB 0) (ζl (dC (.ref c_NoWearer)) ζO))) (ζl (dCB (dIsE K [c_NoFlow] a cls d) (ζl (ζB 0) (ζl (dC (.ref c_NoBoard)) ζO))) (ζl (dCB (dIsE K [c_NoFlow] a cls d) (ζl (ζB 0) (ζl (dC (.ref c_NoText)) ζO))) ζO)))))))
    (ζU (ζY 1 (dOp ζH (ζB 1) (ζQ (ζl (dCB (dIsE K [c_NoFlow] a cls d) (ζl (ζB 0) (ζl (dC (.ref c_Nothing)) ζO))) (ζl (dCB (dIsE K [c_NoFlow] a cls d) (ζl (ζB 0) (ζl (dC (.ref c_NoSaying)) ζO))) ζO)))))
    (ζU (ζY 2 (dC (.str "BadTime NoGround NoPlace NoProof NoKind BadText NoDeed NoRow TooMany NotDone")))
    (ζU (ζY 2 (dOp ζH (ζB 2) (dC (.str " NoBook NoCall NoEngine NoEngines NoLine NoJoin NoFlow Late Inside"))))
    (ζU (ζY 2 (dOp ζH (ζB 2) (dC (.str " Dead NoTeam NoWearer NoBoard NoText Nothing NoSaying"))))
    (ζU (ζW (ζi (dOp dNe (dBM dCount (ζB 1) (ζl (dC (.bl true)) ζO)) (dC (.int 1)))) (ζV (dC (.str "other"))) ζp)
    (ζV (dOp dIx (dSplit (ζB 2) (dC (.str " "))) (dBM dIdx (ζB 1) (ζl (dC (.bl true)) ζO)))))))))))))))
theorem first_bl {xs : List W} {n m : Nat} {z : W} (h : (xs.take n).all (fun w => match w with | .bl false => true | _ => false) = true) (hm : m < n) (hz : xs[m]? = some z) : weq z (.bl true) = false := by
  have := List.all_eq_true.mp h z (List.mem_of_getElem? (i := m) (by rw [List.getElem?_take_of_lt hm]; exact hz))
  cases z <;> first | cases this | skip
  rename_i b
  cases b
  · rfl
  · cases this
def sp_law_which (c_NoFlow : Addr) (a : Addr) (cls : Value) (d : Option Addr) : DSp := fun ws S Q _ => ∃ ns xs, ws = [.exc a d ns xs] ∧ (cls = .ref c_NoFlow ∧ Q (.str "NoFlow") S)
theorem len_law_which {c_NoFlow a cls d ws S Q E} (h : sp_law_which c_NoFlow a cls d ws S Q E) : ws.length = 1 := by obtain ⟨_, _, rfl, _⟩ := h; rfl
theorem isE_go {K : PySem.W.Frag} {Ds : List Addr} {a D C : Addr} {d : Option Addr} {ns : List Str} {xs : List W} {b : Bool} {S : Sto} {Q : WQ} (hD : D ∈ Ds) (hk : PySem.W.kitOne K (.ref D) (.ref C) = some b) (q : Q (.bl b) S) : dIsE K Ds a (.ref D) d [.exc a d ns xs, .ref C] S Q := ⟨D, hD, rfl, ns, xs, .ref C, .ref C, b, rfl, rfl, hk, q⟩
theorem isE_goT {K : PySem.W.Frag} {Ds : List Addr} {a D : Addr} {n : String} {d : Option Addr} {ns : List Str} {xs : List W} {b : Bool} {S : Sto} {Q : WQ} (hD : D ∈ Ds) (hk : PySem.W.kitOne K (.ref D) (.type n) = some b) (q : Q (.bl b) S) : dIsE K Ds a (.ref D) d [.exc a d ns xs, .ty n] S Q := ⟨D, hD, rfl, ns, xs, .ty n, .type n, b, rfl, rfl, hk, q⟩
theorem hd_law_which {K : PySem.W.Frag} {w : World} {mg : Str → Option Value} {c_Line c_BadTime c_NoGround c_NoPlace c_NoProof c_NoKind c_BadText c_NoDeed c_NoRow c_TooMany c_NotDone c_NoBook c_NoCall c_NoEngine c_NoEngines c_NoLine c_NoJoin c_NoFlow c_Late c_Inside c_Dead c_NoTeam c_NoWearer c_NoBoard c_NoText c_Nothing c_NoSaying : Addr} (T : Txt K w mg c_Line c_BadTime c_NoGround c_NoPlace c_NoProof c_NoKind c_BadText c_NoDeed c_NoRow c_TooMany c_NotDone c_NoBook c_NoCall c_NoEngine c_NoEngines c_NoLine c_NoJoin c_NoFlow c_Late c_Inside c_Dead c_NoTeam c_NoWearer c_NoBoard c_NoText c_Nothing c_NoSaying) (a : Addr) (cls : Value) (d : Option Addr) (ws S Q E) (h : sp_law_which c_NoFlow a cls d ws S Q E) : td_law_which K c_BadTime c_NoGround c_NoPlace c_NoProof c_NoKind c_BadText c_NoDeed c_NoRow c_TooMany c_NotDone c_NoBook c_NoCall c_NoEngine c_NoEngines c_NoLine c_NoJoin c_NoFlow c_Late c_Inside c_Dead c_NoTeam c_NoWearer c_NoBoard c_NoText c_Nothing c_NoSaying a cls d { nx := fun _ S' => frzQ Q .non S', rt := frzQ Q } ⟨ζg N_law_which ws, XF⟩ S := by
  obtain ⟨ns, xs, rfl, h⟩ := h
  obtain ⟨rfl, q⟩ := h
  simp only [st_law_which, td_law_which]
  refine seq_go (set_go (.lst [.bl false, .bl false, .bl false, .bl false]) S (fun Q h => ?_) ?_)
  · (array_get_dec)
    refine isE_go List.mem_cons_self T.kk_NoFlow_BadTime ?_
    refine isE_go List.mem_cons_self T.kk_NoFlow_NoGround ?_
    refine isE_go List.mem_cons_self T.kk_NoFlow_NoPlace ?_
    refine isE_go List.mem_cons_self T.kk_NoFlow_NoProof ?_
    exact ⟨by decide, h⟩
  (try unfold ζp); dsimp only
  refine seq_go (set_go (.lst [.bl false, .bl false, .bl false, .bl false, .bl false, .bl false, .bl false, .bl false]) S (fun Q h => ?_) ?_)
  · (array_get_dec)
    refine isE_go List.mem_cons_self T.kk_NoFlow_NoKind ?_
    refine isE_go List.mem_cons_self T.kk_NoFlow_BadText ?_
    refine isE_go List.mem_cons_self T.kk_NoFlow_NoDeed ?_
    refine isE_go List.mem_cons_self T.kk_NoFlow_NoRow ?_
    exact ⟨by decide, by decide, h⟩
  (try unfold ζp); dsimp only
  refine seq_go (set_go (.lst [.bl false, .bl false, .bl false, .bl false, .bl false, .bl false, .bl false, .bl false, .bl false, .bl false, .bl false, .bl false]) S (fun Q h => ?_) ?_)
  · (array_get_dec)
    refine isE_go List.mem_cons_self T.kk_NoFlow_TooMany ?_
    refine isE_go List.mem_cons_self T.kk_NoFlow_NotDone ?_
    refine isE_go List.mem_cons_self T.kk_NoFlow_NoBook ?_
    refine isE_go List.mem_cons_self T.kk_NoFlow_NoCall ?_
    exact ⟨by decide, by decide, h⟩
  (try unfold ζp); dsimp only
  refine seq_go (set_go (.lst [.bl false, .bl false, .bl false, .bl false, .bl false, .bl false, .bl false, .bl false, .bl false, .bl false, .bl false, .bl false, .bl false, .bl false, .bl false, .bl false]) S (fun Q h => ?_) ?_)
  · (array_get_dec)
    refine isE_go List.mem_cons_self T.kk_NoFlow_NoEngine ?_
    refine isE_go List.mem_cons_self T.kk_NoFlow_NoEngines ?_
    refine isE_go List.mem_cons_self T.kk_NoFlow_NoLine ?_
    refine isE_go List.mem_cons_self T.kk_NoFlow_NoJoin ?_
    exact ⟨by decide, by decide, h⟩
  (try unfold ζp); dsimp only
  refine seq_go (set_go (.lst [.bl false, .bl false, .bl false, .bl false, .bl false, .bl false, .bl false, .bl false, .bl false, .bl false, .bl false, .bl false, .bl false, .bl false, .bl false, .bl false, .bl true, .bl false, .bl false, .bl false]) S (fun Q h => ?_) ?_)
  · (array_get_dec)
    refine isE_go List.mem_cons_self T.kk_NoFlow_NoFlow ?_
    refine isE_go List.mem_cons_self T.kk_NoFlow_Late ?_
    refine isE_go List.mem_cons_self T.kk_NoFlow_Inside ?_
    refine isE_go List.mem_cons_self T.kk_NoFlow_Dead ?_
    exact ⟨by decide, by decide, h⟩
  (try unfold ζp); dsimp only
  refine seq_go (set_go (.lst [.bl false, .bl false, .bl false, .bl false, .bl false, .bl false, .bl false, .bl false, .bl false, .bl false, .bl false, .bl false, .bl false, .bl false, .bl false, .bl false, .bl true, .bl false, .bl false, .bl false, .bl false, .bl false, .bl false, .bl false]) S (fun Q h => ?_) ?_)
  · (array_get_dec)
    refine isE_go List.mem_cons_self T.kk_NoFlow_NoTeam ?_
    refine isE_go List.mem_cons_self T.kk_NoFlow_NoWearer ?_
    refine isE_go List.mem_cons_self T.kk_NoFlow_NoBoard ?_
    refine isE_go List.mem_cons_self T.kk_NoFlow_NoText ?_
    exact ⟨by decide, by decide, h⟩
  (try unfold ζp); dsimp only
  refine seq_go (set_go (.lst [.bl false, .bl false, .bl false, .bl false, .bl false, .bl false, .bl false, .bl false, .bl false, .bl false, .bl false, .bl false, .bl false, .bl false, .bl false, .bl false, .bl true, .bl false, .bl false, .bl false, .bl false, .bl false, .bl false, .bl false, .bl false, .bl false]) S (fun Q h => ?_) ?_)
  · (array_get_dec)
    refine isE_go List.mem_cons_self T.kk_NoFlow_Nothing ?_
    refine isE_go List.mem_cons_self T.kk_NoFlow_NoSaying ?_
    exact ⟨by decide, by decide, h⟩
  (try unfold ζp); dsimp only
  refine seq_go (set_go (.str ("BadTime NoGround NoPlace NoProof NoKind BadText NoDeed NoRow TooMany NotDone" : Str)) S (fun Q h => ?_) ?_)
  · (array_get_dec)
    exact h
  (try unfold ζp); dsimp only
  refine seq_go (set_go (.str (("BadTime NoGround NoPlace NoProof NoKind BadText NoDeed NoRow TooMany NotDone" : Str) ++ (" NoBook NoCall NoEngine NoEngines NoLine NoJoin NoFlow Late Inside" : Str))) S (fun Q h => ?_) ?_)
  · (array_get_dec)
    exact ⟨by decide +kernel, h⟩
  (try unfold ζp); dsimp only
  refine seq_go (set_go (.str ((("BadTime NoGround NoPlace NoProof NoKind BadText NoDeed NoRow TooMany NotDone" : Str) ++ (" NoBook NoCall NoEngine NoEngines NoLine NoJoin NoFlow Late Inside" : Str)) ++ (" Dead NoTeam NoWearer NoBoard NoText Nothing NoSaying" : Str))) S (fun Q h => ?_) ?_)
  · (array_get_dec)
    exact ⟨by decide +kernel, h⟩
  (try unfold ζp); dsimp only
  have ec : (List.countP (fun z => weq z (.bl true)) [W.bl false, W.bl false, W.bl false, W.bl false, W.bl false, W.bl false, W.bl false, W.bl false, W.bl false, W.bl false, W.bl false, W.bl false, W.bl false, W.bl false, W.bl false, W.bl false, W.bl true, W.bl false, W.bl false, W.bl false, W.bl false, W.bl false, W.bl false, W.bl false, W.bl false, W.bl false]) = 1 := by decide +kernel
  have nd : okD (.lst [W.bl false, W.bl false, W.bl false, W.bl false, W.bl false, W.bl false, W.bl false, W.bl false, W.bl false, W.bl false, W.bl false, W.bl false, W.bl false, W.bl false, W.bl false, W.bl false, W.bl true, W.bl false, W.bl false, W.bl false, W.bl false, W.bl false, W.bl false, W.bl false, W.bl false, W.bl false]) = true := by decide +kernel
  have sp : Txt.split ((("BadTime NoGround NoPlace NoProof NoKind BadText NoDeed NoRow TooMany NotDone" : Str) ++ (" NoBook NoCall NoEngine NoEngines NoLine NoJoin NoFlow Late Inside" : Str)) ++ (" Dead NoTeam NoWearer NoBoard NoText Nothing NoSaying" : Str)) (" " : Str) = (["BadTime", "NoGround", "NoPlace", "NoProof", "NoKind", "BadText", "NoDeed", "NoRow", "TooMany", "NotDone", "NoBook", "NoCall", "NoEngine", "NoEngines", "NoLine", "NoJoin", "NoFlow", "Late", "Inside", "Dead", "NoTeam", "NoWearer", "NoBoard", "NoText", "Nothing", "NoSaying"] : List Str) := by decide +kernel
  refine seq_go (if_b false (fun Q hq => ?_) (fun e => nomatch e) (fun _ => ?_))
  · (array_get_dec)
    refine ⟨by decide, nd, rfl, rfl, rfl, ?_⟩
    rw [ec]
    exact hq
  (try unfold ζp); dsimp only
  refine ret_go ?_
  (array_get_dec)
  refine ⟨_, rfl, _, rfl, by decide +kernel, by decide +kernel, ?_, ?_⟩
  · rw [sp]; decide +kernel
  rw [sp]
  refine ⟨by decide, nd, rfl, 16, .bl true, rfl, by decide +kernel, fun m z hm hz => ?_, ?_⟩
  · exact first_bl (by decide +kernel) hm hz
  exact frzQ.mk q
section
variable {P : Program} {w : World} {K : PySem.W.Frag} {mg : Str → Option Value} {base : Heap} {c_Line c_BadTime c_NoGround c_NoPlace c_NoProof c_NoKind c_BadText c_NoDeed c_NoRow c_TooMany c_NotDone c_NoBook c_NoCall c_NoEngine c_NoEngines c_NoLine c_NoJoin c_NoFlow c_Late c_Inside c_Dead c_NoTeam c_NoWearer c_NoBoard c_NoText c_Nothing c_NoSaying : Addr}
theorem okP_law_which {f : Addr} {fd : FuncData} (F : Fun K "_law_which" "_law_which" s_law_which f fd) (T : Txt K w mg c_Line c_BadTime c_NoGround c_NoPlace c_NoProof c_NoKind c_BadText c_NoDeed c_NoRow c_TooMany c_NotDone c_NoBook c_NoCall c_NoEngine c_NoEngines c_NoLine c_NoJoin c_NoFlow c_Late c_Inside c_Dead c_NoTeam c_NoWearer c_NoBoard c_NoText c_Nothing c_NoSaying) : ∀ (p : Addr × Obj) (cls : Value) (d : Option Addr), Zc cls d p.2 → (∃ vs, p.2.data = .fields vs) → FnP P w K mg base 1 f fd ["_law_e"] (uSp K (sp_law_which c_NoFlow p.1 cls d)) p :=
  fun p cls d hz hf => Fun.okP F sc_law_which (td_law_which K c_BadTime c_NoGround c_NoPlace c_NoProof c_NoKind c_BadText c_NoDeed c_NoRow c_TooMany c_NotDone c_NoBook c_NoCall c_NoEngine c_NoEngines c_NoLine c_NoJoin c_NoFlow c_Late c_Inside c_Dead c_NoTeam c_NoWearer c_NoBoard c_NoText c_Nothing c_NoSaying p.1 cls d) (fun cdv A outer s H E hr =>
    (dss_cons (ds_set (i := 1) sc_law_which.nd (de_lst (da_cons (de_callB (cd_isE T.xall_NoFlow (List.mem_singleton.mpr (show (p.1, p.2) = p from rfl)) hz hf) T.z_isinstance (da_cons (dv 0) (da_cons (de_glob T.gk_BadTime) da_nil))) (da_cons (de_callB (cd_isE T.xall_NoFlow (List.mem_singleton.mpr (show (p.1, p.2) = p from rfl)) hz hf) T.z_isinstance (da_cons (dv 0) (da_cons (de_glob T.gk_NoGround) da_nil))) (da_cons (de_callB (cd_isE T.xall_NoFlow (List.mem_singleton.mpr (show (p.1, p.2) = p from rfl)) hz hf) T.z_isinstance (da_cons (dv 0) (da_cons (de_glob T.gk_NoPlace) da_nil))) (da_cons (de_callB (cd_isE T.xall_NoFlow (List.mem_singleton.mpr (show (p.1, p.2) = p from rfl)) hz hf) T.z_isinstance (da_cons (dv 0) (da_cons (de_glob T.gk_NoProof) da_nil))) da_nil))))))
    (dss_cons (ds_set (i := 1) sc_law_which.nd (de_op oa_add (dv 1) (de_lst (da_cons (de_callB (cd_isE T.xall_NoFlow (List.mem_singleton.mpr (show (p.1, p.2) = p from rfl)) hz hf) T.z_isinstance (da_cons (dv 0) (da_cons (de_glob T.gk_NoKind) da_nil))) (da_cons (de_callB (cd_isE T.xall_NoFlow (List.mem_singleton.mpr (show (p.1, p.2) = p from rfl)) hz hf) T.z_isinstance (da_cons (dv 0) (da_cons (de_glob T.gk_BadText) da_nil))) (da_cons (de_callB (cd_isE T.xall_NoFlow (List.mem_singleton.mpr (show (p.1, p.2) = p from rfl)) hz hf) T.z_isinstance (da_cons (dv 0) (da_cons (de_glob T.gk_NoDeed) da_nil))) (da_cons (de_callB (cd_isE T.xall_NoFlow (List.mem_singleton.mpr (show (p.1, p.2) = p from rfl)) hz hf) T.z_isinstance (da_cons (dv 0) (da_cons (de_glob T.gk_NoRow) da_nil))) da_nil)))))))
    (dss_cons (ds_set (i := 1) sc_law_which.nd (de_op oa_add (dv 1) (de_lst (da_cons (de_callB (cd_isE T.xall_NoFlow (List.mem_singleton.mpr (show (p.1, p.2) = p from rfl)) hz hf) T.z_isinstance (da_cons (dv 0) (da_cons (de_glob T.gk_TooMany) da_nil))) (da_cons (de_callB (cd_isE T.xall_NoFlow (List.mem_singleton.mpr (show (p.1, p.2) = p from rfl)) hz hf) T.z_isinstance (da_cons (dv 0) (da_cons (de_glob T.gk_NotDone) da_nil))) (da_cons (de_callB (cd_isE T.xall_NoFlow (List.mem_singleton.mpr (show (p.1, p.2) = p from rfl)) hz hf) T.z_isinstance (da_cons (dv 0) (da_cons (de_glob T.gk_NoBook) da_nil))) (da_cons (de_callB (cd_isE T.xall_NoFlow (List.mem_singleton.mpr (show (p.1, p.2) = p from rfl)) hz hf) T.z_isinstance (da_cons (dv 0) (da_cons (de_glob T.gk_NoCall) da_nil))) da_nil)))))))
    (dss_cons (ds_set (i := 1) sc_law_which.nd (de_op oa_add (dv 1) (de_lst (da_cons (de_callB (cd_isE T.xall_NoFlow (List.mem_singleton.mpr (show (p.1, p.2) = p from rfl)) hz hf) T.z_isinstance (da_cons (dv 0) (da_cons (de_glob T.gk_NoEngine) da_nil))) (da_cons (de_callB (cd_isE T.xall_NoFlow (List.mem_singleton.mpr (show (p.1, p.2) = p from rfl)) hz hf) T.z_isinstance (da_cons (dv 0) (da_cons (de_glob T.gk_NoEngines) da_nil))) (da_cons (de_callB (cd_isE T.xall_NoFlow (List.mem_singleton.mpr (show (p.1, p.2) = p from rfl)) hz hf) T.z_isinstance (da_cons (dv 0) (da_cons (de_glob T.gk_NoLine) da_nil))) (da_cons (de_callB (cd_isE T.xall_NoFlow (List.mem_singleton.mpr (show (p.1, p.2) = p from rfl)) hz hf) T.z_isinstance (da_cons (dv 0) (da_cons (de_glob T.gk_NoJoin) da_nil))) da_nil)))))))
    (dss_cons (ds_set (i := 1) sc_law_which.nd (de_op oa_add (dv 1) (de_lst (da_cons (de_callB (cd_isE T.xall_NoFlow (List.mem_singleton.mpr (show (p.1, p.2) = p from rfl)) hz hf) T.z_isinstance (da_cons (dv 0) (da_cons (de_glob T.gk_NoFlow) da_nil))) (da_cons (de_callB (cd_isE T.xall_NoFlow (List.mem_singleton.mpr (show (p.1, p.2) = p from rfl)) hz hf) T.z_isinstance (da_cons (dv 0) (da_cons (de_glob T.gk_Late) da_nil))) (da_cons (de_callB (cd_isE T.xall_NoFlow (List.mem_singleton.mpr (show (p.1, p.2) = p from rfl)) hz hf) T.z_isinstance (da_cons (dv 0) (da_cons (de_glob T.gk_Inside) da_nil))) (da_cons (de_callB (cd_isE T.xall_NoFlow (List.mem_singleton.mpr (show (p.1, p.2) = p from rfl)) hz hf) T.z_isinstance (da_cons (dv 0) (da_cons (de_glob T.gk_Dead) da_nil))) da_nil)))))))
    (dss_cons (ds_set (i := 1) sc_law_which.nd (de_op oa_add (dv 1) (de_lst (da_cons (de_callB (cd_isE T.xall_NoFlow (List.mem_singleton.mpr (show (p.1, p.2) = p from rfl)) hz hf) T.z_isinstance (da_cons (dv 0) (da_cons (de_glob T.gk_NoTeam) da_nil))) (da_cons (de_callB (cd_isE T.xall_NoFlow (List.mem_singleton.mpr (show (p.1, p.2) = p from rfl)) hz hf) T.z_isinstance (da_cons (dv 0) (da_cons (de_glob T.gk_NoWearer) da_nil))) (da_cons (de_callB (cd_isE T.xall_NoFlow (List.mem_singleton.mpr (show (p.1, p.2) = p from rfl)) hz hf) T.z_isinstance (da_cons (dv 0) (da_cons (de_glob T.gk_NoBoard) da_nil))) (da_cons (de_callB (cd_isE T.xall_NoFlow (List.mem_singleton.mpr (show (p.1, p.2) = p from rfl)) hz hf) T.z_isinstance (da_cons (dv 0) (da_cons (de_glob T.gk_NoText) da_nil))) da_nil)))))))
    (dss_cons (ds_set (i := 1) sc_law_which.nd (de_op oa_add (dv 1) (de_lst (da_cons (de_callB (cd_isE T.xall_NoFlow (List.mem_singleton.mpr (show (p.1, p.2) = p from rfl)) hz hf) T.z_isinstance (da_cons (dv 0) (da_cons (de_glob T.gk_Nothing) da_nil))) (da_cons (de_callB (cd_isE T.xall_NoFlow (List.mem_singleton.mpr (show (p.1, p.2) = p from rfl)) hz hf) T.z_isinstance (da_cons (dv 0) (da_cons (de_glob T.gk_NoSaying) da_nil))) da_nil)))))
    (dss_cons (ds_set (i := 2) sc_law_which.nd de_str)
    (dss_cons (ds_set (i := 2) sc_law_which.nd (de_op oa_add (dv 2) de_str))
    (dss_cons (ds_set (i := 2) sc_law_which.nd (de_op oa_add (dv 2) de_str))
    (dss_cons (ds_if (dt_cmp (oc_neU (unH hr)) (de_count (unH5 hr) (dv 1) (da_cons de_bl da_nil)) de_int) (dss_one (ds_ret de_str)) dss_nil)
    (dss_one (ds_ret (de_ix (de_split (dv 2) de_str) (de_indexU (unH5 hr) (dv 1) (da_cons de_bl da_nil))))))))))))))))) (fun ws S Q E h => len_law_which h) (hd_law_which T p.1 cls d)
end
theorem tryAs_go {K : PySem.W.Frag} {C : Value} {i : Nat} {tb : DS'} {ts : Addr → Value → Option Addr → DS'} {D : Out} {ω : Om} {S : Sto} (h : tb { nx := fun ω' S' => D.nx ⟨ω'.s, ω.ex⟩ S', rt := D.rt, bk := fun ω' S' => D.bk ⟨ω'.s, ω.ex⟩ S', ct := fun ω' S' => D.ct ⟨ω'.s, ω.ex⟩ S' }
  ⟨ω.s, fun c fs l S' => ∃ b, PySem.W.exmOne K c C = some b ∧ (b = true → ∀ a d, fs.isSome = d.isSome → ts a c d { nx := fun _ _ => False, rt := D.rt } ⟨l.set i (some (exW a d fs)), XF⟩ S') ∧ (b = false → ω.ex c fs l S')⟩ S) : dTryAs K C i tb ts D ω S := h
abbrev s_law_said : Stmt := topS 60
abbrev N_law_said : List Str := ["_law_deed", "_law_e"]
theorem sc_law_said : FnScope N_law_said ["_law_deed"] (defScope s_law_said) := ⟨rfl, rfl, rfl, by decide +kernel, rfl, by decide +kernel, by decide +kernel⟩
theorem st_law_said {x0 : W} : ζg N_law_said [x0] = [some x0, none] := rfl
def td_law_said (K : PySem.W.Frag) (c_NoFlow : Addr) (f c : Addr) (q : Str) (vs : List V) (xs : List W) (tl : XW → Sto → WQ → Prop) : DS' :=
    (dTryAs K (.ref c_NoFlow) 1 (ζV (dAct f c q vs xs tl)) (fun a cls d => (ζV (dIf (ζL (ζi (dOp dEq (ζu ((sp_law_which c_NoFlow) a cls d) (ζl (ζB 1) ζO)) (dC (.str "NoFlow")))) (ζK (dCB (dIsE K [c_NoFlow] a cls d) (ζl (ζB 1) (ζl (dC (.ty "ArithmeticError")) ζO))))) (ζP (ζl (dXf [c_NoFlow] a cls d "join" (ζB 1)) (ζl (dXf [c_NoFlow] a cls d "why" (ζB 1)) ζO))) (dC .non)))))
def sp_law_said (C : Addr) : LT := fun tl S Q => ∀ (E' : XW) (Q' : WQ), (∀ w S', Q w S' → Q' w S') → (∀ (n y : Nat) S', Q (.tup [.int (n : Nat), .str (whyS y)]) S' → E' (.ref C) (noFlow n y) S') → tl E' S Q'
theorem hd_law_said {K : PySem.W.Frag} {w : World} {mg : Str → Option Value} {c_Line c_BadTime c_NoGround c_NoPlace c_NoProof c_NoKind c_BadText c_NoDeed c_NoRow c_TooMany c_NotDone c_NoBook c_NoCall c_NoEngine c_NoEngines c_NoLine c_NoJoin c_NoFlow c_Late c_Inside c_Dead c_NoTeam c_NoWearer c_NoBoard c_NoText c_Nothing c_NoSaying : Addr} (T : Txt K w mg c_Line c_BadTime c_NoGround c_NoPlace c_NoProof c_NoKind c_BadText c_NoDeed c_NoRow c_TooMany c_NotDone c_NoBook c_NoCall c_NoEngine c_NoEngines c_NoLine c_NoJoin c_NoFlow c_Late c_Inside c_Dead c_NoTeam c_NoWearer c_NoBoard c_NoText c_Nothing c_NoSaying) (ex : PySem.W.exmOne K (.ref c_NoFlow) (.ref c_NoFlow) = some true) (f c : Addr) (q : Str) (vs : List V) (xs : List W) (tl : XW → Sto → WQ → Prop) (S Q) (h : sp_law_said c_NoFlow tl S Q) : td_law_said K c_NoFlow f c q vs xs tl { nx := fun _ S' => frzQ Q .non S', rt := frzQ Q } ⟨ζg N_law_said [.lam f c q vs xs], XF⟩ S := by
  simp only [st_law_said, td_law_said]
  refine tryAs_go ?_
  refine ret_go ⟨rfl, h _ _ (fun w S' hq => frzQ.mk hq) fun n y S' hq => ?_⟩
  refine ⟨true, ex, fun _ a d hd => ?_, fun e => (nomatch e)⟩
  refine ret_go ?_
  refine ifE_go ?_
  refine and_b (a := true) (b := true) (fun Q h => ?_) (fun _ Q h => ?_) ?_
  · (array_get_dec)
    refine ⟨_, _, rfl, rfl, ?_⟩
    refine ⟨rfl, rfl, ?_⟩
    simp only [view_c_str, weq_str, decide_true]
    exact h
  · (array_get_dec)
    refine isE_goT List.mem_cons_self T.kb_NoFlow_ArithmeticError ?_
    exact h
  · rw [if_pos (show (true && true) = true from rfl)]
    (array_get_dec)
    simp only [dXf]
    (array_get_dec)
    have hd' : d.isSome = true := by rw [← hd]; rfl
    exact ⟨c_NoFlow, List.mem_cons_self, rfl, ["why", "join"], [.str (whyS y), .int n], .int n, rfl, hd', rfl, c_NoFlow, List.mem_cons_self, rfl, ["why", "join"], [.str (whyS y), .int n], .str (whyS y), rfl, hd', rfl, by decide, frzQ.mk hq⟩
section
variable {P : Program} {w : World} {K : PySem.W.Frag} {mg : Str → Option Value} {base : Heap} {c_Line c_BadTime c_NoGround c_NoPlace c_NoProof c_NoKind c_BadText c_NoDeed c_NoRow c_TooMany c_NotDone c_NoBook c_NoCall c_NoEngine c_NoEngines c_NoLine c_NoJoin c_NoFlow c_Late c_Inside c_Dead c_NoTeam c_NoWearer c_NoBoard c_NoText c_Nothing c_NoSaying : Addr}
theorem okL_law_said {g : Addr} {fd : FuncData} (F : Fun K "_law_said" "_law_said" s_law_said g fd) (T : Txt K w mg c_Line c_BadTime c_NoGround c_NoPlace c_NoProof c_NoKind c_BadText c_NoDeed c_NoRow c_TooMany c_NotDone c_NoBook c_NoCall c_NoEngine c_NoEngines c_NoLine c_NoJoin c_NoFlow c_Late c_Inside c_Dead c_NoTeam c_NoWearer c_NoBoard c_NoText c_Nothing c_NoSaying) (P_law_which : HotD P w K mg base 1 "_law_which" (sp_law_which c_NoFlow)) (gx_NoFlow : mg "NoFlow" = some (.ref c_NoFlow)) (ex_NoFlow : PySem.W.exmOne K (.ref c_NoFlow) (.ref c_NoFlow) = some true) (hm : mg "_law_said" = some (.ref g)) (hk : PySem.W.keepIn K (.ref g) = true) (hb : Binds K fd ["_law_deed"] []) : CalL P w K mg base 2 "_law_said" "_law_deed" (sp_law_said c_NoFlow) :=
  Fun.okL F sc_law_said (fun f c q vs xs tl => td_law_said K c_NoFlow f c q vs xs tl) (fun cdv A outer s H f c q vs xs tl hr act =>
    (dss_one (ds_tryAs (i := 1) sc_law_said.nd ⟨rfl, by decide, .inl gx_NoFlow⟩ takes0 (fun W pn xe tk po => (dss_one (ds_ret (act _ _ _ _ _ tk)))) (fun a oe cls d pn hz hf => (dss_one (ds_ret (de_if (PW.pt (dw_and (dt_cmp (oc_eqU (unH (rmH hr _))) (de_callP P_law_which List.mem_cons_self hz hf (rmH hr _) (da_cons (dv 1) da_nil)) de_str) (dw_and1 (dt_tru (de_callB (cd_isE T.xall_NoFlow List.mem_cons_self hz hf) T.z_isinstance (da_cons (dv 1) (da_cons (de_ty T.z_ArithmeticError) da_nil))))))) (de_tup (da_cons (de_xf T.xfld_NoFlow_join List.mem_cons_self hz hf (dv 1)) (da_cons (de_xf T.xfld_NoFlow_why List.mem_cons_self hz hf (dv 1)) da_nil))) de_non))))))) (fun f c q vs xs tl S Q h => hd_law_said T ex_NoFlow f c q vs xs tl S Q h) hm hk hb
end
end DL
namespace L2
open PySem PySem.Spec PyProof.Rows
theorem preSum_list : ∀ is : List Int, preSum (fun i => is.getD i 0) is.length = is.sum
  | [] => rfl
  | q :: r => by
    show preSum (fun i => (q :: r).getD i 0) (r.length + 1) = (q :: r).sum
    rw [PySem.W.kdu_shift, List.sum_cons, ← preSum_list r]
    rfl
def tSumVals (td : TE) : TE := fun σ H Q => td σ H fun x H1 => ∃ (a : Addr) (kvs : List (Key × V)) (is : List Int), x = V.ref a ∧ H1 a = some (.dK kvs) ∧ kvs.map (·.2) = is.map V.int ∧ Q (.int is.sum) H1
section
variable {X : Cx} {o : Expr} {p pos apos mpos : Pos} {td : TE}
theorem pe_sumVals (hc : X.calm = true) (hg : Gl X "sum") (hm : X.mg "sum" = none) (hd : PE X o td) (hbase : attributeBase o "values" X.env (eval o X.env) = eval o X.env := by rfl) (hline : (apos.endLine == mpos.line) = true := by rfl)
    (hse : starEach [Expr.Call (.Attribute o "values" apos) [] [] mpos] X.env = [(false, eval (Expr.Call (.Attribute o "values" apos) [] [] mpos) X.env)] := by rfl) :
    PE X (.Call (.Name "sum" p) [.Call (.Attribute o "values" apos) [] [] mpos] [] pos) (tSumVals td) := by
  refine ⟨fun pins s σ H Q I h => ?_⟩
  refine wpAny_Call_Name_kw (ld_blt I hg hm (u := .builtin "sum") (by first | rfl | decide +kernel) ?_ (by first | decide +kernel | decide) (by first | decide +kernel | decide))
  rw [hse]
  refine PySem.callWith_builtin1 (wpAny_Call_method0_late hbase hline (thn (hd.run pins s σ H _ I h) fun v s1 ⟨x, H1, I1, r1, a, kvs, is, ex, ha, hv, q⟩ => ?_))
  subst ex
  obtain rfl : v = Value.ref a := r1
  obtain ⟨_, hsys, vs, rel, dof⟩ := dk_of I1.hok ha
  obtain ⟨ep, dat⟩ := dof.dictAt
  have dat' := dat
  obtain ⟨ob, es, ho, ex, hdat, hko, hpr, hnd⟩ := dat'
  refine ⟨"dict", "dict.values", F.plainAttrs_dict, F.slot_dict_values, F.type_dict_values, ⟨ob, ho, ex.1⟩, fun b e => ?_, Calls.callWith_builtin rfl (PySem.evalArgs_none ?_)⟩
  · cases e
    exact ⟨ob, ho, ex.2.1⟩
  refine call_meetsIn F.slot_dict_values ⟨ob, ho, ex.1⟩ F.entry_dict_values (F.args_dict_values_1 _) (meets_dict_values (mixKind X.prog X.w) a hsys) ⟨⟨vs, dof⟩, ?_⟩
  have k1 : ∀ b u, s1.heap.get? b = some u → (s1.heap.push { cls := .type "dict_values", data := .fields #[.ref a] }).get? b = some u := fun b u e => Heap.get?_push_of_some _ e
  have dat1 : (s1.heap.push { cls := .type "dict_values", data := .fields #[.ref a] }).DictAt (mixKind X.prog X.w) a vs ep := dat.keep k1
  have hlv : vs.length = is.length := by
    have e1 := congrArg List.length hv
    rw [List.length_map, List.length_map] at e1
    rw [← e1]
    exact (KV.length rel).symm
  have hval : ∀ (i : Nat) (v : Value), (∃ k, vs[i]? = some (k, v)) → ∃ t, v = Value.int (is.getD i 0) t := fun i v ⟨k, hk⟩ => by
    obtain ⟨x, h1, h2⟩ := KV.at' rel hk
    have e1 : (kvs.map (·.2))[i]? = some x := by rw [List.getElem?_map, h1] <;> rfl
    rw [hv, List.getElem?_map] at e1
    obtain ⟨j, hj, e2⟩ := Option.map_eq_some_iff.mp e1
    subst e2
    obtain ⟨t, e3⟩ := h2
    refine ⟨t, ?_⟩
    rw [e3, List.getD_eq_getElem?_getD, hj] <;> rfl
  refine call_sum_walkAnyS ?_
  have K := PySem.W.kdl_values (prog := X.prog) (w := X.w) (knd := mixKind X.prog X.w) (r := s1.heap.objs.size) (d := a) (kvs := vs) (ep := ep)
  obtain ⟨oI, St, hit, W, st⟩ := K.iter X.A.in1 { s1 with heap := s1.heap.push { cls := .type "dict_values", data := .fields #[.ref a] } } (I1.ok.hd hc) ⟨⟨_, Heap.get?_push_size _ rfl, rfl, rfl⟩, dat1⟩
  have hsz : (s1.heap.push { cls := .type "dict_values", data := .fields #[.ref a] }).objs.size = s1.heap.objs.size + 1 := Heap.size_push _ _
  have hlt : a < s1.heap.objs.size := Heap.lt_size ho
  refine hit _ _ ⟨(s1.heap.push { cls := .type "dict_values", data := .fields #[.ref a] }).objs.size, _, _, _, vs.length, _, _, (fun i => is.getD i 0), rfl, W.toS, st, fun b hb => ?_, hval, fun s' t' hm => ?_⟩
  · show b < ((s1.heap.push _).push oI).objs.size
    rw [Heap.size_push]
    rcases List.mem_cons.mp hb with e | hb
    · rw [e]; exact Nat.lt_succ_self _
    · rw [List.mem_singleton.mp hb, hsz]; exact Nat.lt_succ_of_lt (Nat.lt_succ_of_lt hlt)
  · have hk : ∀ b o, s1.heap.get? b = some o → s'.heap.get? b = some o := fun b o e =>
      hm.heap b o (fun hI => absurd (Heap.lt_size e) (by rw [List.mem_singleton.mp hI, hsz]; exact Nat.not_lt.mpr (Nat.le_succ _))) (Heap.get?_push_of_some _ (k1 b o e))
    rw [hlv, preSum_list]
    rw [Moved.eq_with hm]
    exact ⟨.int _, H1, I1.kept (t' := s'.toks) hk, ⟨t', rfl⟩, q⟩
end
end L2
namespace DL
open PySem PySem.Spec PyProof.Rows L2
def dSumV (to : DE') : DE' := fun ω S Q => to ω S fun w S1 => ∃ (a : Addr) (kvs : List (Key × W)) (is : List Int), w = .ref a ∧ S1 a = some (.dK kvs) ∧ kvs.map (·.2) = is.map W.int ∧ Q (.int is.sum) S1
section
variable {X : Cx} {Z : WX} {o : Expr} {p pos apos mpos : Pos} {to : DE'}
theorem de_sumV (ho : DE X Z o to) (hm : X.mg "sum" = none) (hc : X.calm = true := by rfl) (hg : Gl X "sum" := by rfl) (hbase : attributeBase o "values" X.env (eval o X.env) = eval o X.env := by rfl) (hline : (apos.endLine == mpos.line) = true := by rfl)
    (hse : starEach [Expr.Call (.Attribute o "values" apos) [] [] mpos] X.env = [(false, eval (Expr.Call (.Attribute o "values" apos) [] [] mpos) X.env)] := by rfl) : DE X Z (.Call (.Name "sum" p) [.Call (.Attribute o "values" apos) [] [] mpos] [] pos) (dSumV to) :=
  PE.im (pe_sumVals hc hg hm ho hbase hline hse) fun σ H Q ⟨ω, S, Qd, a, h, f⟩ => by
    refine ⟨ω, S, _, a, h, fun w S1 v H1 x1 r1 q1 ⟨b, kvs, is, e, hS, he, hq⟩ => ?_⟩
    subst e
    cases q1
    cases r1 _ _ hS with
    | @dK _ gs hH rs =>
      refine ⟨b, gs, is, rfl, hH, ?_, f _ _ _ _ x1 r1 (.int _) hq⟩
      have := RWp.snd rs
      rw [he] at this
      exact rws_ints this
end
theorem cut_lastX (xs : List W) (x : W) : cut (xs ++ [x]) none (some (-1)) = xs := by
  unfold cut
  have e1 : HT.sIx (xs ++ [x]).length 0 none = 0 := rfl
  have e2 : HT.sIx (xs ++ [x]).length (xs ++ [x]).length (some (-1)) = xs.length := by
    unfold HT.sIx
    rw [List.length_append, List.length_singleton]
    simp
    omega
  rw [e1, e2, List.drop_zero, Nat.sub_zero, List.take_left']
  rfl
theorem lastX (xs : List W) (x : W) : L2.atI (xs ++ [x]) (-1) = some x := atI_last (List.getLast?_concat ..)
def wayW (w : List (Nat × Nq)) : W := .lst (w.map fun p => .tup [.int p.1, p.2.w])
def waysW (L : List (List (Nat × Nq))) : W := .lst (L.map wayW)
def numJ : Nat → List Jn → List (Nat × Nq)
  | _, [] => []
  | m, j :: js => (m + 1, .j j) :: numJ (m + 1) js
theorem numJ_len {m : Nat} {js : List Jn} : (numJ m js).length = js.length := by
  induction js generalizing m with
  | nil => rfl
  | cons j js ih => show (numJ (m + 1) js).length + 1 = _; rw [ih]; rfl
theorem numJ_snoc {m : Nat} {js : List Jn} {j : Jn} : numJ m (js ++ [j]) = numJ m js ++ [(m + js.length + 1, .j j)] := by
  induction js generalizing m with
  | nil => rfl
  | cons x js ih =>
    show (m + 1, Nq.j x) :: numJ (m + 1) (js ++ [j]) = (m + 1, Nq.j x) :: numJ (m + 1) js ++ _
    rw [ih, List.length_cons, show m + 1 + js.length + 1 = m + (js.length + 1) + 1 by omega]
    rfl
theorem foldr_ways {js : List Jn} {t : Pn} : ∀ {m : Nat}, (js.foldr Pn.cons t).ways m = (t.ways (m + js.length)).map (numJ m js ++ ·) := by
  induction js with
  | nil => intro m; show t.ways m = (t.ways m).map (([] : List (Nat × Nq)) ++ ·); exact (List.map_id' _).symm
  | cons j js ih =>
    intro m
    show ((js.foldr Pn.cons t).ways (m + 1)).map ((m + 1, .j j) :: ·) = _
    rw [ih, List.map_map, List.length_cons, show m + 1 + js.length = m + (js.length + 1) by omega]
    rfl
theorem Pn.ways_len {t : Pn} : ∀ {m : Nat}, (t.ways m).length ≤ t.cnt := by
  induction t with
  | noz f q => intro m; exact Nat.le_refl _
  | fork a b iha ihb =>
    intro m
    have h1 := iha (m := m)
    have h2 := ihb (m := m + a.cnt)
    show (a.ways m ++ b.ways (m + a.cnt)).length ≤ a.cnt + b.cnt
    rw [List.length_append]; omega
  | cons j t ih =>
    intro m
    have := ih (m := m + 1)
    show ((t.ways (m + 1)).map ((m + 1, .j j) :: ·)).length ≤ t.cnt + 1
    rw [List.length_map]; omega
theorem Pn.way_len {t : Pn} : ∀ {m : Nat} {w : List (Nat × Nq)}, w ∈ t.ways m → w.length ≤ t.cnt := by
  induction t with
  | noz f q => intro m w h; rw [List.mem_singleton.mp h]; exact Nat.le_refl _
  | fork a b iha ihb =>
    intro m w h
    show _ ≤ a.cnt + b.cnt
    rcases List.mem_append.mp h with h | h
    · have := iha h; omega
    · have := ihb h; omega
  | cons j t ih =>
    intro m w h
    obtain ⟨w', hw', rfl⟩ := List.mem_map.mp h
    have := ih hw'
    show w'.length + 1 ≤ t.cnt + 1
    omega
theorem Pt.splitP {d : Nat} {t : Pt} (h : t.ok d) : ∃ last : W, t.ws = t.js.map Jn.w ++ [last] ∧ t.js.length ≤ 7 ∧ (∀ j ∈ t.js, j.ok) ∧
    ((∃ f p, last = nozW f p ∧ t.pn = t.js.foldr Pn.cons (.noz f p)) ∨ ∃ a b : Pt, 0 < d ∧ last = forkW a.ws b.ws ∧ t.pn = t.js.foldr Pn.cons (.fork a.pn b.pn) ∧ a.ok (d - 1) ∧ b.ok (d - 1)) := by
  cases t with
  | noz js f p => exact ⟨_, rfl, h.1, h.2.1, .inl ⟨f, p, rfl, rfl⟩⟩
  | fork js a b => exact ⟨_, rfl, h.2.1, h.2.2.1, .inr ⟨a, b, h.1, rfl, rfl, h.2.2.2.1, h.2.2.2.2⟩⟩
theorem Pt.cnt_b {d : Nat} {t : Pt} (h : t.ok d) (d3 : d ≤ 3) : t.pn.cnt ≤ 120 := by
  have h1 := Pt.joins_len h
  have : 2 ^ d ≤ 2 ^ 3 := Nat.pow_le_pow_right (by decide) d3
  rw [Pt.pn_cnt]
  omega
def sp_law_ways : Nat → DSp
  | 0 => fun _ _ _ _ => False
  | d + 1 => fun ws S Q _ => ∃ (t : Pt) (m : Nat), ws = [.tup t.ws, .int m] ∧ t.ok d ∧ d ≤ 3 ∧ Q (.tup [waysW (t.pn.ways m), .int ((m + t.pn.cnt : Nat) : Int)]) S
theorem len_law_ways {d ws S Q E} (h : sp_law_ways (d + 1) ws S Q E) : ws.length = 2 := by obtain ⟨_, _, rfl, _⟩ := h; rfl
abbrev s_law_ways : Stmt := topS 57
abbrev N_law_ways : List Str := ["_law_tail", "_law_margin", "_law_number", "_law_way", "_law_part", "_law_last", "_law_found", "_law_some", "_law_more_here", "_law_one"]
theorem sc_law_ways : FnScope N_law_ways ["_law_tail", "_law_margin"] (defScope s_law_ways) := ⟨rfl, rfl, rfl, by decide +kernel, rfl, by decide +kernel, by decide +kernel⟩
theorem st_law_ways {x0 x1 : W} : ζg N_law_ways [x0, x1] = [some x0, some x1, none, none, none, none, none, none, none, none] := rfl
def td_law_ways (d : Nat) : DS' :=
    (ζU (ζY 2 (ζB 1))
    (ζU (ζY 3 (ζm ζO))
    (ζU (dFor (ζA (dSl (ζB 0) dNo (ζv (dUn ζI (dC (.int 1)))))) (.nm 4)
      (ζU (dAugI 2 (dC (.int 1)))
      (ζq (dBM ξa (ζB 3) (ζl (ζP (ζl (ζB 2) (ζl (ζB 4) ζO))) ζO)))))
    (ζU (ζY 5 (dOp dIx (ζB 0) (dUn ζI (dC (.int 1)))))
    (ζU (ζW (ζi (dOp dEq (dOp dIx (ζB 5) (dC (.int 0))) (dC (.str "nozzle")))) (ζV (ζP (ζl (ζQ (ζl (dOp ζH (ζB 3) (ζQ (ζl (ζP (ζl (dOp ζH (ζB 2) (dC (.int 1))) (ζl (ζB 5) ζO))) ζO))) ζO)) (ζl (dOp ζH (ζB 2) (dC (.int 1))) ζO)))) ζp)
    (ζU (ζY 6 (ζm ζO))
    (ζU (dFor (ζA (dSl (ζB 5) (ζv (dC (.int 1))) dNo)) (.nm 7)
      (ζU (ζr (.tp ((.nm 8) :: ((.nm 2) :: []))) (ζu (sp_law_ways d) (ζl (ζB 7) (ζl (ζB 2) ζO))))
      (ζq (dBM ξb (ζB 6) (ζl (dLc (ζA (ζB 8)) (.nm 9) dYes (dOp ζH (ζB 3) (ζB 9)) [9]) ζO)))))
    (ζV (ζP (ζl (ξc (ζB 6)) (ζl (ζB 2) ζO)))))))))))
local macro_rules | `(tactic| array_get_dec) => `(tactic| simp only [↓ζB,↓dC,↓dOp,↓dUn,↓dI,↓dI0,↓ζC,↓ζD,↓ζE,↓ζF,↓ζG,↓ζH,↓ζI,↓dEq,↓dNe,↓dLt,↓dLe,↓dGt,↓dGe,↓ζJ,↓ζh,↓ζK,↓ζi,↓ζb,↓ζL,↓dOr,↓ζM,↓ζj,↓ζN,↓ζk,↓dIf,↓ζO,↓ζl,↓ζP,↓ζQ,↓ζm,↓dCB,↓ζR,↓ζS,↓ζn,↓ζo,↓ζT,↓ζa,↓ζc,↓ζp,↓ζU,↓ζq,↓ζV,↓ζW,↓ζX,↓ζY,↓ζr,↓ζs,↓ζt,↓ζd,↓Om.set,↓ζu,↓dIx,↓dNo,↓ζv,↓dSl,↓ζZ,↓dBM,↓ξa,↓ξb,↓ζf,↓dIs,↓ξc,↓ξd,↓ζw,↓ζx,↓ζy,↓ζz,↓ξe,↓ζA,κa,κb,κc,κd,κe,κf,κg,κh,κi,↓ζg,↓wp,↓wps,↓dIn,κj,κk,κl,κm,κn,κo,κp,κq,κr,κs,κt,κu,κv,κw,κx,κy,κz,κA,κB,κC,κD,κE,κF,κG,κH,κI,κJ,κK,κL,κM,κN,κO,κP,κQ,κR,κS,κT,κU,κV,κW,κX,κY,κZ,ιa,ιb,ιc,ιd,ιe,ιf,ιg,ιh,ιi,ιj,ιk,ιl,ιm,ιn,ιo,ιp,ιq,ιr,ιs,ιt,ιu,ιv,ιw,ιx,ιy,ιz])
theorem hd_law_ways (d : Nat) (ws S Q E) (h : sp_law_ways (d + 1) ws S Q E) : td_law_ways d { nx := fun _ S' => frzQ Q .non S', rt := frzQ Q } ⟨ζg N_law_ways ws, XF⟩ S := by
  obtain ⟨t, m, rfl, ht, d3, q⟩ := h
  obtain ⟨last, e1, j7, jok, hlast⟩ := Pt.splitP ht
  have cb := Pt.cnt_b ht d3
  simp only [st_law_ways, td_law_ways]
  rw [e1]
  refine seq_go (set_go (.int (m : Nat)) S (fun Q hq => by (array_get_dec); exact hq) ?_)
  (((try unfold ζp); dsimp only; refine seq_go ?_))
  refine seq_go (setN_go (fun w S1 => ∃ l, w = .ref l ∧ S l = none ∧ S1 = up S l (.lst [])) (fun Q hq => ?_) ?_)
  · (array_get_dec)
    exact ⟨by decide, fun p hp => hq _ _ ⟨p, rfl, hp, rfl⟩⟩
  rintro _ _ ⟨l, rfl, hl, rfl⟩
  (((try unfold ζp); dsimp only; refine seq_go ?_))
  let W0 := fun (w : List (Nat × Nq)) => w.map fun p => W.tup [.int p.1, p.2.w]
  refine seq_go (forS (w := .tup (t.js.map Jn.w)) (xs := t.js.map Jn.w) (fun Q' h => ?_) rfl (fun i ω' S' => ∃ y4 y5 y6 y7 y8, ω' = ⟨[some (.tup (t.js.map Jn.w ++ [last])), some (.int m), some (.int ((m + i : Nat) : Int)), some (.ref l), y4, y5, y6, y7, y8, none], XF⟩ ∧ S' = up S l (.lst (W0 (numJ m (t.js.take i))))) ⟨_, _, _, _, _, rfl, rfl⟩ (fun _ _ _ _ => rfl) ?_ ?_)
  · (array_get_dec)
    rw [cut_lastX]
    exact h
  · rintro i w ω' S' hw ⟨y4, y5, y6, y7, y8, rfl, rfl⟩
    refine ⟨_, rfl, ?_⟩
    rw [List.getElem?_map] at hw
    cases hj : t.js[i]? with
    | none => rw [hj] at hw; cases hw
    | some j =>
    rw [hj] at hw
    cases hw
    have hi : i < t.js.length := (List.getElem?_eq_some_iff.mp hj).1
    refine seq_go ?_
    simp only [dAugI]
    refine ⟨_, rfl, ?_⟩
    (array_get_dec)
    refine ⟨1, rfl, ?_⟩
    have ei : ((m + i : Nat) : Int) + 1 = ((m + (i + 1) : Nat) : Int) := by omega
    rw [ei]
    refine ⟨isL_ref up_same, by decide, by show (List.map _ _).length < _; rw [List.length_map, numJ_len, List.length_take]; omega, _, _, _, _, _, rfl, ?_⟩
    rw [up_up, List.take_succ, hj]
    show up S l (.lst (W0 (numJ m (t.js.take i)) ++ [_])) = up S l (.lst (W0 (numJ m (t.js.take i ++ [j]))))
    rw [numJ_snoc, List.length_take, Nat.min_eq_left (Nat.le_of_lt hi)]
    show _ = up S l (.lst ((numJ m (t.js.take i) ++ _).map _))
    rw [List.map_append]
    rfl
  rintro ω' S' ⟨y4, y5, y6, y7, y8, rfl, rfl⟩
  rw [List.length_map, List.take_of_length_le (Nat.le_refl _)]
  (((try unfold ζp); dsimp only; refine seq_go ?_))
  refine seq_go (set_go last (up S l (.lst (W0 (numJ m t.js)))) (fun Q hq => ?_) ?_)
  · (array_get_dec)
    erw [lastX]
    exact hq
  (((try unfold ζp); dsimp only; refine seq_go ?_))
  rcases hlast with ⟨f, p, rfl, epn⟩ | ⟨a, b, d0, rfl, epn, ha, hb⟩
  · refine seq_go (if_b true (fun Q hq => ?_) (fun _ => ?_) (fun e => (nomatch e)))
    · simp only [nozW]
      (array_get_dec)
      exact ⟨rfl, rfl, hq⟩
    refine ret_go ?_
    (array_get_dec)
    have ew : waysW (t.pn.ways m) = .lst [.lst (W0 (numJ m t.js) ++ [.tup [.int ((m + t.js.length + 1 : Nat) : Int), nozW f p]])] := by
      rw [epn, foldr_ways]
      show W.lst [wayW (numJ m t.js ++ [(m + t.js.length + 1, Nq.n f p)])] = _
      unfold wayW
      rw [List.map_append]
      rfl
    have ec : t.pn.cnt = t.js.length + 1 := by rw [epn, foldr_cnt]; rfl
    rw [ew, ec] at q
    refine ⟨by decide, by decide, ?_⟩
    rw [view_ref (up_same (S := S) (a := l) (o := .lst (W0 (numJ m t.js))))]
    have ei : ((m + t.js.length : Nat) : Int) + 1 = ((m + t.js.length + 1 : Nat) : Int) := by omega
    rw [ei]
    refine ⟨by show (List.map _ _).length + _ ≤ _; rw [List.length_map, numJ_len]; simp; omega, by decide, by decide, ?_⟩
    refine ⟨_, _, Frz.drop (p := l) (o := .lst (W0 (numJ m t.js))) up_same (fun _ e => (nomatch e)), ?_⟩
    rw [del_new hl]
    exact q
  · refine seq_go (if_b false (fun Q hq => ?_) (fun e => (nomatch e)) (fun _ => ?_))
    · simp only [forkW]
      (array_get_dec)
      exact ⟨rfl, rfl, hq⟩
    (((try unfold ζp); dsimp only; refine seq_go ?_))
    obtain ⟨e, rfl⟩ : ∃ e, d = e + 1 := ⟨d - 1, by omega⟩
    rw [Nat.add_sub_cancel] at ha hb
    have ca := Pt.cnt_b ha (by omega)
    have cb2 := Pt.cnt_b hb (by omega)
    have c1 : cut [W.str "fork", .tup a.ws, .tup b.ws] (some 1) none = [.tup a.ws, .tup b.ws] := cut_drop (i := 1) (by show 1 ≤ 3; decide)
    have hlen : (W0 (numJ m t.js)).length = t.js.length := by show (List.map _ _).length = _; rw [List.length_map, numJ_len]
    refine seq_go (setN_go (fun w S1 => ∃ f, w = .ref f ∧ f ≠ l ∧ S f = none ∧ S1 = up (up S l (.lst (W0 (numJ m t.js)))) f (.lst [])) (fun Q hq => ?_) ?_)
    · (array_get_dec)
      refine ⟨by decide, fun p hp => hq _ _ ⟨p, rfl, ?_, ?_, rfl⟩⟩
      · intro e; subst e; rw [up_same] at hp; cases hp
      · by_cases e : p = l
        · subst e; exact hl
        · rw [up_ne e] at hp; exact hp
    rintro _ _ ⟨f, rfl, hfl, hf, rfl⟩
    (((try unfold ζp); dsimp only; refine seq_go ?_))
    let K0 := m + t.js.length
    let pre := fun (L : List (List (Nat × Nq))) => (L.map (numJ m t.js ++ ·)).map wayW
    have lk : ∀ (S' : Sto) (x0 x1 x2 x4 x5 x6 x7 : Option W) (L : List (List (Nat × Nq))) (Q : WQ), L.length ≤ 1000 → (∀ w ∈ L, w.length ≤ 1000) → S' l = some (.lst (W0 (numJ m t.js))) → Q (.lst (pre L)) S' → dLc (ζA (ζB 8)) (.nm 9) dYes (dOp ζH (ζB 3) (ζB 9)) [9] ⟨[x0, x1, x2, some (.ref l), x4, x5, x6, x7, some (waysW L), none], XF⟩ S' Q := fun S' x0 x1 x2 x4 x5 x6 x7 L Q hL hw hS hq => by
      have eg : pre L = (L.map wayW).map fun w => match w with | .lst ys => .lst (W0 (numJ m t.js) ++ ys) | _ => w := by
        show (L.map (numJ m t.js ++ ·)).map wayW = _
        rw [List.map_map, List.map_map]
        refine List.map_congr_left fun w _ => ?_
        show W.lst ((numJ m t.js ++ w).map _) = W.lst (W0 (numJ m t.js) ++ w.map _)
        rw [List.map_append]
      rw [eg] at hq
      refine lcMs (w := waysW L) (xs := L.map wayW) (fun Q' h => var_go rfl h) rfl _ (by rw [List.length_map]; omega) (fun _ _ _ => rfl) (fun w hw' => ?_) hq
      obtain ⟨y, hy, rfl⟩ := List.mem_map.mp hw'
      refine ⟨_, rfl, fun p acc hp Qe he => ?_⟩
      have hpl : l ≠ p := fun e => by subst e; rw [hS] at hp; cases hp
      have hl' : up S' p (.lst acc) l = some (.lst (W0 (numJ m t.js))) := by rw [up_ne hpl]; exact hS
      have hy' := hw y hy
      simp only [wayW] at he
      simp only [wayW]
      (array_get_dec)
      rw [view_ref hl']
      exact ⟨by rw [hlen, List.length_map]; omega, he⟩
    refine forS (w := .tup [.tup a.ws, .tup b.ws]) (xs := [.tup a.ws, .tup b.ws]) (fun Q' h => ?_) rfl (fun i ω' S' => ∃ y7 y8, ω' = ⟨[some (.tup (t.js.map Jn.w ++ [forkW a.ws b.ws])), some (.int m), some (.int (((if i = 0 then K0 else if i = 1 then K0 + a.pn.cnt else K0 + a.pn.cnt + b.pn.cnt) : Nat) : Int)), some (.ref l), y4, some (forkW a.ws b.ws), some (.ref f), y7, y8, none], XF⟩ ∧
      S' = up (up S l (.lst (W0 (numJ m t.js)))) f (.lst (if i = 0 then [] else if i = 1 then pre (a.pn.ways K0) else pre (a.pn.ways K0) ++ pre (b.pn.ways (K0 + a.pn.cnt))))) ⟨_, _, rfl, rfl⟩ (fun _ _ _ _ => rfl) ?_ ?_
    · simp only [forkW]
      (array_get_dec)
      rw [c1]
      exact h
    · rintro i w ω' S' hw ⟨y7, y8, rfl, rfl⟩
      refine ⟨_, rfl, ?_⟩
      have pl : ∀ L : List (List (Nat × Nq)), (pre L).length = L.length := fun L => by show ((L.map _).map _).length = _; rw [List.length_map, List.length_map]
      have la := Pn.ways_len (t := a.pn) (m := K0)
      have lb := Pn.ways_len (t := b.pn) (m := K0 + a.pn.cnt)
      match i, hw with
      | 0, hw =>
        cases hw
        refine seq_go (asgT_go (.tup [waysW (a.pn.ways K0), .int ((K0 + a.pn.cnt : Nat) : Int)]) (up (up S l (.lst (W0 (numJ m t.js)))) f (.lst [])) (fun Q hq => ?_) rfl ?_)
        · (array_get_dec)
          exact ⟨a, K0, rfl, ha, by omega, hq⟩
        (((try unfold ζp); dsimp only))
        refine ext_go (ys := pre (a.pn.ways K0)) rfl up_same (fun Q hq => ?_) (by rw [pl]; simp; omega) ⟨_, _, rfl, ?_⟩
        · exact lk _ _ _ _ _ _ _ _ _ _ (by omega) (fun w hw => by have := Pn.way_len hw; omega) (by rw [up_ne hfl.symm, up_same]) hq
        · rw [up_up]
          rfl
      | 1, hw =>
        cases hw
        refine seq_go (asgT_go (.tup [waysW (b.pn.ways (K0 + a.pn.cnt)), .int ((K0 + a.pn.cnt + b.pn.cnt : Nat) : Int)]) (up (up S l (.lst (W0 (numJ m t.js)))) f (.lst (pre (a.pn.ways K0)))) (fun Q hq => ?_) rfl ?_)
        · (array_get_dec)
          exact ⟨b, K0 + a.pn.cnt, rfl, hb, by omega, hq⟩
        (((try unfold ζp); dsimp only))
        refine ext_go (ys := pre (b.pn.ways (K0 + a.pn.cnt))) rfl up_same (fun Q hq => ?_) (by rw [pl]; simp [pl]; omega) ⟨_, _, rfl, ?_⟩
        · exact lk _ _ _ _ _ _ _ _ _ _ (by omega) (fun w hw => by have := Pn.way_len hw; omega) (by rw [up_ne hfl.symm, up_same]) hq
        · rw [up_up]
          rfl
      | _ + 2, hw => cases hw
    · rintro ω' S' ⟨y7, y8, rfl, rfl⟩
      (((try unfold ζp); dsimp only))
      refine ret_go ?_
      have ew : waysW (t.pn.ways m) = .lst (pre (a.pn.ways K0) ++ pre (b.pn.ways (K0 + a.pn.cnt))) := by
        rw [epn, foldr_ways]
        show W.lst (((a.pn.ways K0 ++ b.pn.ways (K0 + a.pn.cnt)).map _).map wayW) = _
        rw [List.map_append, List.map_append]
      have ec : m + t.pn.cnt = K0 + a.pn.cnt + b.pn.cnt := by
        rw [epn, foldr_cnt]
        show m + (t.js.length + (a.pn.cnt + b.pn.cnt)) = m + t.js.length + a.pn.cnt + b.pn.cnt
        omega
      rw [ew, ec] at q
      simp only [ζP, ζl, ζO, ξc]
      refine var_go rfl ?_
      refine ⟨_, _, Frz.lst (p := f) up_same, ?_⟩
      have hfn : up S l (.lst (W0 (numJ m t.js))) f = none := by rw [up_ne hfl]; exact hf
      rw [del_new hfn]
      refine var_go rfl ?_
      refine ⟨by show 2 ≤ _; decide, ?_⟩
      refine ⟨_, _, Frz.drop (p := l) (o := .lst (W0 (numJ m t.js))) up_same (fun _ e => (nomatch e)), ?_⟩
      rw [del_new hl]
      exact q
section
variable {P : Program} {w : World} {K : PySem.W.Frag} {mg : Str → Option Value} {base : Heap} {c_Line c_BadTime c_NoGround c_NoPlace c_NoProof c_NoKind c_BadText c_NoDeed c_NoRow c_TooMany c_NotDone c_NoBook c_NoCall c_NoEngine c_NoEngines c_NoLine c_NoJoin c_NoFlow c_Late c_Inside c_Dead c_NoTeam c_NoWearer c_NoBoard c_NoText c_Nothing c_NoSaying : Addr}
theorem okS_law_ways_0 {f : Addr} {fd : FuncData} (F : Fun K "_law_ways" "_law_ways" s_law_ways f fd) (T : Txt K w mg c_Line c_BadTime c_NoGround c_NoPlace c_NoProof c_NoKind c_BadText c_NoDeed c_NoRow c_TooMany c_NotDone c_NoBook c_NoCall c_NoEngine c_NoEngines c_NoLine c_NoJoin c_NoFlow c_Late c_Inside c_Dead c_NoTeam c_NoWearer c_NoBoard c_NoText c_Nothing c_NoSaying) (C_law_ways : CalD P w K mg base 3 "_law_ways" (sp_law_ways 0)) : FnOk P w K mg base CX0 4 f fd ["_law_tail", "_law_margin"] (uSp K (sp_law_ways 1)) :=
  Fun.okF F sc_law_ways (td_law_ways 0) (fun cdv A outer s H E hr =>
    (dss_cons (ds_set (i := 2) sc_law_ways.nd (dv 1))
    (dss_cons (ds_set (i := 3) sc_law_ways.nd (de_lstM da_nil))
    (dss_cons (ds_for PassesOwn.never (di_seq (de_sl (dv 0) do_none (do_some (de_neg de_int)))) (dg_nm (i := 4) sc_law_ways.nd)
      (dss_cons (ds_augI (i := 2) sc_law_ways.nd de_int)
      (dss_one (ds_expr (de_append (dv 3) (da_cons (de_tup (da_cons (dv 2) (da_cons (dv 4) da_nil))) da_nil))))))
    (dss_cons (ds_set (i := 5) sc_law_ways.nd (de_ix (dv 0) (de_neg de_int)))
    (dss_cons (ds_if (dt_cmp (oc_eq hr) (de_ix (dv 5) de_int) de_str) (dss_one (ds_ret (de_tup (da_cons (de_lst (da_cons (de_op oa_add (dv 3) (de_lst (da_cons (de_tup (da_cons (de_op oa_add (dv 2) de_int) (da_cons (dv 5) da_nil))) da_nil))) da_nil)) (da_cons (de_op oa_add (dv 2) de_int) da_nil))))) dss_nil)
    (dss_cons (ds_set (i := 6) sc_law_ways.nd (de_lstM da_nil))
    (dss_cons (ds_for PassesOwn.never (di_seq (de_sl (dv 5) (do_some de_int) do_none)) (dg_nm (i := 7) sc_law_ways.nd)
      (dss_cons (ds_asgT (de_call C_law_ways hr (da_cons (dv 7) (da_cons (dv 2) da_nil))) (dg_tp (dgs_cons (dg_nm (i := 8) sc_law_ways.nd) (dgs_cons (dg_nm (i := 2) sc_law_ways.nd) dgs_nil))))
      (dss_one (ds_expr (de_extend (dv 6) (da_cons (de_lc (own := [("_law_one", 9)]) sc_law_ways.nd (di_seq (dv 8)) (blkOk_by (own := [("_law_one", 9)]) (N := N_law_ways) (sc := defScope s_law_ways) (by decide +kernel)) (fun _ _ _ _ _ => (dg_nm (i := 9) sc_law_ways.nd)) (fun _ _ _ _ _ => dts_nil) (fun _ _ _ _ _ => (de_op oa_add (dv 3) (dv 9)))) da_nil))))))
    (dss_one (ds_ret (de_tup (da_cons (de_frz (dv 6)) (da_cons (dv 2) da_nil))))))))))))) (fun ws S Q E h => len_law_ways h) (hd_law_ways 0)
theorem okS_law_ways_1 {f : Addr} {fd : FuncData} (F : Fun K "_law_ways" "_law_ways" s_law_ways f fd) (T : Txt K w mg c_Line c_BadTime c_NoGround c_NoPlace c_NoProof c_NoKind c_BadText c_NoDeed c_NoRow c_TooMany c_NotDone c_NoBook c_NoCall c_NoEngine c_NoEngines c_NoLine c_NoJoin c_NoFlow c_Late c_Inside c_Dead c_NoTeam c_NoWearer c_NoBoard c_NoText c_Nothing c_NoSaying) (C_law_ways : CalD P w K mg base 4 "_law_ways" (sp_law_ways 1)) : FnOk P w K mg base CX0 5 f fd ["_law_tail", "_law_margin"] (uSp K (sp_law_ways 2)) :=
  Fun.okF F sc_law_ways (td_law_ways 1) (fun cdv A outer s H E hr =>
    (dss_cons (ds_set (i := 2) sc_law_ways.nd (dv 1))
    (dss_cons (ds_set (i := 3) sc_law_ways.nd (de_lstM da_nil))
    (dss_cons (ds_for PassesOwn.never (di_seq (de_sl (dv 0) do_none (do_some (de_neg de_int)))) (dg_nm (i := 4) sc_law_ways.nd)
      (dss_cons (ds_augI (i := 2) sc_law_ways.nd de_int)
      (dss_one (ds_expr (de_append (dv 3) (da_cons (de_tup (da_cons (dv 2) (da_cons (dv 4) da_nil))) da_nil))))))
    (dss_cons (ds_set (i := 5) sc_law_ways.nd (de_ix (dv 0) (de_neg de_int)))
    (dss_cons (ds_if (dt_cmp (oc_eq hr) (de_ix (dv 5) de_int) de_str) (dss_one (ds_ret (de_tup (da_cons (de_lst (da_cons (de_op oa_add (dv 3) (de_lst (da_cons (de_tup (da_cons (de_op oa_add (dv 2) de_int) (da_cons (dv 5) da_nil))) da_nil))) da_nil)) (da_cons (de_op oa_add (dv 2) de_int) da_nil))))) dss_nil)
    (dss_cons (ds_set (i := 6) sc_law_ways.nd (de_lstM da_nil))
    (dss_cons (ds_for PassesOwn.never (di_seq (de_sl (dv 5) (do_some de_int) do_none)) (dg_nm (i := 7) sc_law_ways.nd)
      (dss_cons (ds_asgT (de_call C_law_ways hr (da_cons (dv 7) (da_cons (dv 2) da_nil))) (dg_tp (dgs_cons (dg_nm (i := 8) sc_law_ways.nd) (dgs_cons (dg_nm (i := 2) sc_law_ways.nd) dgs_nil))))
      (dss_one (ds_expr (de_extend (dv 6) (da_cons (de_lc (own := [("_law_one", 9)]) sc_law_ways.nd (di_seq (dv 8)) (blkOk_by (own := [("_law_one", 9)]) (N := N_law_ways) (sc := defScope s_law_ways) (by decide +kernel)) (fun _ _ _ _ _ => (dg_nm (i := 9) sc_law_ways.nd)) (fun _ _ _ _ _ => dts_nil) (fun _ _ _ _ _ => (de_op oa_add (dv 3) (dv 9)))) da_nil))))))
    (dss_one (ds_ret (de_tup (da_cons (de_frz (dv 6)) (da_cons (dv 2) da_nil))))))))))))) (fun ws S Q E h => len_law_ways h) (hd_law_ways 1)
theorem okS_law_ways_2 {f : Addr} {fd : FuncData} (F : Fun K "_law_ways" "_law_ways" s_law_ways f fd) (T : Txt K w mg c_Line c_BadTime c_NoGround c_NoPlace c_NoProof c_NoKind c_BadText c_NoDeed c_NoRow c_TooMany c_NotDone c_NoBook c_NoCall c_NoEngine c_NoEngines c_NoLine c_NoJoin c_NoFlow c_Late c_Inside c_Dead c_NoTeam c_NoWearer c_NoBoard c_NoText c_Nothing c_NoSaying) (C_law_ways : CalD P w K mg base 5 "_law_ways" (sp_law_ways 2)) : FnOk P w K mg base CX0 6 f fd ["_law_tail", "_law_margin"] (uSp K (sp_law_ways 3)) :=
  Fun.okF F sc_law_ways (td_law_ways 2) (fun cdv A outer s H E hr =>
    (dss_cons (ds_set (i := 2) sc_law_ways.nd (dv 1))
    (dss_cons (ds_set (i := 3) sc_law_ways.nd (de_lstM da_nil))
    (dss_cons (ds_for PassesOwn.never (di_seq (de_sl (dv 0) do_none (do_some (de_neg de_int)))) (dg_nm (i := 4) sc_law_ways.nd)
      (dss_cons (ds_augI (i := 2) sc_law_ways.nd de_int)
      (dss_one (ds_expr (de_append (dv 3) (da_cons (de_tup (da_cons (dv 2) (da_cons (dv 4) da_nil))) da_nil))))))
    (dss_cons (ds_set (i := 5) sc_law_ways.nd (de_ix (dv 0) (de_neg de_int)))
    (dss_cons (ds_if (dt_cmp (oc_eq hr) (de_ix (dv 5) de_int) de_str) (dss_one (ds_ret (de_tup (da_cons (de_lst (da_cons (de_op oa_add (dv 3) (de_lst (da_cons (de_tup (da_cons (de_op oa_add (dv 2) de_int) (da_cons (dv 5) da_nil))) da_nil))) da_nil)) (da_cons (de_op oa_add (dv 2) de_int) da_nil))))) dss_nil)
    (dss_cons (ds_set (i := 6) sc_law_ways.nd (de_lstM da_nil))
    (dss_cons (ds_for PassesOwn.never (di_seq (de_sl (dv 5) (do_some de_int) do_none)) (dg_nm (i := 7) sc_law_ways.nd)
      (dss_cons (ds_asgT (de_call C_law_ways hr (da_cons (dv 7) (da_cons (dv 2) da_nil))) (dg_tp (dgs_cons (dg_nm (i := 8) sc_law_ways.nd) (dgs_cons (dg_nm (i := 2) sc_law_ways.nd) dgs_nil))))
      (dss_one (ds_expr (de_extend (dv 6) (da_cons (de_lc (own := [("_law_one", 9)]) sc_law_ways.nd (di_seq (dv 8)) (blkOk_by (own := [("_law_one", 9)]) (N := N_law_ways) (sc := defScope s_law_ways) (by decide +kernel)) (fun _ _ _ _ _ => (dg_nm (i := 9) sc_law_ways.nd)) (fun _ _ _ _ _ => dts_nil) (fun _ _ _ _ _ => (de_op oa_add (dv 3) (dv 9)))) da_nil))))))
    (dss_one (ds_ret (de_tup (da_cons (de_frz (dv 6)) (da_cons (dv 2) da_nil))))))))))))) (fun ws S Q E h => len_law_ways h) (hd_law_ways 2)
theorem okS_law_ways_3 {f : Addr} {fd : FuncData} (F : Fun K "_law_ways" "_law_ways" s_law_ways f fd) (T : Txt K w mg c_Line c_BadTime c_NoGround c_NoPlace c_NoProof c_NoKind c_BadText c_NoDeed c_NoRow c_TooMany c_NotDone c_NoBook c_NoCall c_NoEngine c_NoEngines c_NoLine c_NoJoin c_NoFlow c_Late c_Inside c_Dead c_NoTeam c_NoWearer c_NoBoard c_NoText c_Nothing c_NoSaying) (C_law_ways : CalD P w K mg base 6 "_law_ways" (sp_law_ways 3)) : FnOk P w K mg base CX0 7 f fd ["_law_tail", "_law_margin"] (uSp K (sp_law_ways 4)) :=
  Fun.okF F sc_law_ways (td_law_ways 3) (fun cdv A outer s H E hr =>
    (dss_cons (ds_set (i := 2) sc_law_ways.nd (dv 1))
    (dss_cons (ds_set (i := 3) sc_law_ways.nd (de_lstM da_nil))
    (dss_cons (ds_for PassesOwn.never (di_seq (de_sl (dv 0) do_none (do_some (de_neg de_int)))) (dg_nm (i := 4) sc_law_ways.nd)
      (dss_cons (ds_augI (i := 2) sc_law_ways.nd de_int)
      (dss_one (ds_expr (de_append (dv 3) (da_cons (de_tup (da_cons (dv 2) (da_cons (dv 4) da_nil))) da_nil))))))
    (dss_cons (ds_set (i := 5) sc_law_ways.nd (de_ix (dv 0) (de_neg de_int)))
    (dss_cons (ds_if (dt_cmp (oc_eq hr) (de_ix (dv 5) de_int) de_str) (dss_one (ds_ret (de_tup (da_cons (de_lst (da_cons (de_op oa_add (dv 3) (de_lst (da_cons (de_tup (da_cons (de_op oa_add (dv 2) de_int) (da_cons (dv 5) da_nil))) da_nil))) da_nil)) (da_cons (de_op oa_add (dv 2) de_int) da_nil))))) dss_nil)
    (dss_cons (ds_set (i := 6) sc_law_ways.nd (de_lstM da_nil))
    (dss_cons (ds_for PassesOwn.never (di_seq (de_sl (dv 5) (do_some de_int) do_none)) (dg_nm (i := 7) sc_law_ways.nd)
      (dss_cons (ds_asgT (de_call C_law_ways hr (da_cons (dv 7) (da_cons (dv 2) da_nil))) (dg_tp (dgs_cons (dg_nm (i := 8) sc_law_ways.nd) (dgs_cons (dg_nm (i := 2) sc_law_ways.nd) dgs_nil))))
      (dss_one (ds_expr (de_extend (dv 6) (da_cons (de_lc (own := [("_law_one", 9)]) sc_law_ways.nd (di_seq (dv 8)) (blkOk_by (own := [("_law_one", 9)]) (N := N_law_ways) (sc := defScope s_law_ways) (by decide +kernel)) (fun _ _ _ _ _ => (dg_nm (i := 9) sc_law_ways.nd)) (fun _ _ _ _ _ => dts_nil) (fun _ _ _ _ _ => (de_op oa_add (dv 3) (dv 9)))) da_nil))))))
    (dss_one (ds_ret (de_tup (da_cons (de_frz (dv 6)) (da_cons (dv 2) da_nil))))))))))))) (fun ws S Q E h => len_law_ways h) (hd_law_ways 3)
end
section
variable {X : Cx} {Z : WX} {C f : Addr} {fd : FuncData} {ps ks : List Str} {dsp : DSp} {k n : Nat} {pins : List (Addr × Obj)} {σ : L2.St} {H : Hp} {s : Shared} {Q : VK} {us ws : List Value} {vs zs : List V}
end
section
variable (P : Program) (w : World) (K : PySem.W.Frag) (mg : Str → Option Value) (base : Heap) (k : Nat)
end
section
variable {X : Cx} {Z : WX} {e : Expr} {es : List Expr} {t tk : DA'} {C : Addr} {x : Str} {pos p : Pos} {k j n : Nat} {dsp : DSp} {ks : List Str} {ix : List Nat} {kws : List Keyword}
end
end DL
namespace My
open PySem PySem.Spec PyProof.Rows L2
section
variable {X : Cx} {pins : List (Addr × Obj)} {σ : L2.St} {H : Hp} {s : Shared} {a C : Addr} {f : Str} {y : V} {u : Value} {Q : Unit → Shared → Prop} {E : Value → Shared → Prop} {A : Around}
end
section
variable {X : Cx} {o e : Expr} {es : List Expr} {to te : TE} {ta : TA} {f : Str} {p p' p1 p2 pos : Pos}
end
section
variable {X : Cx} {pins : List (Addr × Obj)} {σ : L2.St} {H : Hp} {s : Shared} {a C dx : Addr} {f : Str} {y : V} {u : Value} {fs : List (Str × V)} {Q : Unit → Shared → Prop} {E : Value → Shared → Prop} {A : Around}
end
section
variable {X : Cx} {o e : Expr} {to te : TE} {f : Str} {p' pos : Pos}
end
end My
namespace DL
open PySem PySem.Spec PyProof.Rows L2
section
variable {X : Cx} {Z : WX} {e : Expr} {es : List Expr} {t : DA'} {C : Addr} {ns : List Str} {okV : List V → Prop} {okW : List W → Prop} {x : Str} {p pos pos' : Pos} {k j : Nat}
end
variable {P : Program} {w : World} {K : PySem.W.Frag} {mg : Str → Option Value} {base : Heap}
theorem ifE_b {t : DT'} {ta tb : DE'} {ω : Om} {S : Sto} {Q : WQ} (b : Bool) (h : ∀ Q : Bool → Sto → Prop, Q b S → t ω S Q) (ht : b = true → ta ω S Q) (hf : b = false → tb ω S Q) : dIf t ta tb ω S Q := by
  refine h _ ?_
  cases b with
  | true => rw [if_pos rfl]; exact ht rfl
  | false => rw [if_neg Bool.false_ne_true]; exact hf rfl
theorem lcFr {ti te : DE'} {tt : DT'} {T : Tg} {own : List Nat} {ω : Om} {S : Sto} {Q : WQ} {n : Int} (h : ∀ Q' : WQ, Q' (.int n) S → ti ω S Q') (h1 : n ≤ 100000 ∧ -100000 ≤ n) (f : Nat → Bool)
    (hb : ∀ i : Nat, i < n.toNat → ∃ ω2, ζt T (.int (i : Nat)) (wp ω own) = some ω2 ∧ ∀ p acc, S p = none → (∀ Qt : Bool → Sto → Prop, Qt (f i) (up S p (.lst acc)) → tt ω2 (up S p (.lst acc)) Qt) ∧ (f i = true → ∀ Qe : WQ, Qe (.int (i : Nat)) (up S p (.lst acc)) → te ω2 (up S p (.lst acc)) Qe))
    (q : Q (.lst (((List.range n.toNat).filter f).map fun (k : Nat) => .int (k : Int))) S) : dLc (ζx (ζl ti ζO)) T tt te own ω S Q := by
  refine h _ ⟨⟨by omega, by omega⟩, ?_⟩
  refine lcF (fun w => match w with | .int i => f i.toNat | _ => false) id (by rw [irange_len]; omega) (fun _ _ _ => trivial) (fun w hw => ?_) ?_
  · obtain ⟨i, hi⟩ := List.getElem?_of_mem hw
    obtain ⟨hi', rfl⟩ := irange_at hi
    exact hb i hi'
  · have e : (irange 0 n.toNat).filter (fun w => match w with | .int i => f i.toNat | _ => false) = ((List.range n.toNat).filter f).map fun (k : Nat) => W.int (k : Int) := by
      unfold irange
      rw [List.filter_map]
      have e1 : ((fun w => match w with | .int i => f i.toNat | _ => false) ∘ fun (i : Nat) => W.int (0 + (i : Int))) = f := by
        funext i
        show f ((0 + (i : Int)).toNat) = f i
        rw [Int.zero_add]; rfl
      rw [e1]
      refine List.map_congr_left fun i _ => ?_
      rw [Int.zero_add]
    rw [List.map_id, e]
    exact q
def kvD (D : List (Nat × Int)) : List (Key × W) := D.map fun p => (Sum.inl (p.1 : Int), W.int p.2)
theorem kvD_put {D : List (Nat × Int)} {k : Nat} {v : Int} : wput (kvD D) (.inl (k : Int)) (.int v) = kvD (putN D k v) := by
  have e : ((kvD D).any fun kv => decide (kv.1 = Sum.inl (k : Int))) = (D.any fun p => decide (p.1 = k)) := by
    unfold kvD
    rw [List.any_map]
    congr 1
    funext p
    show decide ((Sum.inl (p.1 : Int) : Key) = Sum.inl (k : Int)) = decide (p.1 = k)
    refine decide_eq_decide.mpr ⟨fun h => ?_, fun h => by rw [h]⟩
    have := Sum.inl.inj h
    omega
  unfold wput putN
  rw [e]
  split
  · unfold kvD
    rw [List.map_map, List.map_map]
    refine List.map_congr_left fun p _ => ?_
    show (if (Sum.inl (p.1 : Int) : Key) = Sum.inl (k : Int) then ((Sum.inl (p.1 : Int) : Key), W.int v) else (Sum.inl (p.1 : Int), W.int p.2)) = (Sum.inl (((if p.1 = k then (p.1, v) else p).1 : Nat) : Int), W.int (if p.1 = k then (p.1, v) else p).2)
    by_cases c : p.1 = k
    · rw [if_pos c, if_pos (by rw [c])]
    · rw [if_neg c, if_neg (fun h => c (by have := Sum.inl.inj h; omega))]
  · unfold kvD
    rw [List.map_append]
    rfl
theorem kvD_merge {L D : List (Nat × Int)} : wmerge (kvD D) (kvD L) = kvD (putAll D L) := by
  induction L generalizing D with
  | nil => rfl
  | cons p L ih =>
    show wmerge (wput (kvD D) (.inl (p.1 : Int)) (.int p.2)) (kvD L) = kvD (putAll (putN D p.1 p.2) L)
    rw [kvD_put, ih]
def prW (p : Nat × Int) : W := .tup [.int p.1, .int p.2]
theorem prsW_kv : ∀ L : List (Nat × Int), prsW (L.map prW) = some (kvD L)
  | [] => rfl
  | p :: L => by
    show (match wkey (.int (p.1 : Int)), prsW (L.map prW) with | some k, some m => some ((k, W.int p.2) :: m) | _, _ => none) = _
    rw [prsW_kv L]
    rfl
theorem putN_len {D : List (Nat × Int)} {k : Nat} {v : Int} : (putN D k v).length ≤ D.length + 1 := by
  unfold putN
  split
  · rw [List.length_map]; omega
  · rw [List.length_append]; exact Nat.le_refl _
theorem putAll_len {D L : List (Nat × Int)} : (putAll D L).length ≤ D.length + L.length := by
  induction L generalizing D with
  | nil => exact Nat.le_refl _
  | cons p L ih =>
    have h1 := ih (D := putN D p.1 p.2)
    have h2 := putN_len (D := D) (k := p.1) (v := p.2)
    show (putAll (putN D p.1 p.2) L).length ≤ _
    rw [List.length_cons]
    omega
theorem lkL_len : ∀ w : List (Nat × Nq), (lkL w).length ≤ w.length
  | [] => Nat.le_refl _
  | p :: w => by
    have h := lkL_len w
    have h2 : (lkN p).length ≤ 1 := by
      obtain ⟨m, q⟩ := p
      cases q with
      | j j => cases j <;> simp [lkN, lkJ]
      | n f p => exact Nat.zero_le _
    show (lkN p ++ lkL w).length ≤ _
    rw [List.length_append, List.length_cons]
    omega
theorem stepK_len {x : Nat} {st : WStK} {w : List (Nat × Nq)} : (stepK x st w).D.length ≤ st.D.length + w.length ∧ (stepK x st w).fl.length ≤ st.fl.length + 1 := by
  unfold stepK
  split
  · split
    · have h1 := putAll_len (D := st.D) (L := lkL w)
      have h2 := lkL_len w
      exact ⟨by show (putAll _ _).length ≤ _; omega, by show (st.fl ++ _).length ≤ _; rw [List.length_append]; exact Nat.le_refl _⟩
    · exact ⟨by omega, by omega⟩
  · rename_i i r hh
    have h1 := putAll_len (D := st.D) (L := lkL (w.drop i))
    have h2 := lkL_len (w.drop i)
    rw [List.length_drop] at h2
    exact ⟨by show (putAll _ _).length ≤ _; omega, by show (st.fl ++ _).length ≤ _; rw [List.length_append]; exact Nat.le_refl _⟩
theorem Pn.way_last {t : Pn} : ∀ {m : Nat} {w : List (Nat × Nq)}, w ∈ t.ways m → ∃ pre n f q, w = pre ++ [(n, .n f q)] := by
  induction t with
  | noz f q => intro m w h; exact ⟨[], m + 1, f, q, List.mem_singleton.mp h⟩
  | fork a b iha ihb =>
    intro m w h
    rcases List.mem_append.mp h with h | h
    · exact iha h
    · exact ihb h
  | cons j t ih =>
    intro m w h
    obtain ⟨w', hw', rfl⟩ := List.mem_map.mp h
    obtain ⟨pre, n, f, q, rfl⟩ := ih hw'
    exact ⟨(m + 1, .j j) :: pre, n, f, q, rfl⟩
def ndW : Option Nq → W
  | none => .non
  | some q => q.w
def stW (st : WStK) : W := .tup [ndW st.pt, .int (st.mr : Nat), .lst (st.fl.map W.int), .int ((st.D.map (·.2)).sum)]
def elW (p : Nat × Nq) : W := .tup [.int p.1, p.2.w]
def plS (S : Sto) (f p d : Addr) (found : List W) (fl : List Int) (D : List (Nat × Int)) : Sto := up (up (up S f (.lst found)) p (.lst (fl.map W.int))) d (.dK (kvD D))
section
variable {S : Sto} {f p d : Addr} {found : List W} {fl fl2 : List Int} {D D2 : List (Nat × Int)}
theorem pl_d : plS S f p d found fl D d = some (.dK (kvD D)) := up_same
theorem pl_p (h : p ≠ d) : plS S f p d found fl D p = some (.lst (fl.map W.int)) := by unfold plS; rw [up_ne h, up_same]
theorem pl_f (h : f ≠ d) (h2 : f ≠ p) : plS S f p d found fl D f = some (.lst found) := by unfold plS; rw [up_ne h, up_ne h2, up_same]
theorem pl_D : up (plS S f p d found fl D) d (.dK (kvD D2)) = plS S f p d found fl D2 := up_up
theorem pl_F (h : p ≠ d) : up (plS S f p d found fl D) p (.lst (fl2.map W.int)) = plS S f p d found fl2 D := by
  unfold plS
  rw [up_comm h.symm, up_up]
theorem pl_end (h : p ≠ d) (hp : up S f (.lst found) p = none) (hd : up S f (.lst found) d = none) : del (del (plS S f p d found fl D) p) d = up S f (.lst found) := by
  funext b
  unfold plS
  by_cases c : b = d
  · subst c; rw [del_same, hd]
  · rw [del_ne c]
    by_cases c2 : b = p
    · subst c2; rw [del_same, hp]
    · rw [del_ne c2, up_ne c, up_ne c2]
end
theorem lk_map (w : List (Nat × Nq)) : ((w.map elW).filter (fun e => match e with | .tup [_, .tup (y :: _)] => weq y (.str "leak") | _ => false)).map (fun e => match e with | .tup [n, .tup [_, l]] => W.tup [n, l] | e => e) = (lkL w).map prW := by
  induction w with
  | nil => rfl
  | cons p w ih =>
    obtain ⟨n, q⟩ := p
    rw [List.map_cons, List.filter_cons]
    show _ = (lkN (n, q) ++ lkL w).map prW
    rw [List.map_append, ← ih]
    have e1 : weq (.str ("leak" : Str)) (.str "leak") = true := by rw [weq_str]; decide +kernel
    have e2 : weq (.str ("hose" : Str)) (.str "leak") = false := by rw [weq_str]; decide +kernel
    have e3 : weq (.str ("pump" : Str)) (.str "leak") = false := by rw [weq_str]; decide +kernel
    have e4 : weq (.str ("nozzle" : Str)) (.str "leak") = false := by rw [weq_str]; decide +kernel
    cases q with
    | j j =>
      cases j with
      | leak l =>
        simp only [elW, Nq.w, Jn.w, e1, if_true]
        rfl
      | hose a b =>
        simp only [elW, Nq.w, Jn.w, e2]
        rfl
      | pump a b =>
        simp only [elW, Nq.w, Jn.w, e3]
        rfl
    | n f p =>
      simp only [elW, Nq.w, nozW, e4]
      rfl
theorem fold_len {x : Nat} : ∀ {ws : List (List (Nat × Nq))} {st : WStK}, (∀ w ∈ ws, w.length ≤ 120) → (ws.foldl (stepK x) st).D.length ≤ st.D.length + 120 * ws.length ∧ (ws.foldl (stepK x) st).fl.length ≤ st.fl.length + ws.length := by
  intro ws
  induction ws with
  | nil => intro st _; exact ⟨Nat.le_refl _, Nat.le_refl _⟩
  | cons w ws ih =>
    intro st h
    have h1 := ih (st := stepK x st w) fun w' hw' => h w' (List.mem_cons_of_mem _ hw')
    have h2 := stepK_len (x := x) (st := st) (w := w)
    have h3 := h w List.mem_cons_self
    rw [List.foldl_cons, List.length_cons]
    omega
theorem hits_nd (l : List Nat) : okD (.lst (l.map fun (k : Nat) => W.int (k : Int))) = true := ND.ok (n := 1) (ND.lst (n := 0) fun w hw => by obtain ⟨k, _, rfl⟩ := List.mem_map.mp hw; exact ND.int _) (by decide)
theorem elW_at {w : List (Nat × Nq)} {k : Nat} {e : Nat × Nq} (h : w[k]? = some e) : L2.atI (w.map elW) (k : Int) = some (elW e) := by
  rw [atI_n (by rw [List.length_map]; exact (List.getElem?_eq_some_iff.mp h).1), List.getElem?_map, h]
  rfl
theorem hitsK_lt {x : Nat} {w : List (Nat × Nq)} {i : Nat} {r : List Nat} (h : hitsK x w = i :: r) : i < w.length := by
  have : i ∈ hitsK x w := by rw [h]; exact List.mem_cons_self
  unfold hitsK at this
  exact List.mem_range.mp (List.mem_filter.mp this).1
abbrev s_law_plan : Stmt := topS 58
abbrev N_law_plan : List Str := ["_law_tail", "_law_ways_here", "_law_many", "_law_found", "_law_number", "_law_flows", "_law_leaks", "_law_part", "_law_margin", "_law_way", "_law_at", "_law_begun", "_law_k", "_law_one", "_law_some"]
theorem sc_law_plan : FnScope N_law_plan ["_law_tail"] (defScope s_law_plan) := ⟨rfl, rfl, rfl, by decide +kernel, rfl, by decide +kernel, by decide +kernel⟩
theorem st_law_plan {x0 : W} : ζg N_law_plan [x0] = [some x0, none, none, none, none, none, none, none, none, none, none, none, none, none, none] := rfl
def td_law_plan : DS' :=
    (ζU (ζr (.tp ((.nm 1) :: ((.nm 2) :: []))) (ζu (sp_law_ways 4) (ζl (ζB 0) (ζl (dC (.int 0)) ζO))))
    (ζU (ζY 3 (ζm ζO))
    (ζU (dFor (ζx (ζl (dOp ζH (ζB 2) (dC (.int 1))) ζO)) (.nm 4)
      (ζU (ζr (.tp ((.nm 5) :: ((.nm 6) :: ((.nm 7) :: ((.nm 8) :: []))))) (ζP (ζl (ζm ζO) (ζl dNewK (ζl (dC .non) (ζl (dC (.int 0)) ζO))))))
      (ζU (dFor (ζA (ζB 1)) (.nm 9)
        (ζU (ζY 10 (dLc (ζx (ζl (dCB ζR (ζl (ζB 9) ζO)) ζO)) (.nm 12) (ζi (dOp dEq (dOp dIx (dOp dIx (ζB 9) (ζB 12)) (dC (.int 0))) (ζB 4))) (ζB 12) [12]))
        (ζU (ζY 11 (dIf (ζi (dOp dNe (ζB 10) (ζQ ζO))) (dOp dIx (ζB 10) (dC (.int 0))) (dC (.int 0))))
        (ζU (ζW (dOr (ζi (dOp dNe (ζB 10) (ζQ ζO))) (ζi (dOp dEq (ζB 4) (dC (.int 0))))) (ζU (ζq (dBM ξa (ζB 5) (ζl (dOp dIx (dOp dIx (dOp dIx (ζB 9) (dUn ζI (dC (.int 1)))) (dC (.int 1))) (dC (.int 1))) ζO)))
          (ζq (dUpdL (ζB 6) (ζl (dLc (ζA (dSl (ζB 9) (ζv (ζB 11)) dNo)) (.tp ((.nm 13) :: ((.nm 14) :: []))) (ζi (dOp dEq (dOp dIx (ζB 14) (dC (.int 0))) (dC (.str "leak")))) (ζP (ζl (ζB 13) (ζl (dOp dIx (ζB 14) (dC (.int 1))) ζO))) [13, 14]) ζO)))) ζp)
        (ζW (ζi (dOp dNe (ζB 10) (ζQ ζO))) (ζU (ζY 7 (dOp dIx (dOp dIx (ζB 9) (ζB 11)) (dC (.int 1))))
          (ζY 8 (dIf (ζi (dOp dGt (ζB 11) (dC (.int 0)))) (dOp dIx (dOp dIx (ζB 9) (dOp ζC (ζB 11) (dC (.int 1)))) (dC (.int 0))) (dC (.int 0))))) ζp)))))
      (ζq (dBM ξa (ζB 3) (ζl (ζP (ζl (ζB 7) (ζl (ζB 8) (ζl (ξc (ζB 5)) (ζl (ξc (dSumV (ζB 6))) ζO))))) ζO))))))
    (ζV (ζB 3)))))
def plR (t : Pt) : List W := (List.range (t.pn.cnt + 1)).map fun x => stW ((t.pn.ways 0).foldl (stepK x) ⟨[], [], none, 0⟩)
def sp_law_plan : DSp := fun ws S Q _ => ∃ (t : Pt), ws = [.tup t.ws] ∧ t.ok 3 ∧ Q (.lst (plR t)) S
theorem len_law_plan {ws S Q E} (h : sp_law_plan ws S Q E) : ws.length = 1 := by obtain ⟨_, rfl, _⟩ := h; rfl
local macro_rules | `(tactic| array_get_dec) => `(tactic| simp only [↓ζB,↓dC,↓dOp,↓dUn,↓dI,↓dI0,↓ζC,↓ζD,↓ζE,↓ζF,↓ζG,↓ζH,↓ζI,↓dEq,↓dNe,↓dLt,↓dLe,↓dGt,↓dGe,↓ζJ,↓ζh,↓ζK,↓ζi,↓ζb,↓ζL,↓dOr,↓ζM,↓ζj,↓ζN,↓ζk,↓dIf,↓ζO,↓ζl,↓ζP,↓ζQ,↓ζm,↓dCB,↓ζR,↓ζS,↓ζn,↓ζo,↓ζT,↓ζa,↓ζc,↓ζp,↓ζU,↓ζq,↓ζV,↓ζW,↓ζX,↓ζY,↓ζr,↓ζs,↓ζt,↓ζd,↓Om.set,↓ζu,↓dIx,↓dNo,↓ζv,↓dSl,↓ζZ,↓dBM,↓ξa,↓ξb,↓ζf,↓dIs,↓ξc,↓ξd,↓ζw,↓ζx,↓ζy,↓ζz,↓ξe,↓ζA,κa,κb,κc,κd,κe,κf,κg,κh,κi,↓ζg,↓wp,↓wps,↓dIn,κj,κk,κl,κm,κn,κo,κp,κq,κr,κs,κt,κu,κv,κw,κx,κy,κz,κA,κB,κC,κD,κE,κF,κG,κH,κI,κJ,κK,κL,κM,κN,κO,κP,κQ,κR,κS,κT,κU,κV,κW,κX,κY,κZ,ιa,ιb,ιc,ιd,ιe,ιf,ιg,ιh,ιi,ιj,ιk,ιl,ιm,ιn,ιo,ιp,ιq,ιr,ιs,ιt,ιu,ιv,ιw,ιx,ιy,ιz])
theorem hd_law_plan (ws S Q E) (h : sp_law_plan ws S Q E) : td_law_plan { nx := fun _ S' => frzQ Q .non S', rt := frzQ Q } ⟨ζg N_law_plan ws, XF⟩ S := by
  obtain ⟨t, rfl, ht, q⟩ := h
  have cb := Pt.cnt_b ht (by decide)
  have wl := Pn.ways_len (t := t.pn) (m := 0)
  simp only [st_law_plan, td_law_plan]
  refine seq_go (asgT_go (.tup [waysW (t.pn.ways 0), .int ((0 + t.pn.cnt : Nat) : Int)]) S (fun Q hq => ?_) rfl ?_)
  · (array_get_dec)
    exact ⟨t, 0, rfl, ht, by decide, hq⟩
  rw [Nat.zero_add]
  (((try unfold ζp); dsimp only; refine seq_go ?_))
  refine seq_go (setN_go (fun w S1 => ∃ f, w = .ref f ∧ S f = none ∧ S1 = up S f (.lst [])) (fun Q hq => ?_) ?_)
  · (array_get_dec)
    exact ⟨by decide, fun p hp => hq _ _ ⟨p, rfl, hp, rfl⟩⟩
  rintro _ _ ⟨f, rfl, hf, rfl⟩
  (((try unfold ζp); dsimp only; refine seq_go ?_))
  refine seq_go (forR (n := ((t.pn.cnt + 1 : Nat) : Int)) (fun Q' h => by (array_get_dec); exact h) (by omega) (fun x ω' S' => ∃ y4 y5 y6 y7 y8 y9 y10 y11, ω' = ⟨[some (.tup t.ws), some (waysW (t.pn.ways 0)), some (.int (t.pn.cnt : Nat)), some (.ref f), y4, y5, y6, y7, y8, y9, y10, y11, none, none, none], XF⟩ ∧ S' = up S f (.lst ((List.range x).map fun x => stW ((t.pn.ways 0).foldl (stepK x) ⟨[], [], none, 0⟩)))) ⟨_, _, _, _, _, _, _, _, rfl, rfl⟩ ?_ ?_)
  · rintro x ω' S' hx ⟨y4, y5, y6, y7, y8, y9, y10, y11, rfl, rfl⟩
    refine ⟨_, rfl, ?_⟩
    rw [Int.toNat_natCast] at hx
    obtain ⟨found, hfo⟩ : ∃ found, found = (List.range x).map fun x => stW ((t.pn.ways 0).foldl (stepK x) ⟨[], [], none, 0⟩) := ⟨_, rfl⟩
    have fl : found.length = x := by rw [hfo, List.length_map, List.length_range]
    rw [← hfo]
    refine seq_go ?_
    simp only [ζr, ζP, ζl, ζO, ζm]
    (array_get_dec)
    refine ⟨by decide, fun p hp d hd => ?_⟩
    have hfp : p ≠ f := fun e => by subst e; rw [up_same] at hp; cases hp
    have hpd : p ≠ d := fun e => by subst e; rw [up_same] at hd; cases hd
    have hfd : f ≠ d := fun e => by subst e; rw [up_ne hfp.symm, up_same] at hd; cases hd
    have hd' : up S f (.lst found) d = none := by rw [up_ne hpd.symm] at hd; exact hd
    refine ⟨by decide, ?_⟩
    (try unfold ζp)
    (try dsimp only)
    refine seq_go (forS (w := waysW (t.pn.ways 0)) (xs := (t.pn.ways 0).map wayW) (fun Q' h => var_go rfl h) rfl (fun j ω' S' => ∃ y9 y10 y11, ω' = ⟨[some (.tup t.ws), some (waysW (t.pn.ways 0)), some (.int (t.pn.cnt : Nat)), some (.ref f), some (.int (x : Nat)), some (.ref p), some (.ref d), some (ndW (((t.pn.ways 0).take j).foldl (stepK x) ⟨[], [], none, 0⟩).pt), some (.int ((((t.pn.ways 0).take j).foldl (stepK x) ⟨[], [], none, 0⟩).mr : Nat)), y9, y10, y11, none, none, none], XF⟩ ∧
      S' = plS S f p d found (((t.pn.ways 0).take j).foldl (stepK x) ⟨[], [], none, 0⟩).fl (((t.pn.ways 0).take j).foldl (stepK x) ⟨[], [], none, 0⟩).D) ⟨_, _, _, rfl, rfl⟩ (fun _ _ _ _ => rfl) ?_ ?_)
    · rintro j w' ω' S' hw ⟨y9, y10, y11, rfl, rfl⟩
      refine ⟨_, rfl, ?_⟩
      rw [List.getElem?_map] at hw
      cases hj : (t.pn.ways 0)[j]? with
      | none => rw [hj] at hw; cases hw
      | some w =>
      rw [hj] at hw
      cases hw
      have hm : w ∈ t.pn.ways 0 := List.mem_of_getElem? hj
      have hwl : w.length ≤ 120 := by have := Pn.way_len hm; omega
      have e1 : ((t.pn.ways 0).take (j + 1)).foldl (stepK x) ⟨[], [], none, 0⟩ = stepK x (((t.pn.ways 0).take j).foldl (stepK x) ⟨[], [], none, 0⟩) w := by
        rw [List.take_succ, hj, List.foldl_append]
        rfl
      rw [e1]
      have hb := fold_len (x := x) (ws := (t.pn.ways 0).take j) (st := ⟨[], [], none, 0⟩) fun w hw => by have := Pn.way_len (List.mem_of_mem_take hw); omega
      have hb2 : ((t.pn.ways 0).take j).length ≤ 120 := by rw [List.length_take]; omega
      generalize ((t.pn.ways 0).take j).foldl (stepK x) ⟨[], [], none, 0⟩ = st at hb
      have hb3 : st.D.length ≤ 120 * 120 ∧ st.fl.length ≤ 120 := by
        have h1 : st.D.length ≤ 0 + 120 * ((t.pn.ways 0).take j).length := hb.1
        have h2 : st.fl.length ≤ 0 + ((t.pn.ways 0).take j).length := hb.2
        omega
      obtain ⟨pre, n, fv, pv, hlast⟩ := Pn.way_last hm
      refine seq_go (set_go (.lst ((hitsK x w).map fun (k : Nat) => .int (k : Int))) (plS S f p d found st.fl st.D) (fun Q hq => ?_) ?_)
      · refine lcFr (n := ((w.length : Nat) : Int)) (fun Q' h => ?_) (by omega) (fun k => match w[k]? with | some p => p.1 == x | none => false) (fun k hk => ⟨_, rfl, fun p' acc hp' => ⟨fun Qt ht => ?_, fun _ Qe he => by (array_get_dec); exact he⟩⟩) hq
        · simp only [wayW]
          (array_get_dec)
          rw [List.length_map]
          exact h
        · have hk : k < w.length := hk
          have hkk := List.getElem?_eq_getElem hk
          rw [hkk] at ht
          have at1 := elW_at hkk
          simp only [wayW]
          (array_get_dec)
          erw [at1]
          simp only [elW]
          (array_get_dec)
          refine ⟨rfl, rfl, ?_⟩
          rw [weq_int]
          have eb : decide (((w[k].1 : Nat) : Int) = (x : Int)) = (w[k].1 == x) := by
            by_cases c : w[k].1 = x
            · rw [c]; simp
            · rw [decide_eq_false (by omega)]; simp [c]
          rw [eb]
          exact ht
      (((try unfold ζp); dsimp only; refine seq_go ?_))
      have lf : lastFq w = fv := by rw [hlast]; unfold lastFq; rw [List.getLast?_concat]
      have la : L2.atI (w.map elW) (-1) = some (elW (n, .n fv pv)) := by rw [hlast, List.map_append]; exact atI_last (List.getLast?_concat ..)
      have suite : ∀ (i : Nat) (y7 y8 y10 : Option W) (D0 : Out), i ≤ w.length → D0.nx ⟨[some (.tup t.ws), some (waysW (t.pn.ways 0)), some (.int (t.pn.cnt : Nat)), some (.ref f), some (.int (x : Nat)), some (.ref p), some (.ref d), y7, y8, some (wayW w), y10, some (.int (i : Nat)), none, none, none], XF⟩ (plS S f p d found (st.fl ++ [lastFq w]) (putAll st.D (lkL (w.drop i)))) →
          (ζU (ζq (dBM ξa (ζB 5) (ζl (dOp dIx (dOp dIx (dOp dIx (ζB 9) (dUn ζI (dC (.int 1)))) (dC (.int 1))) (dC (.int 1))) ζO))) (ζq (dUpdL (ζB 6) (ζl (dLc (ζA (dSl (ζB 9) (ζv (ζB 11)) dNo)) (.tp ((.nm 13) :: ((.nm 14) :: []))) (ζi (dOp dEq (dOp dIx (ζB 14) (dC (.int 0))) (dC (.str "leak")))) (ζP (ζl (ζB 13) (ζl (dOp dIx (ζB 14) (dC (.int 1))) ζO))) [13, 14]) ζO)))) D0
            ⟨[some (.tup t.ws), some (waysW (t.pn.ways 0)), some (.int (t.pn.cnt : Nat)), some (.ref f), some (.int (x : Nat)), some (.ref p), some (.ref d), y7, y8, some (wayW w), y10, some (.int (i : Nat)), none, none, none], XF⟩ (plS S f p d found st.fl st.D) := fun i y7 y8 y10 D0 hi hnx => by
        refine seq_go (app_go (.int fv) rfl (pl_p hpd) (fun Q hq => ?_) (by rw [List.length_map]; omega) ?_)
        · simp only [wayW]
          (array_get_dec)
          erw [la]
          simp only [elW, Nq.w, nozW]
          (array_get_dec)
          exact hq
        have ea : st.fl.map W.int ++ [W.int fv] = (st.fl ++ [lastFq w]).map W.int := by rw [List.map_append, lf]; rfl
        rw [ea, pl_F hpd]
        (((try unfold ζp); dsimp only))
        refine drop_go (var_go rfl ⟨?_, ?_⟩)
        · unfold isDc
          simp only [pl_d]
        simp only [ζl, ζO]
        refine lcFs (w := .lst ((w.drop i).map elW)) (xs := (w.drop i).map elW) (fun Q' h => ?_) rfl (fun e => match e with | .tup [_, .tup (y :: _)] => weq y (.str "leak") | _ => false) (fun e => match e with | .tup [n, .tup [_, l]] => W.tup [n, l] | e => e) (by rw [List.length_map, List.length_drop]; omega) (fun _ _ _ => rfl) (fun e he => ?_) ?_
        · simp only [wayW]
          (array_get_dec)
          have ec : cut (w.map elW) (some (i : Int)) none = (w.drop i).map elW := by rw [cut_drop (by rw [List.length_map]; exact hi), List.map_drop]
          erw [ec]
          exact h
        · obtain ⟨⟨k, nq⟩, hk, rfl⟩ := List.mem_map.mp he
          refine ⟨_, rfl, fun p' acc hp' => ⟨fun Qt ht => ?_, fun hl Qe hq => ?_⟩⟩
          · cases nq with
            | j j => cases j <;> (simp only [elW, Nq.w, Jn.w] at ht ⊢; (array_get_dec); exact ⟨rfl, rfl, ht⟩)
            | n f p => simp only [elW, Nq.w, nozW] at ht ⊢; (array_get_dec); exact ⟨rfl, rfl, ht⟩
          · cases nq with
            | j j => cases j <;> (simp only [elW, Nq.w, Jn.w] at hl hq ⊢; (array_get_dec); first | exact ⟨by decide, hq⟩ | exact absurd hl (by rw [weq_str]; decide +kernel))
            | n f p => simp only [elW, Nq.w, nozW] at hl; exact absurd hl (by rw [weq_str]; decide +kernel)
        · rw [lk_map]
          simp only [pl_d, prsW_kv]
          have l1 := lkL_len (w.drop i)
          rw [List.length_drop] at l1
          refine ⟨by unfold kvD; rw [List.length_map, List.length_map]; omega, ?_⟩
          rw [kvD_merge, pl_D]
          exact hnx
      have ne0 : weq (.lst ([] : List W)) (.lst []) = true := by decide +kernel
      cases hh : hitsK x w with
      | nil =>
        refine set_go (.int 0) (plS S f p d found st.fl st.D) (fun Q hq => ?_) ?_
        · refine ifE_b false (fun Q h => ?_) (fun e => nomatch e) (fun _ => by (array_get_dec); exact hq)
          (array_get_dec)
          refine ⟨by decide, by decide +kernel, by decide +kernel, ?_⟩
          rw [ne0]
          exact h
        (((try unfold ζp); dsimp only; refine seq_go ?_))
        have t0 : ∀ (y7 y8 y9 y11 y12 y13 y14 : Option W) (S1 : Sto) (Q : Bool → Sto → Prop), Q false S1 → ζi (dOp dNe (ζB 10) (ζQ ζO)) ⟨[some (.tup t.ws), some (waysW (t.pn.ways 0)), some (.int (t.pn.cnt : Nat)), some (.ref f), some (.int (x : Nat)), some (.ref p), some (.ref d), y7, y8, y9, some (.lst []), y11, y12, y13, y14], XF⟩ S1 Q := fun y7 y8 y9 y11 y12 y13 y14 S1 Q h => by
          (array_get_dec)
          refine ⟨by decide, by decide +kernel, by decide +kernel, ?_⟩
          rw [ne0]
          exact h
        refine if_b (decide (x = 0)) (fun Q hq => ?_) (fun c => ?_) (fun c => ?_)
        · refine or_b (a := false) (b := decide (x = 0)) (fun Q h => t0 _ _ _ _ _ _ _ _ _ h) (fun _ Q h => ?_) hq
          (array_get_dec)
          refine ⟨rfl, rfl, ?_⟩
          rw [weq_int]
          have eb : decide ((x : Int) = 0) = decide (x = 0) := decide_eq_decide.mpr (by omega)
          rw [eb]
          exact h
        · have c := of_decide_eq_true c
          have es : stepK x st w = ⟨st.fl ++ [lastFq w], putAll st.D (lkL w), st.pt, st.mr⟩ := by unfold stepK; rw [hh]; simp only [if_pos c]
          refine suite 0 _ _ _ _ (Nat.zero_le _) ?_
          (((try unfold ζp); dsimp only))
          refine if_b false (fun Q hq => t0 _ _ _ _ _ _ _ _ _ hq) (fun e => nomatch e) (fun _ => ?_)
          (((try unfold ζp); dsimp only))
          rw [es, List.drop_zero]
          exact ⟨_, _, _, rfl, rfl⟩
        · have c := of_decide_eq_false c
          have es : stepK x st w = st := by unfold stepK; rw [hh]; simp only [if_neg c]
          (((try unfold ζp); dsimp only))
          refine if_b false (fun Q hq => t0 _ _ _ _ _ _ _ _ _ hq) (fun e => nomatch e) (fun _ => ?_)
          (((try unfold ζp); dsimp only))
          rw [es]
          exact ⟨_, _, _, rfl, rfl⟩
      | cons i r =>
        have hi := hitsK_lt hh
        have ne1 : weq (.lst (.int (i : Nat) :: r.map fun (k : Nat) => W.int (k : Int))) (.lst []) = false := rfl
        have t1 : ∀ (y7 y8 y9 y11 y12 y13 y14 : Option W) (S1 : Sto) (Q : Bool → Sto → Prop), Q true S1 → ζi (dOp dNe (ζB 10) (ζQ ζO)) ⟨[some (.tup t.ws), some (waysW (t.pn.ways 0)), some (.int (t.pn.cnt : Nat)), some (.ref f), some (.int (x : Nat)), some (.ref p), some (.ref d), y7, y8, y9, some (.lst ((i :: r).map fun (k : Nat) => W.int (k : Int))), y11, y12, y13, y14], XF⟩ S1 Q := fun y7 y8 y9 y11 y12 y13 y14 S1 Q h => by
          (array_get_dec)
          refine ⟨by decide, hits_nd _, by decide +kernel, ?_⟩
          rw [ne1]
          exact h
        refine set_go (.int (i : Nat)) (plS S f p d found st.fl st.D) (fun Q hq => ?_) ?_
        · refine ifE_b true (fun Q h => t1 _ _ _ _ _ _ _ _ _ h) (fun _ => ?_) (fun e => nomatch e)
          (array_get_dec)
          exact hq
        (((try unfold ζp); dsimp only; refine seq_go ?_))
        refine if_b true (fun Q hq => or_b (a := true) (b := true) (fun Q h => t1 _ _ _ _ _ _ _ _ _ h) (fun e => nomatch e) hq) (fun _ => ?_) (fun e => nomatch e)
        refine suite i _ _ _ _ (Nat.le_of_lt hi) ?_
        (((try unfold ζp); dsimp only))
        refine if_b true (fun Q hq => t1 _ _ _ _ _ _ _ _ _ hq) (fun _ => ?_) (fun e => nomatch e)
        have hwi := List.getElem?_eq_getElem hi
        have at1 := elW_at hwi
        refine seq_go (set_go (ndW (some w[i].2)) (plS S f p d found (st.fl ++ [lastFq w]) (putAll st.D (lkL (w.drop i)))) (fun Q hq => ?_) ?_)
        · simp only [wayW]
          (array_get_dec)
          erw [at1]
          simp only [elW]
          (array_get_dec)
          exact hq
        (((try unfold ζp); dsimp only))
        have es : stepK x st w = ⟨st.fl ++ [lastFq w], putAll st.D (lkL (w.drop i)), some w[i].2, mrOf w i⟩ := by
          have h9 := stepK_hit (st := st) hh
          rw [hwi] at h9
          exact h9
        cases i with
        | zero =>
          refine set_go (.int 0) (plS S f p d found (st.fl ++ [lastFq w]) (putAll st.D (lkL (w.drop 0)))) (fun Q hq => ?_) ?_
          · refine ifE_b false (fun Q h => by (array_get_dec); exact h) (fun e => nomatch e) (fun _ => by (array_get_dec); exact hq)
          (((try unfold ζp); dsimp only))
          rw [es]
          exact ⟨_, _, _, rfl, rfl⟩
        | succ i =>
          have hwi2 := List.getElem?_eq_getElem (l := w) (i := i) (by omega)
          have at2 := elW_at hwi2
          refine set_go (.int ((w[i]'(by omega)).1 : Nat)) (plS S f p d found (st.fl ++ [lastFq w]) (putAll st.D (lkL (w.drop (i + 1))))) (fun Q hq => ?_) ?_
          · refine ifE_b true (fun Q h => ?_) (fun _ => ?_) (fun e => nomatch e)
            · (array_get_dec)
              have eb : decide (((i + 1 : Nat) : Int) > 0) = true := decide_eq_true (by omega)
              first | exact h | (rw [eb]; exact h)
            · simp only [wayW]
              (array_get_dec)
              have ei : ((i + 1 : Nat) : Int) - 1 = (i : Nat) := by omega
              rw [ei]
              erw [at2]
              simp only [elW]
              (array_get_dec)
              exact hq
          (((try unfold ζp); dsimp only))
          rw [es]
          have em : mrOf w (i + 1) = (w[i]'(by omega)).1 := by unfold mrOf; simp only [hwi2]
          rw [em]
          exact ⟨_, _, _, rfl, rfl⟩
    · rintro ω' S' ⟨y9, y10, y11, rfl, rfl⟩
      rw [List.length_map, List.take_of_length_le (Nat.le_refl _)]
      (((try unfold ζp); dsimp only))
      obtain ⟨st, hst⟩ : ∃ st, st = (t.pn.ways 0).foldl (stepK x) ⟨[], [], none, 0⟩ := ⟨_, rfl⟩
      rw [← hst]
      refine appD_go (fun w S1 => w = stW st ∧ S1 = up S f (.lst found)) rfl (pl_f hfd hfp.symm) (fun Q hq => ?_) ?_
      · simp only [ζP, ζl, ζO, ξc, dSumV]
        refine var_go rfl (var_go rfl (var_go rfl ?_))
        refine ⟨_, _, Frz.lst (p := p) (pl_p hpd), ?_⟩
        refine var_go rfl ?_
        have hdd : del (plS S f p d found st.fl st.D) p d = some (.dK (kvD st.D)) := by rw [del_ne hpd.symm]; exact pl_d
        refine ⟨d, kvD st.D, st.D.map (·.2), rfl, hdd, by unfold kvD; rw [List.map_map, List.map_map]; rfl, ?_⟩
        refine ⟨_, _, Frz.drop (p := d) hdd (fun _ e => nomatch e), ?_⟩
        rw [pl_end hpd hp hd']
        exact ⟨by show 4 ≤ _; decide, hq _ _ ⟨rfl, rfl⟩⟩
      · rintro _ _ ⟨rfl, rfl⟩
        refine ⟨up_same, by omega, _, _, _, _, _, _, _, _, rfl, ?_⟩
        rw [up_up, List.range_succ, List.map_append, ← hfo, hst]
        rfl
  · rintro ω' S' ⟨y4, y5, y6, y7, y8, y9, y10, y11, rfl, rfl⟩
    rw [Int.toNat_natCast]
    (((try unfold ζp); dsimp only))
    exact ret_go (var_go rfl (frzL hf q))
section
variable {P : Program} {w : World} {K : PySem.W.Frag} {mg : Str → Option Value} {base : Heap} {c_Line c_BadTime c_NoGround c_NoPlace c_NoProof c_NoKind c_BadText c_NoDeed c_NoRow c_TooMany c_NotDone c_NoBook c_NoCall c_NoEngine c_NoEngines c_NoLine c_NoJoin c_NoFlow c_Late c_Inside c_Dead c_NoTeam c_NoWearer c_NoBoard c_NoText c_Nothing c_NoSaying : Addr}
theorem ok_law_plan {f : Addr} {fd : FuncData} (F : Fun K "_law_plan" "_law_plan" s_law_plan f fd) (T : Txt K w mg c_Line c_BadTime c_NoGround c_NoPlace c_NoProof c_NoKind c_BadText c_NoDeed c_NoRow c_TooMany c_NotDone c_NoBook c_NoCall c_NoEngine c_NoEngines c_NoLine c_NoJoin c_NoFlow c_Late c_Inside c_Dead c_NoTeam c_NoWearer c_NoBoard c_NoText c_Nothing c_NoSaying) (C_law_ways : CalD P w K mg base 7 "_law_ways" (sp_law_ways 4)) : FnOk P w K mg base CX0 8 f fd ["_law_tail"] (uSp K (sp_law_plan)) :=
  Fun.okF F sc_law_plan (td_law_plan) (fun cdv A outer s H E hr =>
    (dss_cons (ds_asgT (de_call C_law_ways hr (da_cons (dv 0) (da_cons de_int da_nil))) (dg_tp (dgs_cons (dg_nm (i := 1) sc_law_plan.nd) (dgs_cons (dg_nm (i := 2) sc_law_plan.nd) dgs_nil))))
    (dss_cons (ds_set (i := 3) sc_law_plan.nd (de_lstM da_nil))
    (dss_cons (ds_for PassesOwn.never (di_range1 T.z_range (da_cons (de_op oa_add (dv 2) de_int) da_nil)) (dg_nm (i := 4) sc_law_plan.nd)
      (dss_cons (ds_asgT (de_tup (da_cons (de_lstM da_nil) (da_cons de_dnewK (da_cons de_non (da_cons de_int da_nil))))) (dg_tp (dgs_cons (dg_nm (i := 5) sc_law_plan.nd) (dgs_cons (dg_nm (i := 6) sc_law_plan.nd) (dgs_cons (dg_nm (i := 7) sc_law_plan.nd) (dgs_cons (dg_nm (i := 8) sc_law_plan.nd) dgs_nil))))))
      (dss_cons (ds_for PassesOwn.never (di_seq (dv 1)) (dg_nm (i := 9) sc_law_plan.nd)
        (dss_cons (ds_setLc (i := 10) (own := [("_law_k", 12)]) sc_law_plan.nd (di_range1 T.z_range (da_cons (de_callB cd_len T.z_len (da_cons (dv 9) da_nil)) da_nil)) (blkOk_by (own := [("_law_k", 12)]) (N := N_law_plan) (sc := defScope s_law_plan) (by decide +kernel)) (fun _ _ _ _ _ => (dg_nm (i := 12) sc_law_plan.nd)) (fun _ _ _ _ _ => (dts_one (dt_cmp (oc_eq hr) (de_ix (de_ix (dv 9) (dv 12)) de_int) (dv 4)))) (fun _ _ _ _ _ => (dv 12)) (sw_true rfl rfl rfl (by decide +kernel)))
        (dss_cons (ds_set (i := 11) sc_law_plan.nd (de_if (dt_cmp (oc_ne hr) (dv 10) (de_lst da_nil)) (de_ix (dv 10) de_int) de_int))
        (dss_cons (ds_if (PW.pt (dw_or (dt_cmp (oc_ne hr) (dv 10) (de_lst da_nil)) (dw_or1 (dt_cmp (oc_eq hr) (dv 4) de_int)))) (dss_cons (ds_expr (de_append (dv 5) (da_cons (de_ix (de_ix (de_ix (dv 9) (de_neg de_int)) de_int) de_int) da_nil)))
          (dss_one (ds_expr (de_updateL hr (dv 6) (da_cons (de_lc (own := [("_law_one", 13), ("_law_some", 14)]) sc_law_plan.nd (di_seq (de_sl (dv 9) (do_some (dv 11)) do_none)) (blkOk_by (own := [("_law_one", 13), ("_law_some", 14)]) (N := N_law_plan) (sc := defScope s_law_plan) (by decide +kernel)) (fun _ _ _ _ _ => (dg_tp (dgs_cons (dg_nm (i := 13) sc_law_plan.nd) (dgs_cons (dg_nm (i := 14) sc_law_plan.nd) dgs_nil)))) (fun _ _ _ _ _ => (dts_one (dt_cmp (oc_eq hr) (de_ix (dv 14) de_int) de_str))) (fun _ _ _ _ _ => (de_tup (da_cons (dv 13) (da_cons (de_ix (dv 14) de_int) da_nil))))) da_nil))))) dss_nil)
        (dss_one (ds_if (dt_cmp (oc_ne hr) (dv 10) (de_lst da_nil)) (dss_cons (ds_set (i := 7) sc_law_plan.nd (de_ix (de_ix (dv 9) (dv 11)) de_int))
          (dss_one (ds_set (i := 8) sc_law_plan.nd (de_if (dt_cmp oc_gt (dv 11) de_int) (de_ix (de_ix (dv 9) (de_op oa_sub (dv 11) de_int)) de_int) de_int)))) dss_nil))))))
      (dss_one (ds_expr (de_append (dv 3) (da_cons (de_tup (da_cons (dv 7) (da_cons (dv 8) (da_cons (de_frz (dv 5)) (da_cons (de_frz (de_sumV (dv 6) T.z_sum)) da_nil))))) da_nil)))))))
    (dss_one (ds_ret (dv 3))))))) (fun ws S Q E h => len_law_plan h) (hd_law_plan)
end
def So.isH : So → Bool
  | .hyd _ _ => true
  | .pond _ => false
def resW : Except (Nat × Nat) (List Int) → W
  | .ok xs => .lst (xs.map W.int)
  | .error e => .tup [.int (e.1 : Nat), .str (whyS e.2)]
def entKW (e : EntK) : W := .tup [e.1.w, .int (e.2.1 : Nat), .lst (e.2.2.1.map W.int), .int ((e.2.2.2.map (·.2)).sum)]
theorem plR_eq (t : Pt) : plR t = .tup [.non, .int 0, .lst (t.pn.flows.map W.int), .int (((t.pn.leaks 0).map (·.2)).sum)] :: (t.pn.ents 0 0).map entKW := by
  unfold plR
  rw [List.range_succ_eq_map, List.map_cons, fold_zero]
  refine congrArg (List.cons (stW ⟨t.pn.flows, t.pn.leaks 0, none, 0⟩)) ?_
  rw [List.map_map]
  refine List.ext_getElem? fun i => ?_
  rw [List.getElem?_map, List.getElem?_map]
  by_cases h : i < t.pn.cnt
  · have h2 : i < (t.pn.ents 0 0).length := by rw [Pn.ents_len]; exact h
    rw [List.getElem?_range h, List.getElem?_eq_getElem h2]
    show some (stW ((t.pn.ways 0).foldl (stepK (i + 1)) ⟨[], [], none, 0⟩)) = some (entKW _)
    rw [fold_at0 (List.getElem?_eq_getElem h2)]
    rfl
  · rw [List.getElem?_eq_none (by rw [List.length_range]; omega), List.getElem?_eq_none (by rw [Pn.ents_len]; omega)]
    rfl
theorem Pn.flows_b {t : Pn} (h : t.ok) : (∀ f ∈ t.flows, 0 ≤ f ∧ f ≤ 2000) ∧ t.flows.length ≤ t.cnt := by
  induction t with
  | noz f q => exact ⟨fun x hx => by rw [List.mem_singleton.mp hx]; exact h.1, Nat.le_refl _⟩
  | fork a b iha ihb =>
    have h1 := iha h.1
    have h2 := ihb h.2
    refine ⟨fun x hx => ?_, by show (a.flows ++ b.flows).length ≤ a.cnt + b.cnt; rw [List.length_append]; omega⟩
    rcases List.mem_append.mp hx with hx | hx
    · exact h1.1 x hx
    · exact h2.1 x hx
  | cons j t ih =>
    have h1 := ih h.2
    exact ⟨h1.1, Nat.le_succ_of_le h1.2⟩
theorem Pn.ents_ok {t : Pn} (h : t.ok) : ∀ {m mar : Nat} {e : EntK}, mar ≤ m → e ∈ t.ents m mar → e.1.ok ∧ (∀ f ∈ e.2.2.1, 0 ≤ f ∧ f ≤ 2000) ∧ e.2.2.1.length ≤ t.cnt ∧ ∀ sh : Int, 0 ≤ sh → sh ≤ 100 → 0 ≤ flowE sh e ∧ flowE sh e ≤ t.tak sh := by
  induction t with
  | noz f q =>
    intro m mar e hm he
    rw [List.mem_singleton.mp he]
    refine ⟨h, fun x hx => by rw [List.mem_singleton.mp hx]; exact h.1, Nat.le_refl _, fun sh h0 h1 => ?_⟩
    have e1 : flowE sh (Nq.n f q, mar, [f], []) = (Pn.noz f q).tak sh := Pn.flow_eq (t := .noz f q) (m := m)
    rw [e1]
    exact ⟨Pn.tak_nn h0 h, Int.le_refl _⟩
  | fork a b iha ihb =>
    intro m mar e hm he
    rcases List.mem_append.mp he with he | he
    · obtain ⟨e1, e2, e3, e4⟩ := iha h.1 hm he
      refine ⟨e1, e2, by show _ ≤ a.cnt + b.cnt; omega, fun sh h0 h1 => ?_⟩
      have := e4 sh h0 h1
      have hb := Pn.tak_nn h0 h.2
      show _ ∧ _ ≤ a.tak sh + b.tak sh
      omega
    · obtain ⟨e1, e2, e3, e4⟩ := ihb h.2 (by omega) he
      refine ⟨e1, e2, by show _ ≤ a.cnt + b.cnt; omega, fun sh h0 h1 => ?_⟩
      have := e4 sh h0 h1
      have hb := Pn.tak_nn h0 h.1
      show _ ∧ _ ≤ a.tak sh + b.tak sh
      omega
  | cons j t ih =>
    intro m mar e hm he
    have hj0 : 0 ≤ j.tk := by
      cases j with
      | leak l => exact h.1.1
      | _ => exact Int.le_refl _
    rcases List.mem_cons.mp he with rfl | he
    · have fb := Pn.flows_b h.2
      refine ⟨h.1, fb.1, Nat.le_succ_of_le fb.2, fun sh h0 h1 => ?_⟩
      have e1 : flowE sh (Nq.j j, mar, t.flows, lkJ (m + 1) j ++ t.leaks (m + 1)) = (Pn.cons j t).tak sh := Pn.flow_eq (t := .cons j t) (m := m)
      rw [e1]
      exact ⟨Pn.tak_nn h0 h, Int.le_refl _⟩
    · obtain ⟨e1, e2, e3, e4⟩ := ih h.2 (Nat.le_refl _) he
      refine ⟨e1, e2, Nat.le_succ_of_le e3, fun sh h0 h1 => ?_⟩
      have := e4 sh h0 h1
      show _ ∧ _ ≤ j.tk + t.tak sh
      omega
theorem Pn.ents_mar {t : Pn} : ∀ {m mar i : Nat} {e : EntK}, mar ≤ m → (t.ents m mar)[i]? = some e → e.2.1 ≤ m + i := by
  induction t with
  | noz f q =>
    intro m mar i e hm he
    have := List.mem_of_getElem? he
    rw [List.mem_singleton.mp this]
    show mar ≤ _
    omega
  | fork a b iha ihb =>
    intro m mar i e hm he
    replace he : (a.ents m mar ++ b.ents (m + a.cnt) mar)[i]? = some e := he
    by_cases lt : i < a.cnt
    · rw [List.getElem?_append_left (by rw [Pn.ents_len]; exact lt)] at he
      exact iha hm he
    · rw [List.getElem?_append_right (by rw [Pn.ents_len]; omega), Pn.ents_len] at he
      have := ihb (by omega) he
      omega
  | cons j t ih =>
    intro m mar i e hm he
    cases i with
    | zero => cases he; show mar ≤ _; omega
    | succ i =>
      have := ih (Nat.le_refl _) (show (t.ents (m + 1) (m + 1))[i]? = some e from he)
      omega
theorem walkE_n {sh f q : Int} {mar n : Nat} {fls : List Int} {lks : List (Nat × Int)} {es : List EntK} {found : List Int} : walkE sh ((.n f q, mar, fls, lks) :: es) found n = if found.getD mar 0 < q then .error (n, 2) else walkE sh es (found ++ [found.getD mar 0]) (n + 1) := rfl
theorem walkE_js {sh : Int} {j : Jn} {mar n : Nat} {fls : List Int} {lks : List (Nat × Int)} {es : List EntK} {found : List Int} {y : Nat} (h : j.why (j.beh (found.getD mar 0) (flowE sh (.j j, mar, fls, lks))) (flowE sh (.j j, mar, fls, lks)) = some y) : walkE sh ((.j j, mar, fls, lks) :: es) found n = .error (n, y) := by
  show (match j.why (j.beh (found.getD mar 0) (flowE sh (.j j, mar, fls, lks))) (flowE sh (.j j, mar, fls, lks)) with
    | some y => Except.error (n, y)
    | none => _) = _
  rw [h]
theorem walkE_jn {sh : Int} {j : Jn} {mar n : Nat} {fls : List Int} {lks : List (Nat × Int)} {es : List EntK} {found : List Int} (h : j.why (j.beh (found.getD mar 0) (flowE sh (.j j, mar, fls, lks))) (flowE sh (.j j, mar, fls, lks)) = none) : walkE sh ((.j j, mar, fls, lks) :: es) found n = walkE sh es (found ++ [j.beh (found.getD mar 0) (flowE sh (.j j, mar, fls, lks))]) (n + 1) := by
  show (match j.why (j.beh (found.getD mar 0) (flowE sh (.j j, mar, fls, lks))) (flowE sh (.j j, mar, fls, lks)) with
    | some y => Except.error (n, y)
    | none => _) = _
  rw [h]
theorem forEL {ti : DE'} {T : Tg} {tb : DS'} {D : Out} {ω : Om} {S : Sto} {xs : List W} (h : ∀ Q' : WQ, Q' (.lst xs) S → ti ω S Q') (P : Nat → Om → Sto → Prop) (h0 : P 0 ω S)
    (st : ∀ (i : Nat) w ω' S', xs[i]? = some w → P i ω' S' → ∃ ω2, ζt T (.tup [.int (i : Nat), w]) ω' = some ω2 ∧ tb { D with nx := P (i + 1), ct := P (i + 1), bk := D.nx } ω2 S') (fin : ∀ ω' S', P xs.length ω' S' → D.nx ω' S') : dFor (ζz (ζl ti ζO)) T tb D ω S := by
  refine h _ ⟨P, h0, fun _ _ _ _ => rfl, fun i u ω' S' hu p => ?_, fun ω' S' p => fin ω' S' (by rw [ienum_len] at p; exact p)⟩
  obtain ⟨w, hw, rfl⟩ := ienum_at' hu
  exact st i w ω' S' hw p
theorem flow_go {fl : List Int} {L sh : Int} {x0 x1 x3 x4 x5 x6 x9 x10 : Option W} {S : Sto} {Q : WQ} (hf : ∀ f ∈ fl, 0 ≤ f ∧ f ≤ 2000) (hl : fl.length ≤ 200) (hsh : 0 ≤ sh ∧ sh ≤ 100) (q : Q (.int (L + (fl.map fun f => f * sh / 100).sum)) S) :
    dOp ζH (ζB 8) (dCB dSumI (ζl (dLc (ζA (ζB 7)) (.nm 11) dYes (dOp ζE (dOp ζD (ζB 11) (ζB 2)) (dC (.int 100))) [11]) ζO)) ⟨[x0, x1, some (.int sh), x3, x4, x5, x6, some (.lst (fl.map W.int)), some (.int L), x9, x10, none], XF⟩ S Q := by
  refine var_go rfl ?_
  simp only [dCB, ζl, ζO]
  refine lcMs (w := .lst (fl.map W.int)) (xs := fl.map W.int) (fun Q' h => var_go rfl h) rfl (fun w => match w with | .int f => .int (f * sh / 100) | w => w) (by rw [List.length_map]; omega) (fun _ _ _ => rfl) (fun w hw => ?_) ?_
  · obtain ⟨f, hm, rfl⟩ := List.mem_map.mp hw
    have hb := hf f hm
    refine ⟨_, rfl, fun p acc hp Qe he => ?_⟩
    (array_get_dec)
    exact ⟨.inl ⟨by omega, by omega⟩, ⟨by decide, by decide⟩, he⟩
  · rw [List.map_map]
    refine ⟨fl.map fun f => f * sh / 100, ?_, ?_⟩
    · rw [List.map_map]; rfl
    · (array_get_dec)
      exact q
abbrev s_law_walked : Stmt := topS 59
abbrev N_law_walked : List Str := ["_law_head", "_law_plan_here", "_law_part_of", "_law_found", "_law_number", "_law_part", "_law_margin", "_law_flows", "_law_leaks", "_law_flow", "_law_pressure", "_law_one"]
theorem sc_law_walked : FnScope N_law_walked ["_law_head", "_law_plan_here", "_law_part_of"] (defScope s_law_walked) := ⟨rfl, rfl, rfl, by decide +kernel, rfl, by decide +kernel, by decide +kernel⟩
theorem st_law_walked {x0 x1 x2 : W} : ζg N_law_walked [x0, x1, x2] = [some x0, some x1, some x2, none, none, none, none, none, none, none, none, none] := rfl
def td_law_walked : DS' :=
    (ζU (ζY 3 (ζm (ζl (dIf (ζi (dOp dEq (dOp dIx (ζB 0) (dC (.int 0))) (dC (.str "hydrant")))) (dOp dIx (ζB 0) (dC (.int 1))) (dUn ζI (dOp dIx (ζB 0) (dC (.int 1))))) ζO)))
    (ζU (dFor (ζz (ζl (ζB 1) ζO)) (.tp ((.nm 4) :: ((.tp ((.nm 5) :: ((.nm 6) :: ((.nm 7) :: ((.nm 8) :: []))))) :: [])))
      (ζU (ζY 9 (dOp ζH (ζB 8) (dCB dSumI (ζl (dLc (ζA (ζB 7)) (.nm 11) dYes (dOp ζE (dOp ζD (ζB 11) (ζB 2)) (dC (.int 100))) [11]) ζO))))
      (ζU (ζW (ζi (dOp dEq (ζB 4) (dC (.int 0)))) (ζU (ζW (ζL (ζi (dOp dEq (dOp dIx (ζB 0) (dC (.int 0))) (dC (.str "hydrant")))) (ζi (dOp dGt (ζB 9) (dOp dIx (ζB 0) (dC (.int 2)))))) (ζV (ζP (ζl (dC (.int 0)) (ζl (dC (.str "flow")) ζO)))) ζp)
        ζX) ζp)
      (ζU (ζY 10 (dOp dIx (ζB 3) (ζB 6)))
      (ζU (ζW (ζi (dOp dEq (dOp dIx (ζB 5) (dC (.int 0))) (dC (.str "hose")))) (ζU (ζY 10 (dOp ζC (dOp ζC (ζB 10) (dOp ζE (dOp ζD (dOp ζD (dOp dIx (ζB 5) (dC (.int 1))) (ζB 9)) (ζB 9)) (dC (.int 40000)))) (dOp dIx (ζB 5) (dC (.int 2)))))
        (ζW (ζi (dOp dLt (ζB 10) (dUn ζI (dC (.int 70))))) (ζV (ζP (ζl (ζB 4) (ζl (dC (.str "dry")) ζO)))) ζp)) ζp)
      (ζU (ζW (ζL (ζi (dOp dEq (dOp dIx (ζB 5) (dC (.int 0))) (dC (.str "pump")))) (ζi (dOp dGt (ζB 9) (dOp dIx (ζB 5) (dC (.int 2)))))) (ζV (ζP (ζl (ζB 4) (ζl (dC (.str "flow")) ζO)))) ζp)
      (ζU (ζW (ζi (dOp dEq (dOp dIx (ζB 5) (dC (.int 0))) (dC (.str "pump")))) (ζY 10 (dCB ζo (ζl (dC (.int 120)) (ζl (dOp ζH (ζB 10) (dOp dIx (ζB 5) (dC (.int 1)))) ζO)))) ζp)
      (ζU (ζW (ζL (ζi (dOp dEq (dOp dIx (ζB 5) (dC (.int 0))) (dC (.str "nozzle")))) (ζi (dOp dLt (ζB 10) (dOp dIx (ζB 5) (dC (.int 2)))))) (ζV (ζP (ζl (ζB 4) (ζl (dC (.str "weak")) ζO)))) ζp)
      (ζq (dBM ξa (ζB 3) (ζl (ζB 10) ζO)))))))))))
    (ζV (dSl (ζB 3) (ζv (dC (.int 1))) dNo))))
def sp_law_walked : DSp := fun ws S Q _ => ∃ (s : So) (t : Pt) (sh : Int), ws = [s.w, .lst (plR t), .int sh] ∧ s.ok ∧ t.ok 3 ∧ (0 ≤ sh ∧ sh ≤ 100) ∧ Q (resW (ans s t sh)) S
theorem len_law_walked {ws S Q E} (h : sp_law_walked ws S Q E) : ws.length = 3 := by obtain ⟨_, _, _, rfl, _⟩ := h; rfl
theorem hd_law_walked (ws S Q E) (h : sp_law_walked ws S Q E) : td_law_walked { nx := fun _ S' => frzQ Q .non S', rt := frzQ Q } ⟨ζg N_law_walked ws, XF⟩ S := by
  obtain ⟨s, t, sh, rfl, hs, ht, hsh, q⟩ := h
  have cb := Pt.cnt_b ht (by decide)
  have tb := Pt.tak_b ht hsh
  rw [plR_eq]
  have tH : ∀ (x1 x2 x3 x4 x5 x6 x7 x8 x9 x10 x11 : Option W) (S1 : Sto) (Q : Bool → Sto → Prop), Q s.isH S1 → ζi (dOp dEq (dOp dIx (ζB 0) (dC (.int 0))) (dC (.str "hydrant"))) ⟨[some s.w, x1, x2, x3, x4, x5, x6, x7, x8, x9, x10, x11], XF⟩ S1 Q := fun x1 x2 x3 x4 x5 x6 x7 x8 x9 x10 x11 S1 Q h => by
    cases s <;> (simp only [So.w]; (array_get_dec); exact ⟨rfl, rfl, h⟩)
  simp only [st_law_walked, td_law_walked]
  refine seq_go (setN_go (fun w S1 => ∃ l, w = .ref l ∧ S l = none ∧ S1 = up S l (.lst [.int s.p])) (fun Q hq => ?_) ?_)
  · simp only [ζm, ζl, ζO]
    refine ifE_b s.isH (fun Q h => tH _ _ _ _ _ _ _ _ _ _ _ _ _ h) (fun c => ?_) (fun c => ?_)
    · cases s with
      | hyd p f => simp only [So.w]; (array_get_dec); exact ⟨by decide, fun l hl => hq _ _ ⟨l, rfl, hl, rfl⟩⟩
      | pond d => cases c
    · cases s with
      | hyd p f => cases c
      | pond d => simp only [So.w]; (array_get_dec); exact ⟨by decide, fun l hl => hq _ _ ⟨l, rfl, hl, rfl⟩⟩
  rintro _ _ ⟨l, rfl, hl, rfl⟩
  (((try unfold ζp); dsimp only; refine seq_go ?_))
  have tok := Pt.pn_ok ht
  refine forEL (fun Q' h => var_go rfl h) (fun i ω' S' => ∃ (found : List Int) (y4 y5 y6 y7 y8 y9 y10 : Option W), ω' = ⟨[some s.w, some (.lst (.tup [.non, .int 0, .lst (t.pn.flows.map W.int), .int (((t.pn.leaks 0).map (·.2)).sum)] :: (t.pn.ents 0 0).map entKW)), some (.int sh), some (.ref l), y4, y5, y6, y7, y8, y9, y10, none], XF⟩ ∧ S' = up S l (.lst (found.map W.int)) ∧
    (i = 0 → found = [s.p]) ∧ (0 < i → found.length = i ∧ ans s t sh = t.pn.walk sh s.p 0 ∧ walkE sh (t.pn.ents 0 0) [s.p] 1 = walkE sh ((t.pn.ents 0 0).drop (i - 1)) found i)) ⟨[s.p], _, _, _, _, _, _, _, rfl, rfl, fun _ => rfl, fun h => absurd h (Nat.lt_irrefl _)⟩ ?_ ?_
  · rintro i w ω' S' hw ⟨found, y4, y5, y6, y7, y8, y9, y10, rfl, rfl, hf0, hfi⟩
    cases i with
    | zero =>
      cases hw
      have hf0 := hf0 rfl
      subst hf0
      refine ⟨_, rfl, ?_⟩
      have fb := Pn.flows_b tok
      refine seq_go (set_go (.int (t.pn.tak sh)) (up S l (.lst ([s.p].map W.int))) (fun Q hq => ?_) ?_)
      · refine flow_go fb.1 (by omega) hsh ?_
        rw [Pn.flow_eq]
        exact hq
      (((try unfold ζp); dsimp only; refine seq_go ?_))
      refine if_b true (fun Q hq => by (array_get_dec); exact ⟨rfl, rfl, hq⟩) (fun _ => ?_) (fun e => nomatch e)
      cases s with
      | hyd p f =>
        refine seq_go (if_b (decide (f < t.pn.tak sh)) (fun Q hq => ?_) (fun c => ?_) (fun c => ?_))
        · refine and_b (a := true) (b := decide (f < t.pn.tak sh)) (fun Q h => tH _ _ _ _ _ _ _ _ _ _ _ _ _ h) (fun _ Q h => ?_) hq
          simp only [So.w]
          (array_get_dec)
          exact h
        · have c := of_decide_eq_true c
          refine ret_go ?_
          (array_get_dec)
          refine ⟨by decide, ?_⟩
          have e9 : ans (.hyd p f) t sh = .error (0, 1) := by show (if f < t.pn.tak sh then Except.error (0, 1) else _) = _; rw [if_pos c]
          rw [e9] at q
          refine ⟨_, _, Frz.drop (p := l) (o := .lst ([(So.hyd p f).p].map W.int)) up_same (fun _ e => nomatch e), ?_⟩
          rw [del_new hl]
          exact q
        · have c := of_decide_eq_false c
          (((try unfold ζp); dsimp only))
          refine ⟨_, _, _, _, _, _, _, _, rfl, rfl, fun h => absurd h (by omega), fun _ => ⟨rfl, ?_, rfl⟩⟩
          show (if f < t.pn.tak sh then Except.error (0, 1) else _) = _
          rw [if_neg c]
          rfl
      | pond d =>
        refine seq_go (if_b false (fun Q hq => ?_) (fun e => nomatch e) (fun c => ?_))
        · exact and_b (a := false) (b := false) (fun Q h => tH _ _ _ _ _ _ _ _ _ _ _ _ _ h) (fun e => nomatch e) hq
        · (((try unfold ζp); dsimp only))
          exact ⟨_, _, _, _, _, _, _, _, rfl, rfl, fun h => absurd h (by omega), fun _ => ⟨rfl, rfl, rfl⟩⟩
    | succ n =>
      obtain ⟨flen, hans, hW⟩ := hfi (Nat.succ_pos n)
      rw [Nat.add_sub_cancel] at hW
      replace hw : ((t.pn.ents 0 0).map entKW)[n]? = some w := hw
      rw [List.getElem?_map] at hw
      cases he : (t.pn.ents 0 0)[n]? with
      | none => rw [he] at hw; cases hw
      | some e =>
      rw [he] at hw
      cases hw
      refine ⟨_, rfl, ?_⟩
      obtain ⟨eok, ef, efl, etk⟩ := Pn.ents_ok tok (Nat.le_refl _) (List.mem_of_getElem? he)
      have emar := Pn.ents_mar (Nat.le_refl _) he
      have etk := etk sh hsh.1 hsh.2
      have hn : n < (t.pn.ents 0 0).length := (List.getElem?_eq_some_iff.mp he).1
      rw [List.drop_eq_getElem_cons hn, show (t.pn.ents 0 0)[n] = e from by have := List.getElem?_eq_getElem hn; rw [he] at this; exact (Option.some.inj this).symm] at hW
      have hall := Pn.walkE_all (sh := sh) (t := t.pn) (p := s.p)
      rw [hW] at hall
      refine seq_go (set_go (.int (flowE sh e)) (up S l (.lst (found.map W.int))) (fun Q hq => ?_) ?_)
      · exact flow_go ef (by omega) hsh hq
      (((try unfold ζp); dsimp only; refine seq_go ?_))
      refine if_b false (fun Q hq => ?_) (fun e => nomatch e) (fun _ => ?_)
      · (array_get_dec)
        refine ⟨rfl, rfl, ?_⟩
        rw [weq_int, decide_eq_false (by omega)]
        exact hq
      (((try unfold ζp); dsimp only; refine seq_go ?_))
      have hmar : e.2.1 < found.length := by omega
      have hgd : found[e.2.1]? = some (found.getD e.2.1 0) := by rw [List.getD_eq_getElem?_getD, List.getElem?_eq_getElem hmar]; rfl
      refine set_go (.int (found.getD e.2.1 0)) (up S l (.lst (found.map W.int))) (fun Q hq => ?_) ?_
      · (array_get_dec)
        rw [view_ref (up_same (S := S) (a := l) (o := .lst (found.map W.int)))]
        have at1 : L2.atI (found.map W.int) (e.2.1 : Int) = some (.int (found.getD e.2.1 0)) := by rw [atI_n (by rw [List.length_map]; exact hmar), List.getElem?_map, hgd]; rfl
        show (match L2.atI (found.map W.int) (e.2.1 : Int) with | some w => _ | none => False)
        rw [at1]
        exact hq
      have herr : ∀ y, walkE sh (e :: (t.pn.ents 0 0).drop (n + 1)) found (n + 1) = .error (n + 1, y) → Q (.tup [.int ((n + 1 : Nat) : Int), .str (whyS y)]) S := fun y h => by
        rw [h] at hall
        rw [hans] at q
        cases hw : t.pn.walk sh s.p 0 with
        | error e =>
          rw [hw] at hall q
          have h9 : Except.error (n + 1, y) = Except.error e := hall
          cases h9
          exact q
        | ok xs => rw [hw] at hall; cases hall
      obtain ⟨nq, mar, fls, lks⟩ := e
      have hfl : 0 ≤ flowE sh (nq, mar, fls, lks) ∧ flowE sh (nq, mar, fls, lks) ≤ 400000 := by omega
      have hn2 : n < 120 := by rw [Pn.ents_len] at hn; omega
      obtain ⟨p, hp⟩ : ∃ p, p = found.getD mar 0 := ⟨_, rfl⟩
      obtain ⟨fl, hfle⟩ : ∃ fl, fl = flowE sh (nq, mar, fls, lks) := ⟨_, rfl⟩
      rw [← hfle] at hfl
      (((try unfold ζp); dsimp only; refine seq_go ?_))
      (try rw [← hp])
      (try rw [← hfle])
      cases nq with
      | n f q2 =>
        refine if_b false (fun Q hq => by simp only [Nq.w, Jn.w, nozW]; (array_get_dec); exact ⟨rfl, rfl, hq⟩) (fun e => nomatch e) (fun _ => ?_)
        (((try unfold ζp); dsimp only; refine seq_go ?_))
        refine if_b false (fun Q hq => and_b (a := false) (b := false) (fun Q h => by simp only [Nq.w, Jn.w, nozW]; (array_get_dec); exact ⟨rfl, rfl, h⟩) (fun e => nomatch e) hq) (fun e => nomatch e) (fun _ => ?_)
        (((try unfold ζp); dsimp only; refine seq_go ?_))
        refine if_b false (fun Q hq => by simp only [Nq.w, Jn.w, nozW]; (array_get_dec); exact ⟨rfl, rfl, hq⟩) (fun e => nomatch e) (fun _ => ?_)
        (((try unfold ζp); dsimp only; refine seq_go ?_))
        refine if_b (decide (p < q2)) (fun Q hq => and_b (a := true) (b := decide (p < q2)) (fun Q h => by simp only [Nq.w, nozW]; (array_get_dec); exact ⟨rfl, rfl, h⟩) (fun _ Q h => by simp only [Nq.w, nozW]; (array_get_dec); exact h) hq) (fun c => ?_) (fun c => ?_)
        · have c := of_decide_eq_true c
          refine ret_go ?_
          (array_get_dec)
          refine ⟨by decide, ?_⟩
          have e9 : ((n : Nat) : Int) + 1 = ((n + 1 : Nat) : Int) := by omega
          (try rw [e9])
          refine ⟨_, _, Frz.drop (p := l) (o := .lst (found.map W.int)) up_same (fun _ e => nomatch e), ?_⟩
          rw [del_new hl]
          refine herr 2 ?_
          rw [walkE_n, ← hp, if_pos c]
        · have c := of_decide_eq_false c
          (((try unfold ζp); dsimp only))
          refine app_go (.int (p)) rfl up_same (fun Q hq => by (array_get_dec); exact hq) (by rw [List.length_map]; omega) ⟨found ++ [p], _, _, _, _, _, _, _, rfl, by rw [up_up, List.map_append]; rfl, fun h => absurd h (by omega), fun _ => ⟨by rw [List.length_append, flen]; rfl, hans, ?_⟩⟩
          rw [hW]
          rw [walkE_n, ← hp, if_neg c]; (try rfl)
      | j j =>
        cases j with
        | leak a =>
          refine if_b false (fun Q hq => by simp only [Nq.w, Jn.w, nozW]; (array_get_dec); exact ⟨rfl, rfl, hq⟩) (fun e => nomatch e) (fun _ => ?_)
          (((try unfold ζp); dsimp only; refine seq_go ?_))
          refine if_b false (fun Q hq => and_b (a := false) (b := false) (fun Q h => by simp only [Nq.w, Jn.w, nozW]; (array_get_dec); exact ⟨rfl, rfl, h⟩) (fun e => nomatch e) hq) (fun e => nomatch e) (fun _ => ?_)
          (((try unfold ζp); dsimp only; refine seq_go ?_))
          refine if_b false (fun Q hq => by simp only [Nq.w, Jn.w, nozW]; (array_get_dec); exact ⟨rfl, rfl, hq⟩) (fun e => nomatch e) (fun _ => ?_)
          (((try unfold ζp); dsimp only; refine seq_go ?_))
          refine if_b false (fun Q hq => and_b (a := false) (b := false) (fun Q h => by simp only [Nq.w, Jn.w, nozW]; (array_get_dec); exact ⟨rfl, rfl, h⟩) (fun e => nomatch e) hq) (fun e => nomatch e) (fun _ => ?_)
          (((try unfold ζp); dsimp only))
          refine app_go (.int (p)) rfl up_same (fun Q hq => by (array_get_dec); exact hq) (by rw [List.length_map]; omega) ⟨found ++ [p], _, _, _, _, _, _, _, rfl, by rw [up_up, List.map_append]; rfl, fun h => absurd h (by omega), fun _ => ⟨by rw [List.length_append, flen]; rfl, hans, ?_⟩⟩
          rw [hW, walkE_jn rfl]
          rw [← hp]; rfl
        | pump a b =>
          refine if_b false (fun Q hq => by simp only [Nq.w, Jn.w, nozW]; (array_get_dec); exact ⟨rfl, rfl, hq⟩) (fun e => nomatch e) (fun _ => ?_)
          (((try unfold ζp); dsimp only; refine seq_go ?_))
          refine if_b (decide (b < fl)) (fun Q hq => and_b (a := true) (b := decide (b < fl)) (fun Q h => by simp only [Nq.w, Jn.w]; (array_get_dec); exact ⟨rfl, rfl, h⟩) (fun _ Q h => by simp only [Nq.w, Jn.w]; (array_get_dec); exact h) hq) (fun c => ?_) (fun c => ?_)
          · have c := of_decide_eq_true c
            refine ret_go ?_
            (array_get_dec)
            refine ⟨by decide, ?_⟩
            have e9 : ((n : Nat) : Int) + 1 = ((n + 1 : Nat) : Int) := by omega
            (try rw [e9])
            refine ⟨_, _, Frz.drop (p := l) (o := .lst (found.map W.int)) up_same (fun _ e => nomatch e), ?_⟩
            rw [del_new hl]
            refine herr 1 ?_
            rw [walkE_js (by rw [← hfle]; show (if b < fl then some 1 else none) = _; rw [if_pos c])]
          · have c := of_decide_eq_false c
            (((try unfold ζp); dsimp only; refine seq_go ?_))
            refine if_b true (fun Q hq => by simp only [Nq.w, Jn.w]; (array_get_dec); exact ⟨rfl, rfl, hq⟩) (fun _ => ?_) (fun e => nomatch e)
            refine set_go (.int (min 120 (p + a))) (up S l (.lst (found.map W.int))) (fun Q hq => ?_) ?_
            · simp only [Nq.w, Jn.w]
              (array_get_dec)
              have e8 : (if p + a < 120 then p + a else 120) = min 120 (p + a) := by split <;> omega
              rw [e8]
              exact hq
            (((try unfold ζp); dsimp only; refine seq_go ?_))
            refine if_b false (fun Q hq => and_b (a := false) (b := false) (fun Q h => by simp only [Nq.w, Jn.w, nozW]; (array_get_dec); exact ⟨rfl, rfl, h⟩) (fun e => nomatch e) hq) (fun e => nomatch e) (fun _ => ?_)
            (((try unfold ζp); dsimp only))
            refine app_go (.int (min 120 (p + a))) rfl up_same (fun Q hq => by (array_get_dec); exact hq) (by rw [List.length_map]; omega) ⟨found ++ [min 120 (p + a)], _, _, _, _, _, _, _, rfl, by rw [up_up, List.map_append]; rfl, fun h => absurd h (by omega), fun _ => ⟨by rw [List.length_append, flen]; rfl, hans, ?_⟩⟩
            rw [hW]
            rw [walkE_jn (by rw [← hfle]; show (if b < fl then some 1 else none) = _; rw [if_neg c])]; rw [← hp]; rfl
        | hose a b =>
          obtain ⟨⟨h1, h2⟩, _⟩ := eok
          refine if_b true (fun Q hq => by simp only [Nq.w, Jn.w]; (array_get_dec); exact ⟨rfl, rfl, hq⟩) (fun _ => ?_) (fun e => nomatch e)
          refine seq_go (set_go (.int (p - a * fl * fl / 40000 - b)) (up S l (.lst (found.map W.int))) (fun Q hq => ?_) ?_)
          · simp only [Nq.w, Jn.w]
            (array_get_dec)
            exact ⟨.inl ⟨by omega, by omega⟩, .inr ⟨by omega, by omega⟩, ⟨by decide, by decide⟩, hq⟩
          (((try unfold ζp); dsimp only))
          refine if_b (decide (p - a * fl * fl / 40000 - b < -70)) (fun Q hq => by (array_get_dec); exact hq) (fun c => ?_) (fun c => ?_)
          · have c := of_decide_eq_true c
            refine ret_go ?_
            (array_get_dec)
            refine ⟨by decide, ?_⟩
            have e9 : ((n : Nat) : Int) + 1 = ((n + 1 : Nat) : Int) := by omega
            (try rw [e9])
            refine ⟨_, _, Frz.drop (p := l) (o := .lst (found.map W.int)) up_same (fun _ e => nomatch e), ?_⟩
            rw [del_new hl]
            refine herr 0 ?_
            rw [walkE_js (by rw [← hp, ← hfle]; show (if p - a * fl * fl / 40000 - b < -70 then some 0 else none) = _; rw [if_pos c])]
          · have c := of_decide_eq_false c
            (((try unfold ζp); dsimp only; refine seq_go ?_))
            refine if_b false (fun Q hq => and_b (a := false) (b := false) (fun Q h => by simp only [Nq.w, Jn.w, nozW]; (array_get_dec); exact ⟨rfl, rfl, h⟩) (fun e => nomatch e) hq) (fun e => nomatch e) (fun _ => ?_)
            (((try unfold ζp); dsimp only; refine seq_go ?_))
            refine if_b false (fun Q hq => by simp only [Nq.w, Jn.w, nozW]; (array_get_dec); exact ⟨rfl, rfl, hq⟩) (fun e => nomatch e) (fun _ => ?_)
            (((try unfold ζp); dsimp only; refine seq_go ?_))
            refine if_b false (fun Q hq => and_b (a := false) (b := false) (fun Q h => by simp only [Nq.w, Jn.w, nozW]; (array_get_dec); exact ⟨rfl, rfl, h⟩) (fun e => nomatch e) hq) (fun e => nomatch e) (fun _ => ?_)
            (((try unfold ζp); dsimp only))
            refine app_go (.int (p - a * fl * fl / 40000 - b)) rfl up_same (fun Q hq => by (array_get_dec); exact hq) (by rw [List.length_map]; omega) ⟨found ++ [p - a * fl * fl / 40000 - b], _, _, _, _, _, _, _, rfl, by rw [up_up, List.map_append]; rfl, fun h => absurd h (by omega), fun _ => ⟨by rw [List.length_append, flen]; rfl, hans, ?_⟩⟩
            rw [hW]
            rw [walkE_jn (by rw [← hp, ← hfle]; show (if p - a * fl * fl / 40000 - b < -70 then some 0 else none) = _; rw [if_neg c])]; rw [← hp, ← hfle]; rfl
  · rintro ω' S' ⟨found, y4, y5, y6, y7, y8, y9, y10, rfl, rfl, hf0, hfi⟩
    rw [List.length_cons, List.length_map] at hfi
    obtain ⟨flen, hans, hW⟩ := hfi (Nat.succ_pos _)
    rw [Nat.add_sub_cancel, List.drop_length] at hW
    have hall := Pn.walkE_all (sh := sh) (t := t.pn) (p := s.p)
    rw [hW] at hall
    replace hall : Except.ok found = match t.pn.walk sh s.p 0 with
      | .error e => .error e
      | .ok xs => .ok (s.p :: xs) := hall
    (((try unfold ζp); dsimp only))
    refine ret_go ?_
    rw [hans] at q
    cases hw : t.pn.walk sh s.p 0 with
    | error e => rw [hw] at hall; cases hall
    | ok xs =>
      rw [hw] at hall q
      cases hall
      (array_get_dec)
      rw [view_ref (up_same (S := S) (a := l) (o := .lst (W.int s.p :: xs.map W.int)))]
      have ec : cut (W.int s.p :: xs.map W.int) (some 1) none = xs.map W.int := cut_drop (i := 1) (by show 1 ≤ (xs.map W.int).length + 1; omega)
      (array_get_dec)
      rw [ec]
      refine ⟨_, _, Frz.drop (p := l) (o := .lst (W.int s.p :: xs.map W.int)) up_same (fun _ e => nomatch e), ?_⟩
      rw [del_new hl]
      exact q
section
variable {P : Program} {w : World} {K : PySem.W.Frag} {mg : Str → Option Value} {base : Heap} {c_Line c_BadTime c_NoGround c_NoPlace c_NoProof c_NoKind c_BadText c_NoDeed c_NoRow c_TooMany c_NotDone c_NoBook c_NoCall c_NoEngine c_NoEngines c_NoLine c_NoJoin c_NoFlow c_Late c_Inside c_Dead c_NoTeam c_NoWearer c_NoBoard c_NoText c_Nothing c_NoSaying : Addr}
theorem ok_law_walked {f : Addr} {fd : FuncData} (F : Fun K "_law_walked" "_law_walked" s_law_walked f fd) (T : Txt K w mg c_Line c_BadTime c_NoGround c_NoPlace c_NoProof c_NoKind c_BadText c_NoDeed c_NoRow c_TooMany c_NotDone c_NoBook c_NoCall c_NoEngine c_NoEngines c_NoLine c_NoJoin c_NoFlow c_Late c_Inside c_Dead c_NoTeam c_NoWearer c_NoBoard c_NoText c_Nothing c_NoSaying) : FnOk P w K mg base CX0 1 f fd ["_law_head", "_law_plan_here", "_law_part_of"] (uSp K (sp_law_walked)) :=
  Fun.okF F sc_law_walked (td_law_walked) (fun cdv A outer s H E hr =>
    (dss_cons (ds_set (i := 3) sc_law_walked.nd (de_lstM (da_cons (de_if (dt_cmp (oc_eq hr) (de_ix (dv 0) de_int) de_str) (de_ix (dv 0) de_int) (de_neg (de_ix (dv 0) de_int))) da_nil)))
    (dss_cons (ds_for PassesOwn.never (di_enA T.z_enumerate (da_cons (dv 1) da_nil)) (dg_tp (dgs_cons (dg_nm (i := 4) sc_law_walked.nd) (dgs_cons (dg_tp (dgs_cons (dg_nm (i := 5) sc_law_walked.nd) (dgs_cons (dg_nm (i := 6) sc_law_walked.nd) (dgs_cons (dg_nm (i := 7) sc_law_walked.nd) (dgs_cons (dg_nm (i := 8) sc_law_walked.nd) dgs_nil))))) dgs_nil)))
      (dss_cons (ds_set (i := 9) sc_law_walked.nd (de_op oa_add (dv 8) (de_callB cd_sum T.z_sum (da_cons (de_lc (own := [("_law_one", 11)]) sc_law_walked.nd (di_seq (dv 7)) (blkOk_by (own := [("_law_one", 11)]) (N := N_law_walked) (sc := defScope s_law_walked) (by decide +kernel)) (fun _ _ _ _ _ => (dg_nm (i := 11) sc_law_walked.nd)) (fun _ _ _ _ _ => dts_nil) (fun _ _ _ _ _ => (de_op oa_div (de_op oa_mul (dv 11) (dv 2)) de_int))) da_nil))))
      (dss_cons (ds_if (dt_cmp (oc_eq hr) (dv 4) de_int) (dss_cons (ds_if (PW.pt (dw_and (dt_cmp (oc_eq hr) (de_ix (dv 0) de_int) de_str) (dw_and1 (dt_cmp oc_gt (dv 9) (de_ix (dv 0) de_int))))) (dss_one (ds_ret (de_tup (da_cons de_int (da_cons de_str da_nil))))) dss_nil)
        (dss_one ds_continue)) dss_nil)
      (dss_cons (ds_set (i := 10) sc_law_walked.nd (de_ix (dv 3) (dv 6)))
      (dss_cons (ds_if (dt_cmp (oc_eq hr) (de_ix (dv 5) de_int) de_str) (dss_cons (ds_set (i := 10) sc_law_walked.nd (de_op oa_sub (de_op oa_sub (dv 10) (de_op oa_div (de_op oa_mul (de_op oa_mul (de_ix (dv 5) de_int) (dv 9)) (dv 9)) de_int)) (de_ix (dv 5) de_int)))
        (dss_one (ds_if (dt_cmp oc_lt (dv 10) (de_neg de_int)) (dss_one (ds_ret (de_tup (da_cons (dv 4) (da_cons de_str da_nil))))) dss_nil))) dss_nil)
      (dss_cons (ds_if (PW.pt (dw_and (dt_cmp (oc_eq hr) (de_ix (dv 5) de_int) de_str) (dw_and1 (dt_cmp oc_gt (dv 9) (de_ix (dv 5) de_int))))) (dss_one (ds_ret (de_tup (da_cons (dv 4) (da_cons de_str da_nil))))) dss_nil)
      (dss_cons (ds_if (dt_cmp (oc_eq hr) (de_ix (dv 5) de_int) de_str) (dss_one (ds_set (i := 10) sc_law_walked.nd (de_callB cd_min2 T.z_min (da_cons de_int (da_cons (de_op oa_add (dv 10) (de_ix (dv 5) de_int)) da_nil))))) dss_nil)
      (dss_cons (ds_if (PW.pt (dw_and (dt_cmp (oc_eq hr) (de_ix (dv 5) de_int) de_str) (dw_and1 (dt_cmp oc_lt (dv 10) (de_ix (dv 5) de_int))))) (dss_one (ds_ret (de_tup (da_cons (dv 4) (da_cons de_str da_nil))))) dss_nil)
      (dss_one (ds_expr (de_append (dv 3) (da_cons (dv 10) da_nil))))))))))))
    (dss_one (ds_ret (de_sl (dv 3) (do_some de_int) do_none)))))) (fun ws S Q E h => len_law_walked h) (hd_law_walked)
end
def eraseZ (js : List Jn) (n : Int) : List Jn := if 1 ≤ n ∧ n ≤ (js.length : Int) then js.eraseIdx (n.toNat - 1) else js
theorem eraseZ_snoc (l : List Jn) (j : Jn) (n : Int) : eraseZ (l ++ [j]) n = if (l.length : Int) + 1 = n then eraseZ l n else eraseZ l n ++ [j] := by
  unfold eraseZ
  rw [List.length_append, List.length_singleton]
  by_cases c : (l.length : Int) + 1 = n
  · rw [if_pos c, if_pos (by omega), if_neg (by omega)]
    have e : n.toNat - 1 = l.length := by omega
    rw [e, List.eraseIdx_append_of_length_le (Nat.le_refl _), Nat.sub_self]; simp
  · rw [if_neg c]
    by_cases d : 1 ≤ n ∧ n ≤ (l.length : Int)
    · rw [if_pos (by omega), if_pos d, List.eraseIdx_append_of_lt_length (by omega)]
    · rw [if_neg (by omega), if_neg d]
theorem eraseZ_sub (js : List Jn) (n : Int) : (∀ j ∈ eraseZ js n, j ∈ js) ∧ (eraseZ js n).length ≤ js.length := by
  unfold eraseZ
  split
  · exact ⟨fun j hj => List.mem_of_mem_eraseIdx hj, List.length_eraseIdx_le ..⟩
  · exact ⟨fun _ h => h, Nat.le_refl _⟩
def Pt.less : Pt → Int → Pt
  | .noz js f p, n => .noz (eraseZ js n) f p
  | .fork js a b, n => .fork (eraseZ js n) (a.less (n - js.length)) (b.less (n - js.length - a.joins.length))
def Pt.okAt : Pt → Int → Prop
  | .noz js _ _, n => n ≠ (js.length : Int) + 1
  | .fork js a b, n => a.okAt (n - js.length) ∧ b.okAt (n - js.length - a.joins.length)
theorem Pt.less_ok : ∀ (t : Pt) (n : Int) (d : Nat), t.ok d → (t.less n).ok d
  | .noz js f p, n, d, h => ⟨Nat.le_trans (eraseZ_sub js n).2 h.1, fun j hj => h.2.1 j ((eraseZ_sub js n).1 j hj), h.2.2⟩
  | .fork js a b, n, d, h => ⟨h.1, Nat.le_trans (eraseZ_sub js n).2 h.2.1, fun j hj => h.2.2.1 j ((eraseZ_sub js n).1 j hj), Pt.less_ok a _ _ h.2.2.2.1, Pt.less_ok b _ _ h.2.2.2.2⟩
theorem noz_jn {f p : Int} {j : Jn} (e : nozW f p = j.w) : False := by
  cases j <;> (simp only [Jn.w, nozW] at e; injection e with e; injection e with e _; injection e with e; revert e; decide +kernel)
theorem jnAt_ok : ∀ (t : Pt) (n : Int), (∀ (i : Nat) (w : W), (i : Int) + 1 = n → t.joins[i]? = some w → ∃ j : Jn, w = j.w) → t.okAt n
  | .noz js f p, n, h => fun e => by
    obtain ⟨j, hj⟩ := h js.length (nozW f p) e.symm (by
      show (js.map Jn.w ++ [nozW f p])[js.length]? = _
      rw [List.getElem?_append_right (by rw [List.length_map]; exact Nat.le_refl _), List.length_map, Nat.sub_self]; rfl)
    exact noz_jn hj
  | .fork js a b, n, h => by
    have g : ∀ (i : Nat), (Pt.fork js a b).joins[js.length + i]? = (a.joins ++ b.joins)[i]? := fun i => by
      show (js.map Jn.w ++ (a.joins ++ b.joins))[js.length + i]? = _
      rw [List.getElem?_append_right (by rw [List.length_map]; omega), List.length_map, Nat.add_sub_cancel_left]
    refine ⟨jnAt_ok a _ fun i w e hw => h (js.length + i) w (by omega) ?_, jnAt_ok b _ fun i w e hw => h (js.length + (a.joins.length + i)) w (by omega) ?_⟩
    · rw [g, List.getElem?_append_left (List.getElem?_eq_some_iff.mp hw).1]; exact hw
    · rw [g, List.getElem?_append_right (by omega), Nat.add_sub_cancel_left]; exact hw
def JnAt (t : Pt) (n : Int) : Prop := ∃ (i : Nat) (j : Jn), (i : Int) + 1 = n ∧ t.joins[i]? = some j.w
theorem JnAt.okAt {t : Pt} {n : Int} (h : JnAt t n) : t.okAt n := jnAt_ok t n fun i w e hw => by
  obtain ⟨i', j, e', hj⟩ := h
  have : i = i' := by omega
  subst this
  rw [hj] at hw
  exact ⟨j, (Option.some.inj hw).symm⟩
theorem Pt.splitL {d : Nat} {t : Pt} (h : t.ok d) (n : Int) : ∃ (js : List Jn) (last : W), t.ws = js.map Jn.w ++ [last] ∧ js.length ≤ 7 ∧ (∀ j ∈ js, j.ok) ∧
    ((∃ f p, last = nozW f p ∧ t.joins = js.map Jn.w ++ [last] ∧ (t.less n).ws = (eraseZ js n).map Jn.w ++ [last] ∧ (t.okAt n → n ≠ (js.length : Int) + 1)) ∨
     ∃ a b : Pt, 0 < d ∧ last = forkW a.ws b.ws ∧ t.joins = js.map Jn.w ++ (a.joins ++ b.joins) ∧ a.ok (d - 1) ∧ b.ok (d - 1) ∧ (t.less n).ws = (eraseZ js n).map Jn.w ++ [forkW (a.less (n - js.length)).ws (b.less (n - js.length - a.joins.length)).ws] ∧ (t.okAt n → a.okAt (n - js.length) ∧ b.okAt (n - js.length - a.joins.length))) := by
  cases t with
  | noz js f p => exact ⟨js, _, rfl, h.1, h.2.1, .inl ⟨f, p, rfl, rfl, rfl, fun k => k⟩⟩
  | fork js a b => exact ⟨js, _, rfl, h.2.1, h.2.2.1, .inr ⟨a, b, h.1, rfl, rfl, h.2.2.2.1, h.2.2.2.2, rfl, fun k => k⟩⟩
theorem augI_go {i : Nat} {te : DE'} {D : Out} {ω : Om} {S : Sto} (n m : Int) (h : ω.s[i]? = some (some (.int n))) (he : ∀ Q : WQ, Q (.int m) S → te ω S Q) (k : D.nx (ω.set i (some (.int (n + m)))) S) : dAugI i te D ω S := ⟨n, h, he _ ⟨m, rfl, k⟩⟩
def sp_parts_without : Nat → DSp
  | 0 => fun _ _ _ _ => False
  | d + 1 => fun ws S Q _ => ∃ (t : Pt) (n : Int), ws = [.tup t.ws, .int n] ∧ t.ok d ∧ d ≤ 3 ∧ t.okAt n ∧ Q (.tup (t.less n).ws) S
theorem len_parts_without {d ws S Q E} (h : sp_parts_without (d + 1) ws S Q E) : ws.length = 2 := by obtain ⟨_, _, rfl, _⟩ := h; rfl
abbrev s_parts_without : Stmt := topS 50
abbrev N_parts_without : List Str := ["parts", "join", "kept", "passed", "part", "first", "second"]
theorem sc_parts_without : FnScope N_parts_without ["parts", "join"] (defScope s_parts_without) := ⟨rfl, rfl, rfl, by decide +kernel, rfl, by decide +kernel, by decide +kernel⟩
theorem st_parts_without {x0 x1 : W} : ζg N_parts_without [x0, x1] = [some x0, some x1, none, none, none, none, none] := rfl
def td_parts_without (d : Nat) : DS' :=
    (ζU (ζY 2 (ζm ζO))
    (ζU (ζY 3 (dC (.int 0)))
    (ζU (dFor (ζA (ζB 0)) (.nm 4)
      (ζW (ζi (dOp dEq (dOp dIx (ζB 4) (dC (.int 0))) (dC (.str "fork")))) (ζU (ζY 5 (ζu (sp_parts_without d) (ζl (dOp dIx (ζB 4) (dC (.int 1))) (ζl (dOp ζC (ζB 1) (ζB 3)) ζO))))
        (ζU (ζY 6 (ζu (sp_parts_without d) (ζl (dOp dIx (ζB 4) (dC (.int 2))) (ζl (dOp ζC (dOp ζC (ζB 1) (ζB 3)) (dCB ζR (ζl (ζu (sp_joins_of 4) (ζl (dOp dIx (ζB 4) (dC (.int 1))) ζO)) ζO))) ζO))))
        (ζq (dBM ξa (ζB 2) (ζl (ζP (ζl (dC (.str "fork")) (ζl (ζB 5) (ζl (ζB 6) ζO)))) ζO))))) (ζU (dAugI 3 (dC (.int 1)))
        (ζW (ζi (dOp dNe (ζB 3) (ζB 1))) (ζq (dBM ξa (ζB 2) (ζl (ζB 4) ζO))) ζp))))
    (ζV (dCB ζc (ζl (ζB 2) ζO))))))
theorem hd_parts_without (d : Nat) (ws S Q E) (h : sp_parts_without (d + 1) ws S Q E) : td_parts_without d { nx := fun _ S' => frzQ Q .non S', rt := frzQ Q } ⟨ζg N_parts_without ws, XF⟩ S := by
  obtain ⟨t, n, rfl, ht, d3, hat, q⟩ := h
  obtain ⟨js, last, e1, j7, jok, hlast⟩ := Pt.splitL ht n
  have wl : t.ws.length = js.length + 1 := by rw [e1, List.length_append, List.length_map]; rfl
  have ll := (Pt.ws_len (Pt.less_ok t n d ht)).2
  simp only [st_parts_without, td_parts_without]
  refine seq_go (setN_go (fun w S1 => ∃ l, w = .ref l ∧ S l = none ∧ S1 = up S l (.lst [])) (fun Q hq => ?_) ?_)
  · (array_get_dec)
    exact ⟨by decide, fun p hp => hq _ _ ⟨p, rfl, hp, rfl⟩⟩
  rintro _ _ ⟨l, rfl, hl, rfl⟩
  (((try unfold ζp); dsimp only; refine seq_go ?_))
  refine set_go (.int 0) (up S l (.lst [])) (fun Q hq => by (array_get_dec); exact hq) ?_
  (((try unfold ζp); dsimp only; refine seq_go ?_))
  have e0 : eraseZ ([] : List Jn) n = [] := by unfold eraseZ; split <;> rfl
  refine forS (w := .tup t.ws) (xs := t.ws) (fun Q' h => by (array_get_dec); exact h) rfl (fun i ω' S' => ∃ y3 y4 y5 y6 kept, ω' = ⟨[some (.tup t.ws), some (.int n), some (.ref l), some (.int y3), y4, y5, y6], XF⟩ ∧ S' = up S l (.lst kept) ∧ ((i ≤ js.length ∧ y3 = (i : Int) ∧ kept = (eraseZ (js.take i) n).map Jn.w) ∨ (i = js.length + 1 ∧ kept = (t.less n).ws))) ⟨0, _, _, _, [], rfl, rfl, .inl ⟨Nat.zero_le _, rfl, by rw [List.take_zero, e0]; rfl⟩⟩ (fun _ _ _ _ => rfl) ?_ ?_
  · rintro i w ω' S' hw ⟨y3, y4, y5, y6, kept, rfl, rfl, hk⟩
    have hi := (List.getElem?_eq_some_iff.mp hw).1
    rw [wl] at hi
    obtain ⟨hi2, rfl, rfl⟩ := hk.resolve_right (fun z => by omega)
    refine ⟨_, rfl, ?_⟩
    rw [e1] at hw
    have kl : ((eraseZ (js.take i) n).map Jn.w).length ≤ 7 := by
      rw [List.length_map]
      have := (eraseZ_sub (js.take i) n).2
      rw [List.length_take] at this
      omega
    have step : ∀ (j : Jn) (y4 y5 y6 : Option W), js[i]? = some j ∨ (i = js.length ∧ ∃ f p, last = nozW f p) → True := fun _ _ _ _ _ => trivial
    by_cases lt : i < js.length
    · rw [List.getElem?_append_left (by rw [List.length_map]; exact lt), List.getElem?_map, List.getElem?_eq_getElem lt] at hw
      cases hw
      obtain ⟨j, hj⟩ : ∃ j, j = js[i] := ⟨_, rfl⟩
      rw [← hj]
      have tk : js.take (i + 1) = js.take i ++ [j] := by rw [List.take_succ, List.getElem?_eq_getElem lt, ← hj]; rfl
      have tl : (js.take i).length = i := by rw [List.length_take]; omega
      have sn := eraseZ_snoc (js.take i) j n
      rw [tl] at sn
      refine if_b false (fun Q hq => ?_) (fun e => (nomatch e)) (fun _ => ?_)
      · cases j <;> (simp only [Jn.w]; (array_get_dec); exact ⟨rfl, rfl, hq⟩)
      refine seq_go (augI_go i 1 rfl (fun Q hq => by (array_get_dec); exact hq) ?_)
      (((try unfold ζp); dsimp only))
      by_cases c : (i : Int) + 1 = n
      · rw [if_pos c] at sn
        refine if_b false (fun Q hq => ?_) (fun e => (nomatch e)) (fun _ => ?_)
        · (array_get_dec)
          refine ⟨rfl, rfl, ?_⟩
          simp only [view_c_int, weq_int]
          rw [decide_eq_true c]
          exact hq
        (((try unfold ζp); dsimp only))
        exact ⟨_, _, _, _, _, rfl, rfl, .inl ⟨lt, by omega, by rw [tk, sn]⟩⟩
      · rw [if_neg c] at sn
        refine if_b true (fun Q hq => ?_) (fun _ => ?_) (fun e => (nomatch e))
        · (array_get_dec)
          refine ⟨rfl, rfl, ?_⟩
          simp only [view_c_int, weq_int]
          rw [decide_eq_false c]
          exact hq
        refine app_go j.w rfl up_same (fun Q hq => by (array_get_dec); exact hq) (by omega) ?_
        rw [up_up]
        exact ⟨_, _, _, _, _, rfl, rfl, .inl ⟨lt, by omega, by rw [tk, sn, List.map_append]; rfl⟩⟩
    · have ei : i = js.length := by omega
      subst ei
      rw [List.getElem?_append_right (by rw [List.length_map]; exact Nat.le_refl _), List.length_map, Nat.sub_self] at hw
      cases hw
      rw [List.take_length] at kl ⊢
      rcases hlast with ⟨f, p, rfl, _, el, hne⟩ | ⟨a, b, d0, rfl, _, ha, hb, el, hab⟩
      · refine if_b false (fun Q hq => ?_) (fun e => (nomatch e)) (fun _ => ?_)
        · simp only [nozW]
          (array_get_dec)
          exact ⟨rfl, rfl, hq⟩
        refine seq_go (augI_go (js.length : Nat) 1 rfl (fun Q hq => by (array_get_dec); exact hq) ?_)
        (((try unfold ζp); dsimp only))
        refine if_b true (fun Q hq => ?_) (fun _ => ?_) (fun e => (nomatch e))
        · (array_get_dec)
          refine ⟨rfl, rfl, ?_⟩
          simp only [view_c_int, weq_int]
          rw [decide_eq_false (fun e => hne hat e.symm)]
          exact hq
        refine app_go (nozW f p) rfl up_same (fun Q hq => by (array_get_dec); exact hq) (by omega) ?_
        rw [up_up]
        exact ⟨_, _, _, _, _, rfl, rfl, .inr ⟨rfl, by rw [el]⟩⟩
      · obtain ⟨e, rfl⟩ : ∃ e, d = e + 1 := ⟨d - 1, by omega⟩
        rw [Nat.add_sub_cancel] at ha hb
        obtain ⟨oa, ob⟩ := hab hat
        refine if_b true (fun Q hq => ?_) (fun _ => ?_) (fun e => (nomatch e))
        · simp only [forkW]
          (array_get_dec)
          exact ⟨rfl, rfl, hq⟩
        simp only [forkW]
        refine seq_go (set_go (.tup (a.less (n - js.length)).ws) (up S l (.lst ((eraseZ js n).map Jn.w))) (fun Q hq => ?_) ?_)
        · (array_get_dec)
          exact ⟨a, _, rfl, ha, by omega, oa, hq⟩
        (((try unfold ζp); dsimp only; refine seq_go ?_))
        refine set_go (.tup (b.less (n - js.length - a.joins.length)).ws) (up S l (.lst ((eraseZ js n).map Jn.w))) (fun Q hq => ?_) ?_
        · (array_get_dec)
          refine ⟨a, rfl, (show a.ok 3 from ?_), by decide, ?_⟩
          · exact Pt.ok_mono ha (by omega)
          (array_get_dec)
          exact ⟨b, _, rfl, hb, by omega, ob, hq⟩
        (((try unfold ζp); dsimp only))
        refine app_go (forkW (a.less (n - js.length)).ws (b.less (n - js.length - a.joins.length)).ws) rfl up_same (fun Q hq => by (array_get_dec); exact ⟨by decide, hq⟩) (by omega) ?_
        rw [up_up]
        exact ⟨_, _, _, _, _, rfl, rfl, .inr ⟨(by first | trivial | rfl), by rw [el]⟩⟩
  · rintro ω' S' ⟨y3, y4, y5, y6, kept, rfl, rfl, hk⟩
    rw [wl] at hk
    obtain ⟨_, rfl⟩ := hk.resolve_left (fun z => by omega)
    (((try unfold ζp); dsimp only))
    refine ret_go ?_
    (array_get_dec)
    have ev : view (up S l (.lst (t.less n).ws)) (.ref l) = .lst (t.less n).ws := by unfold view; simp only [up_same]
    rw [ev]
    refine ⟨_, _, Frz.drop (p := l) (o := .lst (t.less n).ws) up_same (fun _ e => (nomatch e)), ?_⟩
    rw [del_new hl]
    exact q
section
variable {P : Program} {w : World} {K : PySem.W.Frag} {mg : Str → Option Value} {base : Heap} {c_Line c_BadTime c_NoGround c_NoPlace c_NoProof c_NoKind c_BadText c_NoDeed c_NoRow c_TooMany c_NotDone c_NoBook c_NoCall c_NoEngine c_NoEngines c_NoLine c_NoJoin c_NoFlow c_Late c_Inside c_Dead c_NoTeam c_NoWearer c_NoBoard c_NoText c_Nothing c_NoSaying : Addr}
theorem okS_parts_without_0 {f : Addr} {fd : FuncData} (F : Fun K "parts_without" "parts_without" s_parts_without f fd) (T : Txt K w mg c_Line c_BadTime c_NoGround c_NoPlace c_NoProof c_NoKind c_BadText c_NoDeed c_NoRow c_TooMany c_NotDone c_NoBook c_NoCall c_NoEngine c_NoEngines c_NoLine c_NoJoin c_NoFlow c_Late c_Inside c_Dead c_NoTeam c_NoWearer c_NoBoard c_NoText c_Nothing c_NoSaying) (C_parts_without : CalD P w K mg base 5 "parts_without" (sp_parts_without 0)) (C_joins_of : CalD P w K mg base 5 "joins_of" (sp_joins_of 4)) : FnOk P w K mg base CX0 6 f fd ["parts", "join"] (uSp K (sp_parts_without 1)) :=
  Fun.okF F sc_parts_without (td_parts_without 0) (fun cdv A outer s H E hr =>
    (dss_cons (ds_set (i := 2) sc_parts_without.nd (de_lstM da_nil))
    (dss_cons (ds_set (i := 3) sc_parts_without.nd de_int)
    (dss_cons (ds_for PassesOwn.never (di_seq (dv 0)) (dg_nm (i := 4) sc_parts_without.nd)
      (dss_one (ds_if (dt_cmp (oc_eq hr) (de_ix (dv 4) de_int) de_str) (dss_cons (ds_set (i := 5) sc_parts_without.nd (de_call C_parts_without hr (da_cons (de_ix (dv 4) de_int) (da_cons (de_op oa_sub (dv 1) (dv 3)) da_nil))))
        (dss_cons (ds_set (i := 6) sc_parts_without.nd (de_call C_parts_without hr (da_cons (de_ix (dv 4) de_int) (da_cons (de_op oa_sub (de_op oa_sub (dv 1) (dv 3)) (de_callB cd_len T.z_len (da_cons (de_call C_joins_of hr (da_cons (de_ix (dv 4) de_int) da_nil)) da_nil))) da_nil))))
        (dss_one (ds_expr (de_append (dv 2) (da_cons (de_tup (da_cons de_str (da_cons (dv 5) (da_cons (dv 6) da_nil)))) da_nil)))))) (dss_cons (ds_augI (i := 3) sc_parts_without.nd de_int)
        (dss_one (ds_if (dt_cmp (oc_ne hr) (dv 3) (dv 1)) (dss_one (ds_expr (de_append (dv 2) (da_cons (dv 4) da_nil)))) dss_nil))))))
    (dss_one (ds_ret (de_callTy cd_tuple T.z_tuple (da_cons (dv 2) da_nil)))))))) (fun ws S Q E h => len_parts_without h) (hd_parts_without 0)
theorem okS_parts_without_1 {f : Addr} {fd : FuncData} (F : Fun K "parts_without" "parts_without" s_parts_without f fd) (T : Txt K w mg c_Line c_BadTime c_NoGround c_NoPlace c_NoProof c_NoKind c_BadText c_NoDeed c_NoRow c_TooMany c_NotDone c_NoBook c_NoCall c_NoEngine c_NoEngines c_NoLine c_NoJoin c_NoFlow c_Late c_Inside c_Dead c_NoTeam c_NoWearer c_NoBoard c_NoText c_Nothing c_NoSaying) (C_parts_without : CalD P w K mg base 6 "parts_without" (sp_parts_without 1)) (C_joins_of : CalD P w K mg base 5 "joins_of" (sp_joins_of 4)) : FnOk P w K mg base CX0 7 f fd ["parts", "join"] (uSp K (sp_parts_without 2)) :=
  Fun.okF F sc_parts_without (td_parts_without 1) (fun cdv A outer s H E hr =>
    (dss_cons (ds_set (i := 2) sc_parts_without.nd (de_lstM da_nil))
    (dss_cons (ds_set (i := 3) sc_parts_without.nd de_int)
    (dss_cons (ds_for PassesOwn.never (di_seq (dv 0)) (dg_nm (i := 4) sc_parts_without.nd)
      (dss_one (ds_if (dt_cmp (oc_eq hr) (de_ix (dv 4) de_int) de_str) (dss_cons (ds_set (i := 5) sc_parts_without.nd (de_call C_parts_without hr (da_cons (de_ix (dv 4) de_int) (da_cons (de_op oa_sub (dv 1) (dv 3)) da_nil))))
        (dss_cons (ds_set (i := 6) sc_parts_without.nd (de_call C_parts_without hr (da_cons (de_ix (dv 4) de_int) (da_cons (de_op oa_sub (de_op oa_sub (dv 1) (dv 3)) (de_callB cd_len T.z_len (da_cons (de_call C_joins_of hr (da_cons (de_ix (dv 4) de_int) da_nil)) da_nil))) da_nil))))
        (dss_one (ds_expr (de_append (dv 2) (da_cons (de_tup (da_cons de_str (da_cons (dv 5) (da_cons (dv 6) da_nil)))) da_nil)))))) (dss_cons (ds_augI (i := 3) sc_parts_without.nd de_int)
        (dss_one (ds_if (dt_cmp (oc_ne hr) (dv 3) (dv 1)) (dss_one (ds_expr (de_append (dv 2) (da_cons (dv 4) da_nil)))) dss_nil))))))
    (dss_one (ds_ret (de_callTy cd_tuple T.z_tuple (da_cons (dv 2) da_nil)))))))) (fun ws S Q E h => len_parts_without h) (hd_parts_without 1)
theorem okS_parts_without_2 {f : Addr} {fd : FuncData} (F : Fun K "parts_without" "parts_without" s_parts_without f fd) (T : Txt K w mg c_Line c_BadTime c_NoGround c_NoPlace c_NoProof c_NoKind c_BadText c_NoDeed c_NoRow c_TooMany c_NotDone c_NoBook c_NoCall c_NoEngine c_NoEngines c_NoLine c_NoJoin c_NoFlow c_Late c_Inside c_Dead c_NoTeam c_NoWearer c_NoBoard c_NoText c_Nothing c_NoSaying) (C_parts_without : CalD P w K mg base 7 "parts_without" (sp_parts_without 2)) (C_joins_of : CalD P w K mg base 5 "joins_of" (sp_joins_of 4)) : FnOk P w K mg base CX0 8 f fd ["parts", "join"] (uSp K (sp_parts_without 3)) :=
  Fun.okF F sc_parts_without (td_parts_without 2) (fun cdv A outer s H E hr =>
    (dss_cons (ds_set (i := 2) sc_parts_without.nd (de_lstM da_nil))
    (dss_cons (ds_set (i := 3) sc_parts_without.nd de_int)
    (dss_cons (ds_for PassesOwn.never (di_seq (dv 0)) (dg_nm (i := 4) sc_parts_without.nd)
      (dss_one (ds_if (dt_cmp (oc_eq hr) (de_ix (dv 4) de_int) de_str) (dss_cons (ds_set (i := 5) sc_parts_without.nd (de_call C_parts_without hr (da_cons (de_ix (dv 4) de_int) (da_cons (de_op oa_sub (dv 1) (dv 3)) da_nil))))
        (dss_cons (ds_set (i := 6) sc_parts_without.nd (de_call C_parts_without hr (da_cons (de_ix (dv 4) de_int) (da_cons (de_op oa_sub (de_op oa_sub (dv 1) (dv 3)) (de_callB cd_len T.z_len (da_cons (de_call C_joins_of hr (da_cons (de_ix (dv 4) de_int) da_nil)) da_nil))) da_nil))))
        (dss_one (ds_expr (de_append (dv 2) (da_cons (de_tup (da_cons de_str (da_cons (dv 5) (da_cons (dv 6) da_nil)))) da_nil)))))) (dss_cons (ds_augI (i := 3) sc_parts_without.nd de_int)
        (dss_one (ds_if (dt_cmp (oc_ne hr) (dv 3) (dv 1)) (dss_one (ds_expr (de_append (dv 2) (da_cons (dv 4) da_nil)))) dss_nil))))))
    (dss_one (ds_ret (de_callTy cd_tuple T.z_tuple (da_cons (dv 2) da_nil)))))))) (fun ws S Q E h => len_parts_without h) (hd_parts_without 2)
theorem okS_parts_without_3 {f : Addr} {fd : FuncData} (F : Fun K "parts_without" "parts_without" s_parts_without f fd) (T : Txt K w mg c_Line c_BadTime c_NoGround c_NoPlace c_NoProof c_NoKind c_BadText c_NoDeed c_NoRow c_TooMany c_NotDone c_NoBook c_NoCall c_NoEngine c_NoEngines c_NoLine c_NoJoin c_NoFlow c_Late c_Inside c_Dead c_NoTeam c_NoWearer c_NoBoard c_NoText c_Nothing c_NoSaying) (C_parts_without : CalD P w K mg base 8 "parts_without" (sp_parts_without 3)) (C_joins_of : CalD P w K mg base 5 "joins_of" (sp_joins_of 4)) : FnOk P w K mg base CX0 9 f fd ["parts", "join"] (uSp K (sp_parts_without 4)) :=
  Fun.okF F sc_parts_without (td_parts_without 3) (fun cdv A outer s H E hr =>
    (dss_cons (ds_set (i := 2) sc_parts_without.nd (de_lstM da_nil))
    (dss_cons (ds_set (i := 3) sc_parts_without.nd de_int)
    (dss_cons (ds_for PassesOwn.never (di_seq (dv 0)) (dg_nm (i := 4) sc_parts_without.nd)
      (dss_one (ds_if (dt_cmp (oc_eq hr) (de_ix (dv 4) de_int) de_str) (dss_cons (ds_set (i := 5) sc_parts_without.nd (de_call C_parts_without hr (da_cons (de_ix (dv 4) de_int) (da_cons (de_op oa_sub (dv 1) (dv 3)) da_nil))))
        (dss_cons (ds_set (i := 6) sc_parts_without.nd (de_call C_parts_without hr (da_cons (de_ix (dv 4) de_int) (da_cons (de_op oa_sub (de_op oa_sub (dv 1) (dv 3)) (de_callB cd_len T.z_len (da_cons (de_call C_joins_of hr (da_cons (de_ix (dv 4) de_int) da_nil)) da_nil))) da_nil))))
        (dss_one (ds_expr (de_append (dv 2) (da_cons (de_tup (da_cons de_str (da_cons (dv 5) (da_cons (dv 6) da_nil)))) da_nil)))))) (dss_cons (ds_augI (i := 3) sc_parts_without.nd de_int)
        (dss_one (ds_if (dt_cmp (oc_ne hr) (dv 3) (dv 1)) (dss_one (ds_expr (de_append (dv 2) (da_cons (dv 4) da_nil)))) dss_nil))))))
    (dss_one (ds_ret (de_callTy cd_tuple T.z_tuple (da_cons (dv 2) da_nil)))))))) (fun ws S Q E h => len_parts_without h) (hd_parts_without 3)
end
abbrev s_Line_without : Stmt := inClass (topS 40) 6
abbrev N_Line_without : List Str := ["self", "join", "joins"]
theorem sc_Line_without : FnScope N_Line_without ["self", "join"] (defScope s_Line_without) := ⟨rfl, rfl, rfl, by decide +kernel, rfl, by decide +kernel, by decide +kernel⟩
theorem st_Line_without {x0 x1 : W} : ζg N_Line_without [x0, x1] = [some x0, some x1, none] := rfl
def td_Line_without (c_Line : Addr) : DS' :=
    (ζU (ζY 2 (ζu (sp_joins_of 4) (ζl (ξd c_Line "parts" (ζB 0)) ζO)))
    (ζU (ζW (dOr (ζM (ζK (ζu sp_is_whole_within (ζl (ζB 1) (ζl (dC (.int 1)) (ζl (dCB ζR (ζl (ζB 2) ζO)) ζO)))))) (ζi (dOp dEq (dOp dIx (dOp dIx (ζB 2) (dOp ζC (ζB 1) (dC (.int 1)))) (dC (.int 0))) (dC (.str "nozzle"))))) (fun _ _ _ => False) ζp)
    (ζV (ξc (dMake c_Line (sp_Line__init_ c_Line) (ζl (ξd c_Line "source" (ζB 0)) (ζl (ζu (sp_parts_without 4) (ζl (ξd c_Line "parts" (ζB 0)) (ζl (ζB 1) ζO))) ζO)))))))
def sp_Line_without (C : Addr) : DSp := fun ws S Q _ => ∃ (s : So) (t : Pt) (n : Int), ws = [lineW C s t, .int n] ∧ s.ok ∧ t.ok 3 ∧ JnAt t n ∧ Q (lineW C s (t.less n)) S
theorem len_Line_without {C ws S Q E} (h : sp_Line_without C ws S Q E) : ws.length = 2 := by obtain ⟨_, _, _, rfl, _⟩ := h; rfl
theorem hd_Line_without (c_Line : Addr) (ws S Q E) (h : sp_Line_without c_Line ws S Q E) : td_Line_without c_Line { nx := fun _ S' => frzQ Q .non S', rt := frzQ Q } ⟨ζg N_Line_without ws, XF⟩ S := by
  obtain ⟨s, t, n, rfl, hs, ht, ja, q⟩ := h
  have jl := Pt.joins_len ht
  simp only [st_Line_without, td_Line_without]
  refine seq_go (set_go (.lst t.joins) S (fun Q h => ?_) ?_)
  · (array_get_dec)
    simp only [l_parts]
    try (array_get_dec)
    exact ⟨t, rfl, ht, by decide, h⟩
  (((try unfold ζp); dsimp only; refine seq_go ?_))
  obtain ⟨i, j, hi, hw⟩ := ja
  have il : i < t.joins.length := (List.getElem?_eq_some_iff.mp hw).1
  have hx : within 1 (t.joins.length : Int) (.int n) = true := by
    simp only [within, Bool.and_eq_true, decide_eq_true_eq]
    omega
  have hat : L2.atI t.joins (n - 1) = some j.w := by
    have : n - 1 = (i : Int) := by omega
    rw [this, atI_n il]; exact hw
  refine seq_go (if_b false (fun Q hq => ?_) (fun e => (nomatch e)) (fun _ => ?_))
  · refine or_b (a := false) (b := false) (fun Q h => ?_) (fun _ Q h => ?_) hq
    · (array_get_dec)
      refine ⟨.int n, _, _, rfl, rfl, ?_⟩
      rw [hx]
      exact h
    · (array_get_dec)
      simp only [hat]
      cases j <;> (simp only [Jn.w]; (array_get_dec); exact ⟨rfl, rfl, h⟩)
  (((try unfold ζp); dsimp only))
  refine ret_go ?_
  simp only [ξc, dMake]
  (array_get_dec)
  simp only [l_source, l_parts]
  try (array_get_dec)
  refine ⟨t, n, rfl, ht, by decide, JnAt.okAt ⟨i, j, hi, hw⟩, ?_⟩
  try (array_get_dec)
  intro p dx hp hd hne
  refine ⟨p, dx, s, t.less n, rfl, up_same, hs, Pt.less_ok t n 3 ht, rfl, ?_⟩
  exact frzI hp hd hne (frzQ.mk q)
section
variable {P : Program} {w : World} {K : PySem.W.Frag} {mg : Str → Option Value} {base : Heap} {c_Line c_BadTime c_NoGround c_NoPlace c_NoProof c_NoKind c_BadText c_NoDeed c_NoRow c_TooMany c_NotDone c_NoBook c_NoCall c_NoEngine c_NoEngines c_NoLine c_NoJoin c_NoFlow c_Late c_Inside c_Dead c_NoTeam c_NoWearer c_NoBoard c_NoText c_Nothing c_NoSaying : Addr}
theorem ok_Line_without {f : Addr} {fd : FuncData} (F : Fun K "without" "Line.without" s_Line_without f fd) (T : Txt K w mg c_Line c_BadTime c_NoGround c_NoPlace c_NoProof c_NoKind c_BadText c_NoDeed c_NoRow c_TooMany c_NotDone c_NoBook c_NoCall c_NoEngine c_NoEngines c_NoLine c_NoJoin c_NoFlow c_Late c_Inside c_Dead c_NoTeam c_NoWearer c_NoBoard c_NoText c_Nothing c_NoSaying) (C_joins_of : CalD P w K mg base 5 "joins_of" (sp_joins_of 4)) (C_is_whole_within : CalD P w K mg base 2 "is_whole_within" sp_is_whole_within) (M_Line : MakD P w K mg base 12 "Line" c_Line (sp_Line__init_ c_Line) []) (C_parts_without : CalD P w K mg base 9 "parts_without" (sp_parts_without 4)) : FnOk P w K mg base CX0 14 f fd ["self", "join"] (uSp K (sp_Line_without c_Line)) :=
  Fun.okF F sc_Line_without (td_Line_without c_Line) (fun cdv A outer s H E hr =>
    (dss_cons (ds_set (i := 2) sc_Line_without.nd (de_call C_joins_of hr (da_cons (de_fld T.cl_Line T.n_Line_parts (dv 0)) da_nil)))
    (dss_cons (ds_if (PW.pt (dw_or (dt_not (dt_tru (de_call C_is_whole_within hr (da_cons (dv 1) (da_cons de_int (da_cons (de_callB cd_len T.z_len (da_cons (dv 2) da_nil)) da_nil)))))) (dw_or1 (dt_cmp (oc_eq hr) (de_ix (de_ix (dv 2) (de_op oa_sub (dv 1) de_int)) de_int) de_str)))) (dss_one ds_never) dss_nil)
    (dss_one (ds_ret (de_frz (de_mk M_Line hr (da_cons (de_fld T.cl_Line T.n_Line_source (dv 0)) (da_cons (de_call C_parts_without hr (da_cons (de_fld T.cl_Line T.n_Line_parts (dv 0)) (da_cons (dv 1) da_nil))) da_nil))))))))) (fun ws S Q E h => len_Line_without h) (hd_Line_without c_Line)
end
def LeL : List Int → List Int → Prop
  | [], [] => True
  | x :: xs, y :: ys => x ≤ y ∧ LeL xs ys
  | _, _ => False
theorem LeL.len : ∀ {xs ys : List Int}, LeL xs ys → xs.length = ys.length
  | [], [], _ => rfl
  | _ :: _, _ :: _, h => by rw [List.length_cons, List.length_cons, LeL.len h.2]
  | [], _ :: _, h => h.elim
  | _ :: _, [], h => h.elim
theorem LeL.app : ∀ {xs ys xs' ys' : List Int}, LeL xs ys → LeL xs' ys' → LeL (xs ++ xs') (ys ++ ys')
  | [], [], _, _, _, k => k
  | _ :: _, _ :: _, _, _, h, k => ⟨h.1, LeL.app h.2 k⟩
  | [], _ :: _, _, _, h, _ => h.elim
  | _ :: _, [], _, _, h, _ => h.elim
theorem Jn.step_mono {j : Jn} (ok : j.ok) {p p' fl fl' : Int} (f0 : 0 ≤ fl') (hf : fl' ≤ fl) (le : p ≤ p') : j.beh p fl ≤ j.beh p' fl' ∧ (j.why (j.beh p fl) fl = none → j.why (j.beh p' fl') fl' = none) := by
  cases j with
  | leak l => exact ⟨le, fun _ => rfl⟩
  | pump q f =>
    show min 120 (p + q) ≤ min 120 (p' + q) ∧ ((if f < fl then some 1 else none) = none → (if f < fl' then some 1 else none) = none)
    refine ⟨by omega, fun e => ?_⟩
    by_cases c : f < fl
    · rw [if_pos c] at e; cases e
    · rw [if_neg (by omega)]
  | hose n e =>
    have hn : 0 ≤ n := by have := ok.1.1; omega
    have h1 : fl' * fl' ≤ fl * fl := Int.mul_le_mul hf hf f0 (by omega)
    have h2 : n * (fl' * fl') ≤ n * (fl * fl) := Int.mul_le_mul_of_nonneg_left h1 hn
    rw [← Int.mul_assoc, ← Int.mul_assoc] at h2
    have h3 : n * fl' * fl' / 40000 ≤ n * fl * fl / 40000 := Int.ediv_le_ediv (by decide) h2
    have h4 : p - n * fl * fl / 40000 - e ≤ p' - n * fl' * fl' / 40000 - e := by omega
    refine ⟨h4, fun e1 => ?_⟩
    replace e1 : (if p - n * fl * fl / 40000 - e < -70 then some 0 else none) = none := e1
    show (if p' - n * fl' * fl' / 40000 - e < -70 then some 0 else none) = none
    by_cases c : p - n * fl * fl / 40000 - e < -70
    · rw [if_pos c] at e1; cases e1
    · rw [if_neg (by omega)]
theorem Jn.tk_nn {j : Jn} (ok : j.ok) : 0 ≤ j.tk := by
  cases j with
  | leak l => exact ok.1
  | hose n h => exact Int.le_refl _
  | pump p f => exact Int.le_refl _
theorem Pn.walk_le {s s' : Int} (h0 : 0 ≤ s') (h : s' ≤ s) {t : Pn} : ∀ {p p' : Int} {pa pb : Nat} {xs : List Int}, t.ok → p ≤ p' → t.walk s p pa = .ok xs → ∃ ys, t.walk s' p' pb = .ok ys ∧ LeL xs ys := by
  induction t with
  | noz f q =>
    intro p p' pa pb xs ok le h
    unfold Pn.walk at h ⊢
    split at h
    · cases h
    · cases h
      rw [if_neg (by omega)]
      exact ⟨_, rfl, le, trivial⟩
  | fork a b iha ihb =>
    intro p p' pa pb xs ok le h
    unfold Pn.walk at h ⊢
    split at h
    · cases h
    · rename_i xa ha
      split at h
      · cases h
      · rename_i xb hb
        cases h
        obtain ⟨ya, hya, la⟩ := iha (pb := pb) ok.1 le ha
        obtain ⟨yb, hyb, lb⟩ := ihb (pb := pb + ya.length) ok.2 le hb
        rw [hya]
        simp only [hyb]
        exact ⟨_, rfl, la.app lb⟩
  | cons j t ih =>
    intro p p' pa pb xs ok le hh
    have hf : t.tak s' ≤ t.tak s := Pn.tak_mono h0 h ok.2
    have hf0 : 0 ≤ t.tak s' := Pn.tak_nn h0 ok.2
    have ht := Jn.tk_nn ok.1
    have hb := Jn.step_mono ok.1 (p := p) (p' := p') (fl := j.tk + t.tak s) (fl' := j.tk + t.tak s') (by omega) (by omega) le
    unfold Pn.walk at hh ⊢
    split at hh
    · cases hh
    · rename_i hn
      rw [hb.2 hn]
      simp only
      split at hh
      · cases hh
      · rename_i xt hxt
        cases hh
        obtain ⟨ys, hys, ly⟩ := ih (pb := pb + 1) ok.2 hb.1 hxt
        rw [hys]
        exact ⟨_, rfl, hb.1, ly⟩
inductive Ins (j : Jn) : Nat → Pn → Pn → Prop
  | here {t : Pn} : Ins j 1 t (.cons j t)
  | cons {n : Nat} {k : Jn} {t t' : Pn} (h : Ins j n t t') : Ins j (n + 1) (.cons k t) (.cons k t')
  | left {n : Nat} {a a' b : Pn} (h : Ins j n a a') : Ins j n (.fork a b) (.fork a' b)
  | right {n : Nat} {a b b' : Pn} (h : Ins j n b b') : Ins j (n + a.cnt) (.fork a b) (.fork a b')
theorem Ins.b {j : Jn} {n : Nat} {t t' : Pn} (h : Ins j n t t') : 1 ≤ n ∧ n ≤ t'.cnt ∧ t'.cnt = t.cnt + 1 := by
  induction h with
  | here => exact ⟨Nat.le_refl _, Nat.succ_le_succ (Nat.zero_le _), rfl⟩
  | @cons n k t t' h ih =>
    show 1 ≤ n + 1 ∧ n + 1 ≤ t'.cnt + 1 ∧ t'.cnt + 1 = t.cnt + 1 + 1
    omega
  | @left n a a' b h ih =>
    show 1 ≤ n ∧ n ≤ a'.cnt + b.cnt ∧ a'.cnt + b.cnt = a.cnt + b.cnt + 1
    omega
  | @right n a b b' h ih =>
    show 1 ≤ n + a.cnt ∧ n + a.cnt ≤ a.cnt + b'.cnt ∧ a.cnt + b'.cnt = a.cnt + b.cnt + 1
    omega
def Jn.bad : Jn → Prop
  | .leak _ => True
  | .hose _ h => h = 0
  | .pump _ _ => False
theorem Ins.tak {j : Jn} (jo : j.ok) {n : Nat} {t t' : Pn} (h : Ins j n t t') (sh : Int) : t.tak sh ≤ t'.tak sh := by
  have := Jn.tk_nn jo
  induction h with
  | @here t => show t.tak sh ≤ j.tk + t.tak sh; omega
  | @cons n k t t' h ih => show k.tk + t.tak sh ≤ k.tk + t'.tak sh; omega
  | @left n a a' b h ih => show a.tak sh + b.tak sh ≤ a'.tak sh + b.tak sh; omega
  | @right n a b b' h ih => show a.tak sh + b.tak sh ≤ a.tak sh + b'.tak sh; omega
theorem eraseIdx_l {α : Type} {xs ys : List α} {k : Nat} (h : k < xs.length) : (xs ++ ys).eraseIdx k = xs.eraseIdx k ++ ys := List.eraseIdx_append_of_lt_length h ys
theorem eraseIdx_r {α : Type} {xs ys : List α} {k : Nat} (h : xs.length ≤ k) : (xs ++ ys).eraseIdx k = xs ++ ys.eraseIdx (k - xs.length) := List.eraseIdx_append_of_length_le h ys
theorem Ins.walk {j : Jn} (jo : j.ok) (jb : j.bad) {sh : Int} (h0 : 0 ≤ sh) {n : Nat} {t t' : Pn} (h : Ins j n t t') : ∀ {p p' : Int} {pa pb : Nat} {xs : List Int}, t.ok → p ≤ p' → t'.walk sh p pa = .ok xs → ∃ ys, t.walk sh p' pb = .ok ys ∧ LeL (xs.eraseIdx (n - 1)) ys := by
  induction h with
  | @here t =>
    intro p p' pa pb xs ok le hh
    have hf0 : 0 ≤ t.tak sh := Pn.tak_nn h0 ok
    have hb : j.beh p (j.tk + t.tak sh) ≤ p := by
      cases j with
      | leak l => exact Int.le_refl _
      | pump q f => exact jb.elim
      | hose n e =>
        have e0 : e = 0 := jb
        have hn : 0 ≤ n := by have := jo.1.1; omega
        subst e0
        show p - n * (0 + t.tak sh) * (0 + t.tak sh) / 40000 - 0 ≤ p
        have h1 : 0 ≤ n * (0 + t.tak sh) * (0 + t.tak sh) := Int.mul_nonneg (Int.mul_nonneg hn (by omega)) (by omega)
        have := Int.ediv_nonneg h1 (show (0 : Int) ≤ 40000 by decide)
        omega
    unfold Pn.walk at hh
    split at hh
    · cases hh
    · split at hh
      · cases hh
      · rename_i xt hxt
        cases hh
        exact Pn.walk_le h0 (Int.le_refl _) ok (by omega) hxt
  | @cons n k t t' h ih =>
    intro p p' pa pb xs ok le hh
    have hf : t.tak sh ≤ t'.tak sh := h.tak jo sh
    have hf0 : 0 ≤ t.tak sh := Pn.tak_nn h0 ok.2
    have ht := Jn.tk_nn ok.1
    have hb := Jn.step_mono ok.1 (p := p) (p' := p') (fl := k.tk + t'.tak sh) (fl' := k.tk + t.tak sh) (by omega) (by omega) le
    have hn := h.b
    unfold Pn.walk at hh ⊢
    split at hh
    · cases hh
    · rename_i hw
      rw [hb.2 hw]
      simp only
      split at hh
      · cases hh
      · rename_i xt hxt
        cases hh
        obtain ⟨ys, hys, ly⟩ := ih (pb := pb + 1) ok.2 hb.1 hxt
        rw [hys]
        refine ⟨_, rfl, ?_⟩
        obtain ⟨m, rfl⟩ : ∃ m, n = m + 1 := ⟨n - 1, by omega⟩
        exact ⟨hb.1, ly⟩
  | @left n a a' b h ih =>
    intro p p' pa pb xs ok le hh
    have hn := h.b
    unfold Pn.walk at hh ⊢
    split at hh
    · cases hh
    · rename_i xa ha
      split at hh
      · cases hh
      · rename_i xb hb
        cases hh
        obtain ⟨ya, hya, la⟩ := ih (pb := pb) ok.1 le ha
        obtain ⟨yb, hyb, lb⟩ := Pn.walk_le (pb := pb + ya.length) h0 (Int.le_refl _) ok.2 le hb
        have hl := Pn.walk_len ha
        rw [hya]
        simp only [hyb]
        refine ⟨_, rfl, ?_⟩
        rw [eraseIdx_l (by omega)]
        exact la.app lb
  | @right n a b b' h ih =>
    intro p p' pa pb xs ok le hh
    have hn := h.b
    unfold Pn.walk at hh ⊢
    split at hh
    · cases hh
    · rename_i xa ha
      split at hh
      · cases hh
      · rename_i xb hb
        cases hh
        obtain ⟨ya, hya, la⟩ := Pn.walk_le (pb := pb) h0 (Int.le_refl _) ok.1 le ha
        obtain ⟨yb, hyb, lb⟩ := ih (pb := pb + ya.length) ok.2 le hb
        have hl := Pn.walk_len ha
        rw [hya]
        simp only [hyb]
        refine ⟨_, rfl, ?_⟩
        rw [eraseIdx_r (by omega), show n + a.cnt - 1 - xa.length = n - 1 by omega]
        exact la.app lb
theorem Ins.js {j : Jn} {n : Nat} {t t' : Pn} (h : Ins j n t t') : ∀ {js : List Jn}, Ins j (n + js.length) (js.foldr Pn.cons t) (js.foldr Pn.cons t')
  | [] => h
  | _ :: _ => .cons (Ins.js h)
theorem Ins.at {j : Jn} {t : Pn} : ∀ {js : List Jn} {k : Nat}, k ≤ js.length → Ins j (k + 1) (js.foldr Pn.cons t) ((js.take k ++ j :: js.drop k).foldr Pn.cons t)
  | _, 0, _ => .here
  | [], _ + 1, h => nomatch h
  | _ :: js, k + 1, h => .cons (Ins.at (js := js) (Nat.le_of_succ_le_succ h))
inductive More (j : Jn) : Nat → Pt → Pt → Prop
  | noz {js : List Jn} {f p : Int} {k : Nat} (h : k ≤ js.length) : More j (k + 1) (.noz js f p) (.noz (js.take k ++ j :: js.drop k) f p)
  | here {js : List Jn} {a b : Pt} {k : Nat} (h : k ≤ js.length) : More j (k + 1) (.fork js a b) (.fork (js.take k ++ j :: js.drop k) a b)
  | left {js : List Jn} {a a' b : Pt} {n : Nat} (h : More j n a a') : More j (n + js.length) (.fork js a b) (.fork js a' b)
  | right {js : List Jn} {a b b' : Pt} {n : Nat} (h : More j n b b') : More j (n + a.pn.cnt + js.length) (.fork js a b) (.fork js a b')
theorem More.ins {j : Jn} {n : Nat} {t t' : Pt} (h : More j n t t') : Ins j n t.pn t'.pn := by
  induction h with
  | noz h => exact Ins.at h
  | here h => exact Ins.at h
  | left h ih => exact (Ins.left ih).js
  | right h ih => exact (Ins.right ih).js
def Pt.small : Pt → Prop
  | .noz js _ _ => js.length ≤ 6
  | .fork js a b => js.length ≤ 6 ∧ a.small ∧ b.small
theorem More.ok {j : Jn} (jo : j.ok) {n : Nat} {t t' : Pt} (h : More j n t t') : ∀ {d : Nat}, t.ok d → t.small → t'.ok d := by
  have len : ∀ {js : List Jn} {k : Nat}, k ≤ js.length → (js.take k ++ j :: js.drop k).length = js.length + 1 := fun {js k} h => by
    rw [List.length_append, List.length_cons, List.length_take, List.length_drop]; omega
  have mem : ∀ {js : List Jn} {k : Nat}, (∀ x ∈ js, x.ok) → ∀ x ∈ js.take k ++ j :: js.drop k, x.ok := fun {js k} h x hx => by
    rcases List.mem_append.mp hx with hx | hx
    · exact h x (List.mem_of_mem_take hx)
    · rcases List.mem_cons.mp hx with rfl | hx
      · exact jo
      · exact h x (List.mem_of_mem_drop hx)
  induction h with
  | noz h => exact fun {d} o sm => ⟨by rw [len h]; exact Nat.succ_le_succ sm, mem o.2.1, o.2.2⟩
  | here h => exact fun {d} o sm => ⟨o.1, by rw [len h]; exact Nat.succ_le_succ sm.1, mem o.2.2.1, o.2.2.2⟩
  | left h ih => exact fun {d} o sm => ⟨o.1, o.2.1, o.2.2.1, ih o.2.2.2.1 sm.2.1, o.2.2.2.2⟩
  | right h ih => exact fun {d} o sm => ⟨o.1, o.2.1, o.2.2.1, o.2.2.2.1, ih o.2.2.2.2 sm.2.2⟩
theorem ans_le {s : So} {t : Pt} (ht : t.pn.ok) {a b : Int} (h0 : 0 ≤ a) (le : a ≤ b) {xs : List Int} (h : ans s t b = .ok xs) : ∃ ys, ans s t a = .ok ys ∧ LeL xs ys := by
  have tm := Pn.tak_mono h0 le ht
  cases s with
  | hyd p f =>
    have e1 : ∀ c, ans (.hyd p f) t c = if f < t.pn.tak c then .error (0, 1) else t.pn.walk c p 0 := fun _ => rfl
    rw [e1] at h ⊢
    by_cases c : f < t.pn.tak b
    · rw [if_pos c] at h; cases h
    · rw [if_neg c] at h
      rw [if_neg (by omega)]
      exact Pn.walk_le h0 le ht (Int.le_refl _) h
  | pond d => exact Pn.walk_le h0 le ht (Int.le_refl _) h
theorem ans_ins {s : So} {t t' : Pt} {j : Jn} {n : Nat} (ht : t.pn.ok) (jo : j.ok) (jb : j.bad) (hi : Ins j n t.pn t'.pn) {sh : Int} (h0 : 0 ≤ sh) {xs : List Int} (h : ans s t' sh = .ok xs) : ∃ ys, ans s t sh = .ok ys ∧ LeL (xs.eraseIdx (n - 1)) ys := by
  have tm := hi.tak jo sh
  cases s with
  | hyd p f =>
    have e1 : ∀ t : Pt, ans (.hyd p f) t sh = if f < t.pn.tak sh then .error (0, 1) else t.pn.walk sh p 0 := fun _ => rfl
    rw [e1] at h ⊢
    by_cases c : f < t'.pn.tak sh
    · rw [if_pos c] at h; cases h
    · rw [if_neg c] at h
      rw [if_neg (by omega)]
      exact hi.walk jo jb h0 ht (Int.le_refl _) h
  | pond d => exact hi.walk jo jb h0 ht (Int.le_refl _) h
def shareI (p : Nat → Bool) : Nat → Int
  | 0 => -1
  | n + 1 => if p n then n else shareI p n
theorem shareI_b {p : Nat → Bool} : ∀ n : Nat, -1 ≤ shareI p n ∧ shareI p n < n
  | 0 => ⟨Int.le_refl _, by show (-1 : Int) < 0; decide⟩
  | n + 1 => by
    have := shareI_b (p := p) n
    unfold shareI
    split <;> omega
theorem shareI_mono {p q : Nat → Bool} (h : ∀ n, p n = true → q n = true) : ∀ n : Nat, shareI p n ≤ shareI q n
  | 0 => Int.le_refl _
  | n + 1 => by
    have ih := shareI_mono h n
    have b := shareI_b (p := p) n
    unfold shareI
    cases c : p n with
    | true => rw [if_pos rfl, if_pos (h n c)]; exact Int.le_refl _
    | false =>
      rw [if_neg Bool.false_ne_true]
      split
      · omega
      · exact ih
theorem eraseZ_no {js : List Jn} {n : Int} (h : n ≤ 0 ∨ (js.length : Int) < n) : eraseZ js n = js := by
  unfold eraseZ
  rw [if_neg (by omega)]
theorem Pt.joins_noz {js : List Jn} {f p : Int} : (Pt.noz js f p).joins.length = js.length + 1 := by
  show (js.map Jn.w ++ [nozW f p]).length = _
  rw [List.length_append, List.length_map]; rfl
theorem Pt.joins_fork {js : List Jn} {a b : Pt} : (Pt.fork js a b).joins.length = js.length + (a.joins.length + b.joins.length) := by
  show (js.map Jn.w ++ (a.joins ++ b.joins)).length = _
  rw [List.length_append, List.length_map, List.length_append]
theorem Pt.less_no {t : Pt} : ∀ {n : Int}, n ≤ 0 ∨ (t.joins.length : Int) < n → t.less n = t := by
  induction t with
  | noz js f p =>
    intro n h
    rw [Pt.joins_noz] at h
    show Pt.noz (eraseZ js n) f p = _
    rw [eraseZ_no (by omega)]
  | fork js a b iha ihb =>
    intro n h
    rw [Pt.joins_fork] at h
    show Pt.fork (eraseZ js n) (a.less (n - js.length)) (b.less (n - js.length - a.joins.length)) = _
    rw [eraseZ_no (by omega), iha (by omega), ihb (by omega)]
theorem eraseZ_at {js : List Jn} {j : Jn} {k : Nat} (h : k ≤ js.length) : eraseZ (js.take k ++ j :: js.drop k) ((k + 1 : Nat) : Int) = js := by
  have l1 : (js.take k).length = k := by rw [List.length_take]; omega
  unfold eraseZ
  rw [if_pos ⟨by omega, by rw [List.length_append, l1, List.length_cons]; omega⟩, show (((k + 1 : Nat) : Int)).toNat - 1 = k by omega, List.eraseIdx_append_of_length_le (by omega), l1, Nat.sub_self, List.eraseIdx_cons_zero, List.take_append_drop]
theorem ins_len {js : List Jn} {j : Jn} {k : Nat} (h : k ≤ js.length) : (js.take k ++ j :: js.drop k).length = js.length + 1 := by
  rw [List.length_append, List.length_cons, List.length_take, List.length_drop]; omega
theorem More.b {j : Jn} {n : Nat} {t t' : Pt} (h : More j n t t') : 1 ≤ n ∧ n ≤ t'.joins.length ∧ t'.joins.length = t.joins.length + 1 := by
  have := h.ins.b
  rw [Pt.pn_cnt, Pt.pn_cnt] at this
  exact this
theorem More.less {j : Jn} {n : Nat} {t t' : Pt} (h : More j n t t') : t'.less (n : Int) = t := by
  induction h with
  | @noz js f p k h =>
    show Pt.noz (eraseZ _ _) f p = _
    rw [eraseZ_at h]
  | @here js a b k h =>
    show Pt.fork (eraseZ _ _) (a.less _) (b.less _) = _
    rw [eraseZ_at h, ins_len h, Pt.less_no (by omega), Pt.less_no (by omega)]
  | @left js a a' b n h ih =>
    have hb := h.b
    show Pt.fork (eraseZ _ _) (a'.less _) (b.less _) = _
    rw [eraseZ_no (by omega), show ((n + js.length : Nat) : Int) - js.length = n by omega, ih, Pt.less_no (by omega)]
  | @right js a b b' n h ih =>
    have hb := h.b
    have ca := Pt.pn_cnt (t := a)
    show Pt.fork (eraseZ _ _) (a.less _) (b'.less _) = _
    rw [eraseZ_no (by omega), Pt.less_no (by omega), show ((n + a.pn.cnt + js.length : Nat) : Int) - js.length - a.joins.length = n by omega, ih]
theorem More.at {j : Jn} {n : Nat} {t t' : Pt} (h : More j n t t') : JnAt t' n := by
  have key : ∃ i : Nat, i + 1 = n ∧ t'.joins[i]? = some j.w := by
    have row : ∀ {js : List Jn} {k : Nat} {r : List W}, k ≤ js.length → ((js.take k ++ j :: js.drop k).map Jn.w ++ r)[k]? = some j.w := fun {js k r} h => by
      have l1 : (js.take k).length = k := by rw [List.length_take]; omega
      rw [List.getElem?_append_left (by rw [List.length_map, ins_len h]; omega), List.getElem?_map, List.getElem?_append_right (by omega), l1, Nat.sub_self]
      rfl
    induction h with
    | @noz js f p k h => exact ⟨k, rfl, row h⟩
    | @here js a b k h => exact ⟨k, rfl, row h⟩
    | @left js a a' b n h ih =>
      obtain ⟨i, hi, hw⟩ := ih
      refine ⟨js.length + i, by omega, ?_⟩
      show (js.map Jn.w ++ (a'.joins ++ b.joins))[js.length + i]? = _
      rw [List.getElem?_append_right (by rw [List.length_map]; omega), List.length_map, Nat.add_sub_cancel_left, List.getElem?_append_left (List.getElem?_eq_some_iff.mp hw).1]
      exact hw
    | @right js a b b' n h ih =>
      obtain ⟨i, hi, hw⟩ := ih
      have ca := Pt.pn_cnt (t := a)
      refine ⟨js.length + (a.joins.length + i), by omega, ?_⟩
      show (js.map Jn.w ++ (a.joins ++ b'.joins))[js.length + (a.joins.length + i)]? = _
      rw [List.getElem?_append_right (by rw [List.length_map]; omega), List.length_map, Nat.add_sub_cancel_left, List.getElem?_append_right (by omega), Nat.add_sub_cancel_left]
      exact hw
  obtain ⟨i, hi, hw⟩ := key
  exact ⟨i, j, by omega, hw⟩
abbrev s_Line__len_ : Stmt := inClass (topS 40) 2
abbrev N_Line__len_ : List Str := ["self"]
theorem sc_Line__len_ : FnScope N_Line__len_ ["self"] (defScope s_Line__len_) := ⟨rfl, rfl, rfl, by decide +kernel, rfl, by decide +kernel, by decide +kernel⟩
theorem st_Line__len_ {x0 : W} : ζg N_Line__len_ [x0] = [some x0] := rfl
def td_Line__len_ (c_Line : Addr) : DS' :=
    (ζV (dCB ζR (ζl (ζu (sp_joins_of 4) (ζl (ξd c_Line "parts" (ζB 0)) ζO)) ζO)))
def sp_Line__len_ (C : Addr) : DSp := fun ws S Q _ => ∃ s t, ws = [lineW C s t] ∧ s.ok ∧ t.ok 3 ∧ Q (.int (t.joins.length : Nat)) S
theorem len_Line__len_ {C ws S Q E} (h : sp_Line__len_ C ws S Q E) : ws.length = 1 := by obtain ⟨_, _, rfl, _⟩ := h; rfl
theorem hd_Line__len_ (c_Line : Addr) (ws S Q E) (h : sp_Line__len_ c_Line ws S Q E) : td_Line__len_ c_Line { nx := fun _ S' => frzQ Q .non S', rt := frzQ Q } ⟨ζg N_Line__len_ ws, XF⟩ S := by
  obtain ⟨s, t, rfl, hs, ht, q⟩ := h
  simp only [st_Line__len_, td_Line__len_]
  refine ret_go ?_
  (array_get_dec)
  simp only [l_parts]
  try (array_get_dec)
  refine ⟨t, rfl, ht, by decide, ?_⟩
  (array_get_dec)
  exact frzQ.mk q
section
variable {P : Program} {w : World} {K : PySem.W.Frag} {mg : Str → Option Value} {base : Heap} {c_Line c_BadTime c_NoGround c_NoPlace c_NoProof c_NoKind c_BadText c_NoDeed c_NoRow c_TooMany c_NotDone c_NoBook c_NoCall c_NoEngine c_NoEngines c_NoLine c_NoJoin c_NoFlow c_Late c_Inside c_Dead c_NoTeam c_NoWearer c_NoBoard c_NoText c_Nothing c_NoSaying : Addr}
theorem ok_Line__len_ {f : Addr} {fd : FuncData} (F : Fun K "__len__" "Line.__len__" s_Line__len_ f fd) (T : Txt K w mg c_Line c_BadTime c_NoGround c_NoPlace c_NoProof c_NoKind c_BadText c_NoDeed c_NoRow c_TooMany c_NotDone c_NoBook c_NoCall c_NoEngine c_NoEngines c_NoLine c_NoJoin c_NoFlow c_Late c_Inside c_Dead c_NoTeam c_NoWearer c_NoBoard c_NoText c_Nothing c_NoSaying) (C_joins_of : CalD P w K mg base 5 "joins_of" (sp_joins_of 4)) : FnOk P w K mg base CX0 6 f fd ["self"] (uSp K (sp_Line__len_ c_Line)) :=
  Fun.okF F sc_Line__len_ (td_Line__len_ c_Line) (fun cdv A outer s H E hr =>
    (dss_one (ds_ret (de_callB cd_len T.z_len (da_cons (de_call C_joins_of hr (da_cons (de_fld T.cl_Line T.n_Line_parts (dv 0)) da_nil)) da_nil))))) (fun ws S Q E h => len_Line__len_ h) (hd_Line__len_ c_Line)
end
abbrev s_Line__eq_ : Stmt := inClass (topS 40) 1
abbrev N_Line__eq_ : List Str := ["self", "other"]
theorem sc_Line__eq_ : FnScope N_Line__eq_ ["self", "other"] (defScope s_Line__eq_) := ⟨rfl, rfl, rfl, by decide +kernel, rfl, by decide +kernel, by decide +kernel⟩
theorem st_Line__eq_ {x0 x1 : W} : ζg N_Line__eq_ [x0, x1] = [some x0, some x1] := rfl
def td_Line__eq_ (c_Line : Addr) : DS' :=
    (ζV (ζj (dUn (dIsO c_Line) (ζB 1)) (ζj (dOp dEq (ξd c_Line "source" (ζB 0)) (ξd c_Line "source" (ζB 1))) (dOp dEq (ξd c_Line "parts" (ζB 0)) (ξd c_Line "parts" (ζB 1))))))
def sp_Line__eq_ (C : Addr) : DSp := fun ws S Q _ => ∃ s t, (∃ s' t', ws = [lineW C s t, lineW C s' t'] ∧ Pt.ok t 3 ∧ Pt.ok t' 3 ∧ So.ok s ∧ So.ok s' ∧ Q (.bl (weq s.w s'.w && weq (.tup t.ws) (.tup t'.ws))) S) ∨ ∃ x, ws = [lineW C s t, x] ∧ Pl x = true ∧ Q (.bl false) S
theorem len_Line__eq_ {C ws S Q E} (h : sp_Line__eq_ C ws S Q E) : ws.length = 2 := by rcases h with ⟨_, _, ⟨_, _, rfl, _⟩ | ⟨_, rfl, _⟩⟩ <;> rfl
theorem hd_Line__eq_ (c_Line : Addr) (ws S Q E) (h : sp_Line__eq_ c_Line ws S Q E) : td_Line__eq_ c_Line { nx := fun _ S' => frzQ Q .non S', rt := frzQ Q } ⟨ζg N_Line__eq_ ws, XF⟩ S := by
  simp only [st_Line__eq_, td_Line__eq_]
  rcases h with ⟨s, t, ⟨s', t', rfl, ht, ht', hs, hs', q⟩ | ⟨x, rfl, px, q⟩⟩
  · refine ret_go ?_
    (array_get_dec)
    refine ⟨is_line' s' t', ?_⟩
    rw [is_line]
    (array_get_dec)
    simp only [l_source, l_parts]
    have v1 : view S s.w = s.w := by cases s <;> rfl
    have v2 : view S s'.w = s'.w := by cases s' <;> rfl
    rw [v1, v2]
    refine ⟨So.okD hs, So.okD hs', ?_⟩
    cases e : weq s.w s'.w
    · rw [e] at q
      show frzQ Q (.bl false) S
      exact frzQ.mk q
    · rw [e] at q
      exact ⟨Pt.okD ht, Pt.okD ht', frzQ.mk q⟩
  · refine ret_go ?_
    cases x <;> first | cases px | skip
    all_goals (array_get_dec)
    all_goals exact ⟨rfl, frzQ.mk q⟩
section
variable {P : Program} {w : World} {K : PySem.W.Frag} {mg : Str → Option Value} {base : Heap} {c_Line c_BadTime c_NoGround c_NoPlace c_NoProof c_NoKind c_BadText c_NoDeed c_NoRow c_TooMany c_NotDone c_NoBook c_NoCall c_NoEngine c_NoEngines c_NoLine c_NoJoin c_NoFlow c_Late c_Inside c_Dead c_NoTeam c_NoWearer c_NoBoard c_NoText c_Nothing c_NoSaying : Addr}
theorem ok_Line__eq_ {f : Addr} {fd : FuncData} (F : Fun K "__eq__" "Line.__eq__" s_Line__eq_ f fd) (T : Txt K w mg c_Line c_BadTime c_NoGround c_NoPlace c_NoProof c_NoKind c_BadText c_NoDeed c_NoRow c_TooMany c_NotDone c_NoBook c_NoCall c_NoEngine c_NoEngines c_NoLine c_NoJoin c_NoFlow c_Late c_Inside c_Dead c_NoTeam c_NoWearer c_NoBoard c_NoText c_Nothing c_NoSaying) : FnOk P w K mg base CX0 1 f fd ["self", "other"] (uSp K (sp_Line__eq_ c_Line)) :=
  Fun.okF F sc_Line__eq_ (td_Line__eq_ c_Line) (fun cdv A outer s H E hr =>
    (dss_one (ds_ret (de_and (de_isiO T.ow_Line (dv 1) T.z_isinstance T.gc_Line) (de_and (de_cmp (oc_eq hr) (de_fld T.cl_Line T.n_Line_source (dv 0)) (de_fld T.cl_Line T.n_Line_source (dv 1))) (de_one (de_cmp (oc_eq hr) (de_fld T.cl_Line T.n_Line_parts (dv 0)) (de_fld T.cl_Line T.n_Line_parts (dv 1))))))))) (fun ws S Q E h => len_Line__eq_ h) (hd_Line__eq_ c_Line)
end
end DL
namespace My
open PySem PySem.Spec PyProof.Rows L2 PpSet PySem.W
section
variable {P : Program} {w : World} {A : Around} {E : Value → Shared → Prop} {s : Shared} {a : Addr}
end
end My
namespace My
open PySem PySem.Spec PyProof.Rows L2 PpSet PySem.W
section
variable {X : Cx}
end
end My
namespace DL
open PySem PySem.Spec PyProof.Rows L2 PpSet
section
variable {X : Cx} {Z : WX}
end
end DL
namespace DL
open PySem PySem.Spec PyProof.Rows L2
def hlB (s : So) (t : Pt) (k : Nat) : Bool := holds s t (k : Nat)
theorem great_share (s : So) (t : Pt) : ∀ n : Nat, (great s t n = .non ∧ shareI (hlB s t) n = -1) ∨ great s t n = .int (shareI (hlB s t) n)
  | 0 => .inl ⟨rfl, rfl⟩
  | n + 1 => by
    show ((if holds s t (n : Nat) then W.int (n : Nat) else great s t n) = .non ∧ (if hlB s t n then ((n : Nat) : Int) else shareI (hlB s t) n) = -1) ∨ (if holds s t (n : Nat) then W.int (n : Nat) else great s t n) = .int (if hlB s t n then ((n : Nat) : Int) else shareI (hlB s t) n)
    unfold hlB
    by_cases h : holds s t (n : Nat) = true
    · rw [if_pos h, if_pos h]; exact .inr rfl
    · rw [if_neg h, if_neg h]; exact great_share s t n
abbrev s_law_share : Stmt := topS 64
abbrev N_law_share : List Str := ["_law_line", "_law_told"]
theorem sc_law_share : FnScope N_law_share ["_law_line"] (defScope s_law_share) := ⟨rfl, rfl, rfl, by decide +kernel, rfl, by decide +kernel, by decide +kernel⟩
theorem st_law_share {x0 : W} : ζg N_law_share [x0] = [some x0, none] := rfl
def td_law_share (c_Line : Addr) : DS' :=
    (ζU (ζY 1 (dMth c_Line "greatest" (sp_Line_greatest c_Line) [] (ζB 0) ζO))
    (ζV (dIf (ζi (dOp ζJ (ζB 1) (dC .non))) (dUn ζI (dC (.int 1))) (ζB 1))))
def sp_law_share (C : Addr) : DSp := fun ws S Q _ => ∃ (s : So) (t : Pt), ws = [lineW C s t] ∧ s.ok ∧ t.ok 3 ∧ Q (.int (shareI (hlB s t) 101)) S
theorem len_law_share {C ws S Q E} (h : sp_law_share C ws S Q E) : ws.length = 1 := by obtain ⟨_, _, rfl, _⟩ := h; rfl
local macro_rules | `(tactic| array_get_dec) => `(tactic| simp only [↓ζB,↓dC,↓dOp,↓dUn,↓dI,↓dI0,↓ζC,↓ζD,↓ζE,↓ζF,↓ζG,↓ζH,↓ζI,↓dEq,↓dNe,↓dLt,↓dLe,↓dGt,↓dGe,↓ζJ,↓ζh,↓ζK,↓ζi,↓ζb,↓ζL,↓dOr,↓ζM,↓ζj,↓ζN,↓ζk,↓dIf,↓ζO,↓ζl,↓ζP,↓ζQ,↓ζm,↓dCB,↓ζR,↓ζS,↓ζn,↓ζo,↓ζT,↓ζa,↓ζc,↓ζp,↓ζU,↓ζq,↓ζV,↓ζW,↓ζX,↓ζY,↓ζr,↓ζs,↓ζt,↓ζd,↓Om.set,↓ζu,↓dIx,↓dNo,↓ζv,↓dSl,↓ζZ,↓dBM,↓ξa,↓ξb,↓ζf,↓dIs,↓ξc,↓ξd,↓ζw,↓ζx,↓ζy,↓ζz,↓ξe,↓ζA,κa,κb,κc,κd,κe,κf,κg,κh,κi,↓ζg,↓wp,↓wps,↓dIn,κj,κk,κl,κm,κn,κo,κp,κq,κr,κs,κt,κu,κv,κw,κx,κy,κz,κA,κB,κC,κD,κE,κF,κG,κH,κI,κJ,κK,κL,κM,κN,κO,κP,κQ,κR,κS,κT,κU,κV,κW,κX,κY,κZ,ιa,ιb,ιc,ιd,ιe,ιf,ιg,ιh,ιi,ιj,ιk,ιl,ιm,ιn,ιo,ιp,ιq,ιr,ιs,ιt,ιu,ιv,ιw,ιx,ιy,ιz])
theorem hd_law_share (c_Line : Addr) (ws S Q E) (h : sp_law_share c_Line ws S Q E) : td_law_share c_Line { nx := fun _ S' => frzQ Q .non S', rt := frzQ Q } ⟨ζg N_law_share ws, XF⟩ S := by
  obtain ⟨s, t, rfl, hs, ht, q⟩ := h
  simp only [st_law_share, td_law_share]
  refine seq_go (set_go (great s t 101) S (fun Q hq => ?_) ?_)
  · simp only [dMth]
    (array_get_dec)
    exact ⟨l_ins (by decide +kernel), s, t, rfl, hs, ht, hq⟩
  (((try unfold ζp); dsimp only))
  refine ret_go ?_
  rcases great_share s t 101 with ⟨e, e2⟩ | e
  · rw [e]
    rw [e2] at q
    (array_get_dec)
    exact frzQ.mk q
  · rw [e]
    (array_get_dec)
    exact frzQ.mk q
section
variable {P : Program} {w : World} {K : PySem.W.Frag} {mg : Str → Option Value} {base : Heap} {c_Line c_BadTime c_NoGround c_NoPlace c_NoProof c_NoKind c_BadText c_NoDeed c_NoRow c_TooMany c_NotDone c_NoBook c_NoCall c_NoEngine c_NoEngines c_NoLine c_NoJoin c_NoFlow c_Late c_Inside c_Dead c_NoTeam c_NoWearer c_NoBoard c_NoText c_Nothing c_NoSaying : Addr}
theorem ok_law_share {f : Addr} {fd : FuncData} (F : Fun K "_law_share" "_law_share" s_law_share f fd) (T : Txt K w mg c_Line c_BadTime c_NoGround c_NoPlace c_NoProof c_NoKind c_BadText c_NoDeed c_NoRow c_TooMany c_NotDone c_NoBook c_NoCall c_NoEngine c_NoEngines c_NoLine c_NoJoin c_NoFlow c_Late c_Inside c_Dead c_NoTeam c_NoWearer c_NoBoard c_NoText c_Nothing c_NoSaying) (D_Line_greatest : MthD P w K mg base 14 c_Line "greatest" (sp_Line_greatest c_Line) []) : FnOk P w K mg base CX0 15 f fd ["_law_line"] (uSp K (sp_law_share c_Line)) :=
  Fun.okF F sc_law_share (td_law_share c_Line) (fun cdv A outer s H E hr =>
    (dss_cons (ds_set (i := 1) sc_law_share.nd (de_mth0 T.cl_Line D_Line_greatest hr (dv 0)))
    (dss_one (ds_ret (de_if (dt_cmp oc_is (dv 1) de_non) (de_neg de_int) (dv 1)))))) (fun ws S Q E h => len_law_share h) (hd_law_share c_Line)
end
theorem all_bl (n : Nat) : bls (List.replicate n (W.bl true)) = some (List.replicate n true) := by
  induction n with
  | zero => rfl
  | succ n ih => rw [List.replicate_succ, bls, ih]; rfl
theorem lcZs {t : DA'} {te : DE'} {T : Tg} {own : List Nat} {ω : Om} {S : Sto} {Q : WQ} {w1 w2 : W} {xs ys : List W} (h : ∀ Q' : List W → Sto → Prop, Q' [w1, w2] S → t ω S Q') (h1 : sq2 S w1 = some xs) (h2 : sq2 S w2 = some ys) (k1 : ∀ p acc, S p = none → sq2 (up S p (.lst acc)) w1 = some xs) (k2 : ∀ p acc, S p = none → sq2 (up S p (.lst acc)) w2 = some ys) (g : W → W) (hl : xs.length ≤ 1000000)
    (hb : ∀ w ∈ izip xs ys, ∃ ω2, ζt T w (wp ω own) = some ω2 ∧ ∀ p acc, S p = none → ∀ Qe : WQ, Qe (g w) (up S p (.lst acc)) → te ω2 (up S p (.lst acc)) Qe)
    (q : Q (.lst ((izip xs ys).map g)) S) : dLc (ξe t) T dYes te own ω S Q := by
  refine h _ ?_
  show (match sq2 S w1, sq2 S w2 with | some xs, some ys => _ | _, _ => False)
  rw [h1, h2]
  refine lcM g ?_ (fun p acc hp => ⟨k1 p acc hp, k2 p acc hp⟩) hb q
  unfold izip
  rw [List.length_map, List.length_zip]
  omega
def Rd (S : Sto) (w : W) : Option (List Int) → Prop
  | some xs => w = .lst (xs.map W.int) ∨ ∃ l, w = .ref l ∧ S l = some (.lst (xs.map W.int))
  | none => ∃ ws, w = .tup ws
theorem Rd.v {S : Sto} {w : W} {xs : List Int} (h : Rd S w (some xs)) : view S w = .lst (xs.map W.int) := by
  rcases h with rfl | ⟨l, rfl, hl⟩
  · rfl
  · exact view_ref hl
theorem Rd.up {S : Sto} {w : W} {xs : List Int} (h : Rd S w (some xs)) {p : Addr} {o : WO} (hp : S p = none) : Rd (DL.up S p o) w (some xs) := by
  rcases h with rfl | ⟨l, rfl, hl⟩
  · exact .inl rfl
  · exact .inr ⟨l, rfl, by rw [up_ne fun e => by rw [e, hp] at hl; cases hl]; exact hl⟩
theorem Rd.isi {S : Sto} {w : W} {o : Option (List Int)} (h : Rd S w o) : DL.isi S .lst w = some o.isSome := by
  cases o with
  | none => obtain ⟨ws, rfl⟩ := h; rfl
  | some xs =>
    rcases h with rfl | ⟨l, rfl, hl⟩
    · rfl
    · simp only [DL.isi, view, hl]; rfl
def NM : Option (List Int) → Option (List Int) → Prop
  | some xs, some ys => LeL xs ys
  | some _, none => False
  | none, _ => True
theorem zip_le : ∀ {xs ys : List Int}, LeL xs ys → ∀ p ∈ (xs.map W.int).zip (ys.map W.int), ∃ x y : Int, p = (.int x, .int y) ∧ x ≤ y
  | [], [], _, _, h => nomatch h
  | x :: xs, y :: ys, h, p, hp => by
    rcases List.mem_cons.mp hp with rfl | hp
    · exact ⟨x, y, rfl, h.1⟩
    · exact zip_le h.2 p hp
  | [], _ :: _, h, _, _ => h.elim
  | _ :: _, [], h, _, _ => h.elim
abbrev s_law_not_more : Stmt := topS 63
abbrev N_law_not_more : List Str := ["_law_one", "_law_other", "_law_low", "_law_high"]
theorem sc_law_not_more : FnScope N_law_not_more ["_law_one", "_law_other"] (defScope s_law_not_more) := ⟨rfl, rfl, rfl, by decide +kernel, rfl, by decide +kernel, by decide +kernel⟩
theorem st_law_not_more {x0 x1 : W} : ζg N_law_not_more [x0, x1] = [some x0, some x1, none, none] := rfl
def td_law_not_more : DS' :=
    (ζU (ζW (dOr (ζM (ζK (dUn (dIs .lst) (ζB 0)))) (ζM (ζK (dUn (dIs .lst) (ζB 1))))) (ζV (ζk (dUn (dIs .lst) (ζB 0)))) ζp)
    (ζV (ζj (dOp dEq (dCB ζR (ζl (ζB 0) ζO)) (dCB ζR (ζl (ζB 1) ζO))) (dCB ζT (ζl (dLc (ξe (ζl (ζB 0) (ζl (ζB 1) ζO))) (.tp ((.nm 2) :: ((.nm 3) :: []))) dYes (dOp dLe (ζB 2) (ζB 3)) [2, 3]) ζO)))))
def sp_law_not_more : DSp := fun ws S Q _ => ∃ (x y : W) (a b : Option (List Int)), ws = [x, y] ∧ Rd S x a ∧ Rd S y b ∧ NM a b ∧ (∀ xs, a = some xs → xs.length ≤ 1000) ∧ Q (.bl true) S
theorem len_law_not_more {ws S Q E} (h : sp_law_not_more ws S Q E) : ws.length = 2 := by obtain ⟨_, _, _, _, rfl, _⟩ := h; rfl
theorem hd_law_not_more (ws S Q E) (h : sp_law_not_more ws S Q E) : td_law_not_more { nx := fun _ S' => frzQ Q .non S', rt := frzQ Q } ⟨ζg N_law_not_more ws, XF⟩ S := by
  obtain ⟨x, y, a, b, rfl, ha, hb, nm, hl, q⟩ := h
  simp only [st_law_not_more, td_law_not_more]
  have ia := ha.isi
  have ib := hb.isi
  refine seq_go (if_b (!a.isSome || !b.isSome) (fun Q' h => or_b (fun Q2 h2 => not_b (a := a.isSome) (fun Q3 h3 => ?_) h2) (fun _ Q2 h2 => not_b (a := b.isSome) (fun Q3 h3 => ?_) h2) h) (fun c => ?_) (fun c => ?_))
  · (array_get_dec)
    rw [ia]
    exact h3
  · (array_get_dec)
    rw [ib]
    exact h3
  · refine ret_go ?_
    cases a with
    | none =>
      (array_get_dec)
      rw [ia]
      (array_get_dec)
      exact frzQ.mk q
    | some xs =>
      cases b with
      | none => exact nm.elim
      | some ys => cases c
  · cases a with
    | none => cases c
    | some xs =>
    cases b with
    | none => cases c
    | some ys =>
    (((try unfold ζp); dsimp only))
    have ll := LeL.len nm
    have vx := ha.v
    have vy := hb.v
    have lx := hl xs rfl
    refine ret_go ?_
    unfold ζj
    (array_get_dec)
    rw [vx, vy]
    dsimp only
    refine ⟨rfl, rfl, ?_⟩
    rw [weq_int, decide_eq_true (by rw [List.length_map, List.length_map]; omega)]
    dsimp only
    refine lcZs (w1 := x) (w2 := y) (xs := xs.map W.int) (ys := ys.map W.int) (fun Q' h => by (array_get_dec); exact h) (by unfold sq2; rw [vx]) (by unfold sq2; rw [vy]) (fun p acc hp => by unfold sq2; rw [(ha.up hp).v]) (fun p acc hp => by unfold sq2; rw [(hb.up hp).v]) (fun _ => .bl true) (by rw [List.length_map]; omega) (fun w hw => ?_) ?_
    · unfold izip at hw
      obtain ⟨p, hp, rfl⟩ := List.mem_map.mp hw
      obtain ⟨u, v, rfl, le⟩ := zip_le nm p hp
      refine ⟨_, rfl, fun p0 acc h0 Qe h => ?_⟩
      (array_get_dec)
      rw [show decide (u ≤ v) = true from decide_eq_true le]
      exact h
    · rw [List.map_const']
      show (match bls (List.replicate _ (W.bl true)) with | some bs => frzQ Q (W.bl (bs.all id)) S | none => False)
      rw [all_bl]
      show frzQ Q (W.bl ((List.replicate _ true).all id)) S
      rw [show (List.replicate (izip (xs.map W.int) (ys.map W.int)).length true).all id = true from List.all_eq_true.mpr fun x hx => (List.eq_of_mem_replicate hx)]
      exact frzQ.mk q
section
variable {P : Program} {w : World} {K : PySem.W.Frag} {mg : Str → Option Value} {base : Heap} {c_Line c_BadTime c_NoGround c_NoPlace c_NoProof c_NoKind c_BadText c_NoDeed c_NoRow c_TooMany c_NotDone c_NoBook c_NoCall c_NoEngine c_NoEngines c_NoLine c_NoJoin c_NoFlow c_Late c_Inside c_Dead c_NoTeam c_NoWearer c_NoBoard c_NoText c_Nothing c_NoSaying : Addr}
theorem ok_law_not_more {f : Addr} {fd : FuncData} (F : Fun K "_law_not_more" "_law_not_more" s_law_not_more f fd) (T : Txt K w mg c_Line c_BadTime c_NoGround c_NoPlace c_NoProof c_NoKind c_BadText c_NoDeed c_NoRow c_TooMany c_NotDone c_NoBook c_NoCall c_NoEngine c_NoEngines c_NoLine c_NoJoin c_NoFlow c_Late c_Inside c_Dead c_NoTeam c_NoWearer c_NoBoard c_NoText c_Nothing c_NoSaying) : FnOk P w K mg base CX0 1 f fd ["_law_one", "_law_other"] (uSp K (sp_law_not_more)) :=
  Fun.okF F sc_law_not_more (td_law_not_more) (fun cdv A outer s H E hr =>
    (dss_cons (ds_if (PW.pt (dw_or (dt_not (dt_tru (de_isi .lst (dv 0) T.z_isinstance T.z_list))) (dw_or1 (dt_not (dt_tru (de_isi .lst (dv 1) T.z_isinstance T.z_list)))))) (dss_one (ds_ret (de_not (de_isi .lst (dv 0) T.z_isinstance T.z_list)))) dss_nil)
    (dss_one (ds_ret (de_and (de_cmp (oc_eq hr) (de_callB cd_len T.z_len (da_cons (dv 0) da_nil)) (de_callB cd_len T.z_len (da_cons (dv 1) da_nil))) (de_one (de_callB cd_all T.z_all (da_cons (de_lc (own := [("_law_low", 2), ("_law_high", 3)]) sc_law_not_more.nd (di_zip T.z_zip (da_cons (dv 0) (da_cons (dv 1) da_nil))) (blkOk_by (own := [("_law_low", 2), ("_law_high", 3)]) (N := N_law_not_more) (sc := defScope s_law_not_more) (by decide +kernel)) (fun _ _ _ _ _ => (dg_tp (dgs_cons (dg_nm (i := 2) sc_law_not_more.nd) (dgs_cons (dg_nm (i := 3) sc_law_not_more.nd) dgs_nil)))) (fun _ _ _ _ _ => dts_nil) (fun _ _ _ _ _ => (de_cmp oc_le (dv 2) (dv 3)))) da_nil)))))))) (fun ws S Q E h => len_law_not_more h) (hd_law_not_more)
end
theorem asgN_go {T : Tg} {te : DE'} {D : Out} {ω : Om} {S : Sto} (N : W → Sto → Prop) (h : ∀ Q : WQ, (∀ w S1, N w S1 → Q w S1) → te ω S Q) (k : ∀ w S1, N w S1 → ∃ ω', ζt T w ω = some ω' ∧ D.nx ω' S1) : ζr T te D ω S := by
  refine h _ fun w S1 hn => ?_
  obtain ⟨ω', e, r⟩ := k w S1 hn
  rw [e]
  exact r
def sp_law_less : Nat → DSp
  | 0 => fun _ _ _ _ => False
  | d + 1 => fun ws S Q _ => ∃ (t : Pt) (n : Int), ws = [.tup t.ws, .int n] ∧ t.ok d ∧ d ≤ 3 ∧ Q (.tup [.tup (t.less n).ws, .int (t.joins.length : Nat)]) S
theorem len_law_less {d ws S Q E} (h : sp_law_less (d + 1) ws S Q E) : ws.length = 2 := by obtain ⟨_, _, rfl, _⟩ := h; rfl
abbrev s_law_less : Stmt := topS 65
abbrev N_law_less : List Str := ["_law_tail", "_law_number", "_law_found", "_law_at", "_law_part", "_law_last", "_law_sides", "_law_some", "_law_side", "_law_many"]
theorem sc_law_less : FnScope N_law_less ["_law_tail", "_law_number"] (defScope s_law_less) := ⟨rfl, rfl, rfl, by decide +kernel, rfl, by decide +kernel, by decide +kernel⟩
theorem st_law_less {x0 x1 : W} : ζg N_law_less [x0, x1] = [some x0, some x1, none, none, none, none, none, none, none, none] := rfl
def td_law_less (d : Nat) : DS' :=
    (ζU (ζs 2 3 (ζl (ζm ζO) (ζl (dC (.int 0)) ζO)))
    (ζU (dFor (ζA (dSl (ζB 0) dNo (ζv (dUn ζI (dC (.int 1)))))) (.nm 4)
      (ζU (dAugI 3 (dC (.int 1)))
      (ζW (ζi (dOp dNe (ζB 3) (ζB 1))) (ζq (dBM ξa (ζB 2) (ζl (ζB 4) ζO))) ζp)))
    (ζU (ζY 5 (dOp dIx (ζB 0) (dUn ζI (dC (.int 1)))))
    (ζU (ζW (ζi (dOp dEq (dOp dIx (ζB 5) (dC (.int 0))) (dC (.str "nozzle")))) (ζV (ζP (ζl (dOp ζH (dCB ζc (ζl (ζB 2) ζO)) (ζP (ζl (ζB 5) ζO))) (ζl (dOp ζH (ζB 3) (dC (.int 1))) ζO)))) ζp)
    (ζU (ζY 6 (ζm ζO))
    (ζU (dFor (ζA (dSl (ζB 5) (ζv (dC (.int 1))) dNo)) (.nm 7)
      (ζU (ζr (.tp ((.nm 8) :: ((.nm 9) :: []))) (ζu (sp_law_less d) (ζl (ζB 7) (ζl (dOp ζC (ζB 1) (ζB 3)) ζO))))
      (ζU (ζq (dBM ξa (ζB 6) (ζl (ζB 8) ζO)))
      (dAugI 3 (ζB 9)))))
    (ζV (ζP (ζl (dOp ζH (dCB ζc (ζl (ζB 2) ζO)) (ζP (ζl (ζP (ζl (dC (.str "fork")) (ζl (dOp dIx (ζB 6) (dC (.int 0))) (ζl (dOp dIx (ζB 6) (dC (.int 1))) ζO)))) ζO))) (ζl (ζB 3) ζO))))))))))
theorem hd_law_less (d : Nat) (ws S Q E) (h : sp_law_less (d + 1) ws S Q E) : td_law_less d { nx := fun _ S' => frzQ Q .non S', rt := frzQ Q } ⟨ζg N_law_less ws, XF⟩ S := by
  obtain ⟨t, n, rfl, ht, d3, q⟩ := h
  have jl := Pt.joins_len ht
  have p3 : 2 ^ d ≤ 2 ^ 3 := Nat.pow_le_pow_right (by decide) d3
  obtain ⟨js, last, e1, j7, jok, hlast⟩ := Pt.splitL ht n
  simp only [st_law_less, td_law_less]
  rw [e1]
  refine seq_go (par_go (fun w u S1 => ∃ l, w = .ref l ∧ u = .int 0 ∧ S l = none ∧ S1 = up S l (.lst [])) (fun Q hq => ?_) ?_)
  · (array_get_dec)
    exact ⟨by decide, fun p hp => hq _ _ _ ⟨p, rfl, rfl, hp, rfl⟩⟩
  rintro _ _ _ ⟨l, rfl, rfl, hl, rfl⟩
  (((try unfold ζp); dsimp only; refine seq_go ?_))
  have e0 : eraseZ ([] : List Jn) n = [] := by unfold eraseZ; split <;> rfl
  refine forS (w := .tup (js.map Jn.w)) (xs := js.map Jn.w) (fun Q' h => ?_) rfl (fun i ω' S' => ∃ y4, ω' = ⟨[some (.tup (js.map Jn.w ++ [last])), some (.int n), some (.ref l), some (.int (i : Nat)), y4, none, none, none, none, none], XF⟩ ∧ S' = up S l (.lst ((eraseZ (js.take i) n).map Jn.w))) ⟨_, rfl, by rw [List.take_zero, e0]; rfl⟩ (fun _ _ _ _ => rfl) ?_ ?_
  · (array_get_dec)
    rw [cut_lastX]
    exact h
  · rintro i w ω' S' hw ⟨y4, rfl, rfl⟩
    have lt : i < js.length := by have := (List.getElem?_eq_some_iff.mp hw).1; rw [List.length_map] at this; exact this
    refine ⟨_, rfl, ?_⟩
    rw [List.getElem?_map, List.getElem?_eq_getElem lt] at hw
    cases hw
    obtain ⟨j, hj⟩ : ∃ j, j = js[i] := ⟨_, rfl⟩
    rw [← hj]
    have tk : js.take (i + 1) = js.take i ++ [j] := by rw [List.take_succ, List.getElem?_eq_getElem lt, ← hj]; rfl
    have tl : (js.take i).length = i := by rw [List.length_take]; omega
    have sn := eraseZ_snoc (js.take i) j n
    rw [tl] at sn
    have kl : ((eraseZ (js.take i) n).map Jn.w).length ≤ 7 := by
      rw [List.length_map]
      have := (eraseZ_sub (js.take i) n).2
      omega
    refine seq_go (augI_go (i : Nat) 1 rfl (fun Q hq => by (array_get_dec); exact hq) ?_)
    (((try unfold ζp); dsimp only))
    by_cases c : (i : Int) + 1 = n
    · rw [if_pos c] at sn
      refine if_b false (fun Q hq => ?_) (fun e => (nomatch e)) (fun _ => ?_)
      · (array_get_dec)
        refine ⟨rfl, rfl, ?_⟩
        simp only [view_c_int, weq_int]
        rw [decide_eq_true c]
        exact hq
      (((try unfold ζp); dsimp only))
      exact ⟨_, rfl, by rw [tk, sn]⟩
    · rw [if_neg c] at sn
      refine if_b true (fun Q hq => ?_) (fun _ => ?_) (fun e => (nomatch e))
      · (array_get_dec)
        refine ⟨rfl, rfl, ?_⟩
        simp only [view_c_int, weq_int]
        rw [decide_eq_false c]
        exact hq
      refine app_go j.w rfl up_same (fun Q hq => by (array_get_dec); exact hq) (by omega) ?_
      rw [up_up]
      exact ⟨_, rfl, by rw [tk, sn, List.map_append]; rfl⟩
  · rintro ω' S' ⟨y4, rfl, rfl⟩
    rw [List.length_map, List.take_length]
    (((try unfold ζp); dsimp only; refine seq_go ?_))
    refine set_go last (up S l (.lst ((eraseZ js n).map Jn.w))) (fun Q h => ?_) ?_
    · (array_get_dec)
      rw [lastX]
      exact h
    (((try unfold ζp); dsimp only; refine seq_go ?_))
    have kl : ((eraseZ js n).map Jn.w).length ≤ 7 := by
      rw [List.length_map]
      have := (eraseZ_sub js n).2
      omega
    have ev : ∀ xs, view (up S l (.lst xs)) (.ref l) = .lst xs := fun xs => by unfold view; simp only [up_same]
    rcases hlast with ⟨f, p, rfl, ej, el, _⟩ | ⟨a, b, d0, rfl, ej, ha, hb, el, _⟩
    · refine if_b true (fun Q hq => ?_) (fun _ => ?_) (fun e => (nomatch e))
      · simp only [nozW]
        (array_get_dec)
        exact ⟨rfl, rfl, hq⟩
      refine ret_go ?_
      (array_get_dec)
      rw [ev]
      try (array_get_dec)
      refine ⟨by decide, by simp only [List.length_map] at kl ⊢; omega, by decide, ?_⟩
      refine ⟨_, _, Frz.drop (p := l) (o := .lst ((eraseZ js n).map Jn.w)) up_same (fun _ e => (nomatch e)), ?_⟩
      rw [del_new hl]
      rw [el, ej, List.length_append, List.length_map] at q
      exact q
    · refine if_b false (fun Q hq => ?_) (fun e => (nomatch e)) (fun _ => ?_)
      · simp only [forkW]
        (array_get_dec)
        exact ⟨rfl, rfl, hq⟩
      (((try unfold ζp); dsimp only; refine seq_go ?_))
      obtain ⟨e, rfl⟩ : ∃ e, d = e + 1 := ⟨d - 1, by omega⟩
      rw [Nat.add_sub_cancel] at ha hb
      have c1 : cut [W.str "fork", .tup a.ws, .tup b.ws] (some 1) none = [.tup a.ws, .tup b.ws] := cut_drop (i := 1) (by show 1 ≤ 3; decide)
      obtain ⟨ke, hke⟩ : ∃ ke, ke = (eraseZ js n).map Jn.w := ⟨_, rfl⟩
      rw [← hke] at kl ⊢
      refine seq_go (setN_go (fun w S1 => ∃ m, w = .ref m ∧ S m = none ∧ m ≠ l ∧ S1 = up (up S l (.lst ke)) m (.lst [])) (fun Q hq => ?_) ?_)
      · (array_get_dec)
        refine ⟨by decide, fun p hp => ?_⟩
        have hne : p ≠ l := fun e => by subst e; rw [up_same] at hp; cases hp
        have hp2 := hp
        rw [up_ne hne] at hp2
        exact hq _ _ ⟨p, rfl, hp2, hne, rfl⟩
      rintro _ _ ⟨m, rfl, hm, hml, rfl⟩
      (((try unfold ζp); dsimp only; refine seq_go ?_))
      refine forS (w := .tup [.tup a.ws, .tup b.ws]) (xs := [.tup a.ws, .tup b.ws]) (fun Q' h => ?_) rfl (fun i ω' S' => ∃ y7 y8 y9, ω' = ⟨[some (.tup (js.map Jn.w ++ [forkW a.ws b.ws])), some (.int n), some (.ref l), some (.int ((js.length + (if i = 0 then 0 else if i = 1 then a.joins.length else a.joins.length + b.joins.length) : Nat) : Int)), y4, some (forkW a.ws b.ws), some (.ref m), y7, y8, y9], XF⟩ ∧ S' = up (up S l (.lst ke)) m (.lst (if i = 0 then [] else if i = 1 then [.tup (a.less (n - js.length)).ws] else [.tup (a.less (n - js.length)).ws, .tup (b.less (n - js.length - a.joins.length)).ws]))) ⟨none, none, none, by rw [if_pos rfl, Nat.add_zero]; rfl, by rw [if_pos rfl]⟩ (fun _ _ _ _ => rfl) ?_ ?_
      · (array_get_dec)
        simp only [forkW]
        (array_get_dec)
        rw [c1]
        exact h
      · rintro i w ω' S' hw ⟨y7, y8, y9, rfl, rfl⟩
        refine ⟨_, rfl, ?_⟩
        match i, hw with
        | 0, hw =>
          cases hw
          (try simp only [↓reduceIte, Nat.add_zero])
          refine seq_go (asgN_go (fun w S1 => w = .tup [.tup (a.less (n - js.length)).ws, .int (a.joins.length : Nat)] ∧ S1 = up (up S l (.lst ke)) m (.lst [])) (fun Q h => ?_) ?_)
          · (array_get_dec)
            exact ⟨a, _, rfl, ha, by omega, h _ _ ⟨rfl, rfl⟩⟩
          rintro _ _ ⟨rfl, rfl⟩
          refine ⟨_, rfl, ?_⟩
          (((try unfold ζp); dsimp only; refine seq_go ?_))
          refine app_go (.tup (a.less (n - js.length)).ws) rfl up_same (fun Q hq => by (array_get_dec); exact hq) (by simp) ?_
          rw [up_up]
          (((try unfold ζp); dsimp only))
          refine augI_go (js.length : Nat) (a.joins.length : Nat) rfl (fun Q hq => by (array_get_dec); exact hq) ?_
          exact ⟨_, _, _, rfl, rfl⟩
        | 1, hw =>
          cases hw
          (try simp only [Nat.one_ne_zero, ↓reduceIte])
          refine seq_go (asgN_go (fun w S1 => w = .tup [.tup (b.less (n - js.length - a.joins.length)).ws, .int (b.joins.length : Nat)] ∧ S1 = up (up S l (.lst ke)) m (.lst [.tup (a.less (n - js.length)).ws])) (fun Q h => ?_) ?_)
          · (array_get_dec)
            refine ⟨b, _, rfl, hb, by omega, ?_⟩
            have e9 : n - ((js.length + a.joins.length : Nat) : Int) = n - js.length - a.joins.length := by omega
            rw [e9]
            exact h _ _ ⟨rfl, rfl⟩
          rintro _ _ ⟨rfl, rfl⟩
          refine ⟨_, rfl, ?_⟩
          (((try unfold ζp); dsimp only; refine seq_go ?_))
          refine app_go (.tup (b.less (n - js.length - a.joins.length)).ws) rfl up_same (fun Q hq => by (array_get_dec); exact hq) (by simp) ?_
          rw [up_up]
          (((try unfold ζp); dsimp only))
          refine augI_go ((js.length + a.joins.length : Nat) : Int) (b.joins.length : Nat) rfl (fun Q hq => by (array_get_dec); exact hq) ?_
          refine ⟨some (.tup b.ws), some (.tup (b.less (n - js.length - a.joins.length)).ws), some (.int (b.joins.length : Nat)), ?_, rfl⟩
          rw [if_neg (by decide), if_neg (by decide)]
          have e9 : ((js.length + a.joins.length : Nat) : Int) + (b.joins.length : Nat) = ((js.length + (a.joins.length + b.joins.length) : Nat) : Int) := by omega
          rw [e9]
          rfl
      · rintro ω' S' ⟨y7, y8, y9, rfl, rfl⟩
        (((try unfold ζp); dsimp only))
        refine ret_go ?_
        obtain ⟨S2, hS2⟩ : ∃ S2, S2 = up (up S l (.lst ke)) m (.lst [.tup (a.less (n - js.length)).ws, .tup (b.less (n - js.length - a.joins.length)).ws]) := ⟨_, rfl⟩
        show ζP _ _ (up (up S l (.lst ke)) m (.lst [.tup (a.less (n - js.length)).ws, .tup (b.less (n - js.length - a.joins.length)).ws])) _
        rw [← hS2]
        have v1 : view S2 (.ref l) = .lst ke := by
          exact view_ref (by rw [hS2, up_ne hml.symm, up_same])
        have v2 : view S2 (.ref m) = .lst [.tup (a.less (n - js.length)).ws, .tup (b.less (n - js.length - a.joins.length)).ws] := by
          exact view_ref (by rw [hS2, up_same])
        (array_get_dec)
        rw [v1]
        try (array_get_dec)
        rw [v2]
        try (array_get_dec)
        refine ⟨by decide, by decide, (by (try simp only [List.length_cons, List.length_nil]); omega), by decide, ?_⟩
        rw [hS2]
        refine ⟨_, _, .trans (Frz.drop (p := m) (o := .lst [.tup (a.less (n - js.length)).ws, .tup (b.less (n - js.length - a.joins.length)).ws]) up_same (fun _ e => (nomatch e))) (Frz.drop (p := l) (o := .lst ke) ?_ (fun _ e => (nomatch e))), ?_⟩
        · rw [del_ne hml.symm, up_ne hml.symm, up_same]
        · rw [del_new (by rw [up_ne hml]; exact hm), del_new hl]
          rw [el, ej, List.length_append, List.length_map, List.length_append] at q
          rw [hke]
          exact q
section
variable {P : Program} {w : World} {K : PySem.W.Frag} {mg : Str → Option Value} {base : Heap} {c_Line c_BadTime c_NoGround c_NoPlace c_NoProof c_NoKind c_BadText c_NoDeed c_NoRow c_TooMany c_NotDone c_NoBook c_NoCall c_NoEngine c_NoEngines c_NoLine c_NoJoin c_NoFlow c_Late c_Inside c_Dead c_NoTeam c_NoWearer c_NoBoard c_NoText c_Nothing c_NoSaying : Addr}
theorem okS_law_less_0 {f : Addr} {fd : FuncData} (F : Fun K "_law_less" "_law_less" s_law_less f fd) (T : Txt K w mg c_Line c_BadTime c_NoGround c_NoPlace c_NoProof c_NoKind c_BadText c_NoDeed c_NoRow c_TooMany c_NotDone c_NoBook c_NoCall c_NoEngine c_NoEngines c_NoLine c_NoJoin c_NoFlow c_Late c_Inside c_Dead c_NoTeam c_NoWearer c_NoBoard c_NoText c_Nothing c_NoSaying) (C_law_less : CalD P w K mg base 0 "_law_less" (sp_law_less 0)) : FnOk P w K mg base CX0 1 f fd ["_law_tail", "_law_number"] (uSp K (sp_law_less 1)) :=
  Fun.okF F sc_law_less (td_law_less 0) (fun cdv A outer s H E hr =>
    (dss_cons (ds_par2 sc_law_less.nd (da_cons (de_lstM da_nil) (da_cons de_int da_nil)) (i := 2) (j := 3))
    (dss_cons (ds_for PassesOwn.never (di_seq (de_sl (dv 0) do_none (do_some (de_neg de_int)))) (dg_nm (i := 4) sc_law_less.nd)
      (dss_cons (ds_augI (i := 3) sc_law_less.nd de_int)
      (dss_one (ds_if (dt_cmp (oc_ne hr) (dv 3) (dv 1)) (dss_one (ds_expr (de_append (dv 2) (da_cons (dv 4) da_nil)))) dss_nil))))
    (dss_cons (ds_set (i := 5) sc_law_less.nd (de_ix (dv 0) (de_neg de_int)))
    (dss_cons (ds_if (dt_cmp (oc_eq hr) (de_ix (dv 5) de_int) de_str) (dss_one (ds_ret (de_tup (da_cons (de_op oa_add (de_callTy cd_tuple T.z_tuple (da_cons (dv 2) da_nil)) (de_tup (da_cons (dv 5) da_nil))) (da_cons (de_op oa_add (dv 3) de_int) da_nil))))) dss_nil)
    (dss_cons (ds_set (i := 6) sc_law_less.nd (de_lstM da_nil))
    (dss_cons (ds_for PassesOwn.never (di_seq (de_sl (dv 5) (do_some de_int) do_none)) (dg_nm (i := 7) sc_law_less.nd)
      (dss_cons (ds_asgT (de_call C_law_less hr (da_cons (dv 7) (da_cons (de_op oa_sub (dv 1) (dv 3)) da_nil))) (dg_tp (dgs_cons (dg_nm (i := 8) sc_law_less.nd) (dgs_cons (dg_nm (i := 9) sc_law_less.nd) dgs_nil))))
      (dss_cons (ds_expr (de_append (dv 6) (da_cons (dv 8) da_nil)))
      (dss_one (ds_augI (i := 3) sc_law_less.nd (dv 9))))))
    (dss_one (ds_ret (de_tup (da_cons (de_op oa_add (de_callTy cd_tuple T.z_tuple (da_cons (dv 2) da_nil)) (de_tup (da_cons (de_tup (da_cons de_str (da_cons (de_ix (dv 6) de_int) (da_cons (de_ix (dv 6) de_int) da_nil)))) da_nil))) (da_cons (dv 3) da_nil)))))))))))) (fun ws S Q E h => len_law_less h) (hd_law_less 0)
theorem okS_law_less_1 {f : Addr} {fd : FuncData} (F : Fun K "_law_less" "_law_less" s_law_less f fd) (T : Txt K w mg c_Line c_BadTime c_NoGround c_NoPlace c_NoProof c_NoKind c_BadText c_NoDeed c_NoRow c_TooMany c_NotDone c_NoBook c_NoCall c_NoEngine c_NoEngines c_NoLine c_NoJoin c_NoFlow c_Late c_Inside c_Dead c_NoTeam c_NoWearer c_NoBoard c_NoText c_Nothing c_NoSaying) (C_law_less : CalD P w K mg base 1 "_law_less" (sp_law_less 1)) : FnOk P w K mg base CX0 2 f fd ["_law_tail", "_law_number"] (uSp K (sp_law_less 2)) :=
  Fun.okF F sc_law_less (td_law_less 1) (fun cdv A outer s H E hr =>
    (dss_cons (ds_par2 sc_law_less.nd (da_cons (de_lstM da_nil) (da_cons de_int da_nil)) (i := 2) (j := 3))
    (dss_cons (ds_for PassesOwn.never (di_seq (de_sl (dv 0) do_none (do_some (de_neg de_int)))) (dg_nm (i := 4) sc_law_less.nd)
      (dss_cons (ds_augI (i := 3) sc_law_less.nd de_int)
      (dss_one (ds_if (dt_cmp (oc_ne hr) (dv 3) (dv 1)) (dss_one (ds_expr (de_append (dv 2) (da_cons (dv 4) da_nil)))) dss_nil))))
    (dss_cons (ds_set (i := 5) sc_law_less.nd (de_ix (dv 0) (de_neg de_int)))
    (dss_cons (ds_if (dt_cmp (oc_eq hr) (de_ix (dv 5) de_int) de_str) (dss_one (ds_ret (de_tup (da_cons (de_op oa_add (de_callTy cd_tuple T.z_tuple (da_cons (dv 2) da_nil)) (de_tup (da_cons (dv 5) da_nil))) (da_cons (de_op oa_add (dv 3) de_int) da_nil))))) dss_nil)
    (dss_cons (ds_set (i := 6) sc_law_less.nd (de_lstM da_nil))
    (dss_cons (ds_for PassesOwn.never (di_seq (de_sl (dv 5) (do_some de_int) do_none)) (dg_nm (i := 7) sc_law_less.nd)
      (dss_cons (ds_asgT (de_call C_law_less hr (da_cons (dv 7) (da_cons (de_op oa_sub (dv 1) (dv 3)) da_nil))) (dg_tp (dgs_cons (dg_nm (i := 8) sc_law_less.nd) (dgs_cons (dg_nm (i := 9) sc_law_less.nd) dgs_nil))))
      (dss_cons (ds_expr (de_append (dv 6) (da_cons (dv 8) da_nil)))
      (dss_one (ds_augI (i := 3) sc_law_less.nd (dv 9))))))
    (dss_one (ds_ret (de_tup (da_cons (de_op oa_add (de_callTy cd_tuple T.z_tuple (da_cons (dv 2) da_nil)) (de_tup (da_cons (de_tup (da_cons de_str (da_cons (de_ix (dv 6) de_int) (da_cons (de_ix (dv 6) de_int) da_nil)))) da_nil))) (da_cons (dv 3) da_nil)))))))))))) (fun ws S Q E h => len_law_less h) (hd_law_less 1)
theorem okS_law_less_2 {f : Addr} {fd : FuncData} (F : Fun K "_law_less" "_law_less" s_law_less f fd) (T : Txt K w mg c_Line c_BadTime c_NoGround c_NoPlace c_NoProof c_NoKind c_BadText c_NoDeed c_NoRow c_TooMany c_NotDone c_NoBook c_NoCall c_NoEngine c_NoEngines c_NoLine c_NoJoin c_NoFlow c_Late c_Inside c_Dead c_NoTeam c_NoWearer c_NoBoard c_NoText c_Nothing c_NoSaying) (C_law_less : CalD P w K mg base 2 "_law_less" (sp_law_less 2)) : FnOk P w K mg base CX0 3 f fd ["_law_tail", "_law_number"] (uSp K (sp_law_less 3)) :=
  Fun.okF F sc_law_less (td_law_less 2) (fun cdv A outer s H E hr =>
    (dss_cons (ds_par2 sc_law_less.nd (da_cons (de_lstM da_nil) (da_cons de_int da_nil)) (i := 2) (j := 3))
    (dss_cons (ds_for PassesOwn.never (di_seq (de_sl (dv 0) do_none (do_some (de_neg de_int)))) (dg_nm (i := 4) sc_law_less.nd)
      (dss_cons (ds_augI (i := 3) sc_law_less.nd de_int)
      (dss_one (ds_if (dt_cmp (oc_ne hr) (dv 3) (dv 1)) (dss_one (ds_expr (de_append (dv 2) (da_cons (dv 4) da_nil)))) dss_nil))))
    (dss_cons (ds_set (i := 5) sc_law_less.nd (de_ix (dv 0) (de_neg de_int)))
    (dss_cons (ds_if (dt_cmp (oc_eq hr) (de_ix (dv 5) de_int) de_str) (dss_one (ds_ret (de_tup (da_cons (de_op oa_add (de_callTy cd_tuple T.z_tuple (da_cons (dv 2) da_nil)) (de_tup (da_cons (dv 5) da_nil))) (da_cons (de_op oa_add (dv 3) de_int) da_nil))))) dss_nil)
    (dss_cons (ds_set (i := 6) sc_law_less.nd (de_lstM da_nil))
    (dss_cons (ds_for PassesOwn.never (di_seq (de_sl (dv 5) (do_some de_int) do_none)) (dg_nm (i := 7) sc_law_less.nd)
      (dss_cons (ds_asgT (de_call C_law_less hr (da_cons (dv 7) (da_cons (de_op oa_sub (dv 1) (dv 3)) da_nil))) (dg_tp (dgs_cons (dg_nm (i := 8) sc_law_less.nd) (dgs_cons (dg_nm (i := 9) sc_law_less.nd) dgs_nil))))
      (dss_cons (ds_expr (de_append (dv 6) (da_cons (dv 8) da_nil)))
      (dss_one (ds_augI (i := 3) sc_law_less.nd (dv 9))))))
    (dss_one (ds_ret (de_tup (da_cons (de_op oa_add (de_callTy cd_tuple T.z_tuple (da_cons (dv 2) da_nil)) (de_tup (da_cons (de_tup (da_cons de_str (da_cons (de_ix (dv 6) de_int) (da_cons (de_ix (dv 6) de_int) da_nil)))) da_nil))) (da_cons (dv 3) da_nil)))))))))))) (fun ws S Q E h => len_law_less h) (hd_law_less 2)
theorem okS_law_less_3 {f : Addr} {fd : FuncData} (F : Fun K "_law_less" "_law_less" s_law_less f fd) (T : Txt K w mg c_Line c_BadTime c_NoGround c_NoPlace c_NoProof c_NoKind c_BadText c_NoDeed c_NoRow c_TooMany c_NotDone c_NoBook c_NoCall c_NoEngine c_NoEngines c_NoLine c_NoJoin c_NoFlow c_Late c_Inside c_Dead c_NoTeam c_NoWearer c_NoBoard c_NoText c_Nothing c_NoSaying) (C_law_less : CalD P w K mg base 3 "_law_less" (sp_law_less 3)) : FnOk P w K mg base CX0 4 f fd ["_law_tail", "_law_number"] (uSp K (sp_law_less 4)) :=
  Fun.okF F sc_law_less (td_law_less 3) (fun cdv A outer s H E hr =>
    (dss_cons (ds_par2 sc_law_less.nd (da_cons (de_lstM da_nil) (da_cons de_int da_nil)) (i := 2) (j := 3))
    (dss_cons (ds_for PassesOwn.never (di_seq (de_sl (dv 0) do_none (do_some (de_neg de_int)))) (dg_nm (i := 4) sc_law_less.nd)
      (dss_cons (ds_augI (i := 3) sc_law_less.nd de_int)
      (dss_one (ds_if (dt_cmp (oc_ne hr) (dv 3) (dv 1)) (dss_one (ds_expr (de_append (dv 2) (da_cons (dv 4) da_nil)))) dss_nil))))
    (dss_cons (ds_set (i := 5) sc_law_less.nd (de_ix (dv 0) (de_neg de_int)))
    (dss_cons (ds_if (dt_cmp (oc_eq hr) (de_ix (dv 5) de_int) de_str) (dss_one (ds_ret (de_tup (da_cons (de_op oa_add (de_callTy cd_tuple T.z_tuple (da_cons (dv 2) da_nil)) (de_tup (da_cons (dv 5) da_nil))) (da_cons (de_op oa_add (dv 3) de_int) da_nil))))) dss_nil)
    (dss_cons (ds_set (i := 6) sc_law_less.nd (de_lstM da_nil))
    (dss_cons (ds_for PassesOwn.never (di_seq (de_sl (dv 5) (do_some de_int) do_none)) (dg_nm (i := 7) sc_law_less.nd)
      (dss_cons (ds_asgT (de_call C_law_less hr (da_cons (dv 7) (da_cons (de_op oa_sub (dv 1) (dv 3)) da_nil))) (dg_tp (dgs_cons (dg_nm (i := 8) sc_law_less.nd) (dgs_cons (dg_nm (i := 9) sc_law_less.nd) dgs_nil))))
      (dss_cons (ds_expr (de_append (dv 6) (da_cons (dv 8) da_nil)))
      (dss_one (ds_augI (i := 3) sc_law_less.nd (dv 9))))))
    (dss_one (ds_ret (de_tup (da_cons (de_op oa_add (de_callTy cd_tuple T.z_tuple (da_cons (dv 2) da_nil)) (de_tup (da_cons (de_tup (da_cons de_str (da_cons (de_ix (dv 6) de_int) (da_cons (de_ix (dv 6) de_int) da_nil)))) da_nil))) (da_cons (dv 3) da_nil)))))))))))) (fun ws S Q E h => len_law_less h) (hd_law_less 3)
end
def Pt.smB : Pt → Bool
  | .noz js _ _ => decide (js.length ≤ 6)
  | .fork js a b => decide (js.length ≤ 6) && (a.smB && b.smB)
theorem Pt.smB_iff {t : Pt} : t.smB = true ↔ t.small := by
  induction t with
  | noz js f p => exact decide_eq_true_iff
  | fork js a b iha ihb =>
    show (decide (js.length ≤ 6) && (a.smB && b.smB)) = true ↔ js.length ≤ 6 ∧ a.small ∧ b.small
    rw [Bool.and_eq_true, Bool.and_eq_true, decide_eq_true_iff, iha, ihb]
theorem if_b2 {c : DT'} {t u : DS'} {D : Out} {ω : Om} {S : Sto} (b : Bool) (h : ∀ Q : Bool → Sto → Prop, Q b S → c ω S Q) (ht : b = true → t D ω S) (hf : b = false → u D ω S) : ζW c t u D ω S := if_b b h ht hf
theorem Pt.sm_split {d : Nat} {t : Pt} (h : t.ok d) : ∃ (js : List Jn) (last : W), t.ws = js.map Jn.w ++ [last] ∧ js.length ≤ 7 ∧ ((∃ f p, last = nozW f p ∧ t.smB = decide (js.length ≤ 6)) ∨ ∃ a b : Pt, 0 < d ∧ last = forkW a.ws b.ws ∧ a.ok (d - 1) ∧ b.ok (d - 1) ∧ t.smB = (decide (js.length ≤ 6) && (a.smB && b.smB))) := by
  cases t with
  | noz js f p => exact ⟨js, _, rfl, h.1, .inl ⟨f, p, rfl, rfl⟩⟩
  | fork js a b => exact ⟨js, _, rfl, h.2.1, .inr ⟨a, b, h.1, rfl, h.2.2.2.1, h.2.2.2.2, rfl⟩⟩
def sp_law_small : Nat → DSp
  | 0 => fun _ _ _ _ => False
  | d + 1 => fun ws S Q _ => ∃ t : Pt, ws = [.tup t.ws] ∧ t.ok d ∧ d ≤ 3 ∧ Q (.bl t.smB) S
theorem len_law_small {d ws S Q E} (h : sp_law_small (d + 1) ws S Q E) : ws.length = 1 := by obtain ⟨_, rfl, _⟩ := h; rfl
abbrev s_law_small : Stmt := topS 62
abbrev N_law_small : List Str := ["_law_tail", "_law_some"]
theorem sc_law_small : FnScope N_law_small ["_law_tail"] (defScope s_law_small) := ⟨rfl, rfl, rfl, by decide +kernel, rfl, by decide +kernel, by decide +kernel⟩
theorem st_law_small {x0 : W} : ζg N_law_small [x0] = [some x0, none] := rfl
def td_law_small (d : Nat) : DS' :=
    (ζU (ζW (ζi (dOp dGt (dCB ζR (ζl (ζB 0) ζO)) (dC (.int 7)))) (ζV (dC (.bl false))) ζp)
    (ζV (ζN (dOp dEq (dOp dIx (dOp dIx (ζB 0) (dUn ζI (dC (.int 1)))) (dC (.int 0))) (dC (.str "nozzle"))) (dCB ζT (ζl (dLc (ζA (dSl (dOp dIx (ζB 0) (dUn ζI (dC (.int 1)))) (ζv (dC (.int 1))) dNo)) (.nm 1) dYes (ζu (sp_law_small d) (ζl (ζB 1) ζO)) [1]) ζO)))))
theorem hd_law_small (d : Nat) (ws S Q E) (h : sp_law_small (d + 1) ws S Q E) : td_law_small d { nx := fun _ S' => frzQ Q .non S', rt := frzQ Q } ⟨ζg N_law_small ws, XF⟩ S := by
  obtain ⟨t, rfl, ht, d3, q⟩ := h
  obtain ⟨js, last, e1, j7, hlast⟩ := Pt.sm_split ht
  have wl : t.ws.length = js.length + 1 := by rw [e1, List.length_append, List.length_map]; rfl
  have hat : L2.atI t.ws (-1) = some last := by rw [e1]; exact lastX _ _
  simp only [st_law_small, td_law_small]
  refine seq_go (if_b2 (!decide (js.length ≤ 6)) (fun Q hq => ?_) (fun c => ?_) (fun c => ?_))
  · (array_get_dec)
    have e : decide ((t.ws.length : Int) > 7) = !decide (js.length ≤ 6) := by
      rw [← decide_not]
      exact decide_eq_decide.mpr (by omega)
    rw [e]
    exact hq
  · have c : decide (js.length ≤ 6) = false := by simpa using c
    have e : t.smB = false := by
      rcases hlast with ⟨_, _, _, e⟩ | ⟨_, _, _, _, _, _, e⟩ <;> rw [e, c]
      rfl
    rw [e] at q
    refine ret_go ?_
    (array_get_dec)
    exact frzQ.mk q
  have c : decide (js.length ≤ 6) = true := by simpa using c
  (((try unfold ζp); dsimp only))
  refine ret_go ?_
  rcases hlast with ⟨f, p, rfl, e⟩ | ⟨a, b, d0, rfl, ha, hb, e⟩
  · rw [e, c] at q
    unfold ζN
    (array_get_dec)
    rw [hat]
    simp only [nozW]
    (array_get_dec)
    exact ⟨rfl, rfl, frzQ.mk q⟩
  · rw [e, c, Bool.true_and] at q
    obtain ⟨d', rfl⟩ : ∃ e, d = e + 1 := ⟨d - 1, by omega⟩
    rw [Nat.add_sub_cancel] at ha hb
    unfold ζN
    (array_get_dec)
    rw [hat]
    simp only [forkW]
    (array_get_dec)
    refine ⟨rfl, rfl, ?_⟩
    rw [show weq (.str (Str.ofString "fork")) (.str (Str.ofString "nozzle")) = false by rw [weq_str]; decide +kernel]
    dsimp only
    have c1 : cut [W.str "fork", .tup a.ws, .tup b.ws] (some 1) none = [.tup a.ws, .tup b.ws] := cut_drop (i := 1) (by show 1 ≤ 3; decide)
    refine lcNs (w := .tup [.tup a.ws, .tup b.ws]) (xs := [.tup a.ws, .tup b.ws]) (fun Q' h => ?_) rfl (by show 2 ≤ 1000000; decide) (fun _ _ _ => rfl) (fun i v => v = .bl (if i = 0 then a.smB else b.smB)) (fun i w hw => ?_) (fun vs hl hv => ?_)
    · (array_get_dec)
      rw [hat]
      simp only [forkW]
      (array_get_dec)
      rw [c1]
      exact h
    · match i, hw with
      | 0, hw =>
        cases hw
        refine ⟨_, rfl, fun p acc hp Qe h => ?_⟩
        (array_get_dec)
        exact ⟨a, rfl, ha, by omega, h _ rfl⟩
      | 1, hw =>
        cases hw
        refine ⟨_, rfl, fun p acc hp Qe h => ?_⟩
        (array_get_dec)
        exact ⟨b, rfl, hb, by omega, h _ rfl⟩
      | i + 2, hw => cases hw
    · match vs, hl, hv with
      | [v0, v1], _, hv =>
        obtain rfl := hv 0 v0 rfl
        obtain rfl := hv 1 v1 rfl
        show frzQ Q (.bl ([a.smB, b.smB].all id)) S
        rw [show [a.smB, b.smB].all id = (a.smB && b.smB) by simp]
        exact frzQ.mk q
section
variable {P : Program} {w : World} {K : PySem.W.Frag} {mg : Str → Option Value} {base : Heap} {c_Line c_BadTime c_NoGround c_NoPlace c_NoProof c_NoKind c_BadText c_NoDeed c_NoRow c_TooMany c_NotDone c_NoBook c_NoCall c_NoEngine c_NoEngines c_NoLine c_NoJoin c_NoFlow c_Late c_Inside c_Dead c_NoTeam c_NoWearer c_NoBoard c_NoText c_Nothing c_NoSaying : Addr}
theorem okS_law_small_0 {f : Addr} {fd : FuncData} (F : Fun K "_law_small" "_law_small" s_law_small f fd) (T : Txt K w mg c_Line c_BadTime c_NoGround c_NoPlace c_NoProof c_NoKind c_BadText c_NoDeed c_NoRow c_TooMany c_NotDone c_NoBook c_NoCall c_NoEngine c_NoEngines c_NoLine c_NoJoin c_NoFlow c_Late c_Inside c_Dead c_NoTeam c_NoWearer c_NoBoard c_NoText c_Nothing c_NoSaying) (C_law_small : CalD P w K mg base 5 "_law_small" (sp_law_small 0)) : FnOk P w K mg base CX0 6 f fd ["_law_tail"] (uSp K (sp_law_small 1)) :=
  Fun.okF F sc_law_small (td_law_small 0) (fun cdv A outer s H E hr =>
    (dss_cons (ds_if (dt_cmp oc_gt (de_callB cd_len T.z_len (da_cons (dv 0) da_nil)) de_int) (dss_one (ds_ret de_bl)) dss_nil)
    (dss_one (ds_ret (de_or (de_cmp (oc_eq hr) (de_ix (de_ix (dv 0) (de_neg de_int)) de_int) de_str) (de_one (de_callB cd_all T.z_all (da_cons (de_lc (own := [("_law_some", 1)]) sc_law_small.nd (di_seq (de_sl (de_ix (dv 0) (de_neg de_int)) (do_some de_int) do_none)) (blkOk_by (own := [("_law_some", 1)]) (N := N_law_small) (sc := defScope s_law_small) (by decide +kernel)) (fun _ _ _ _ _ => (dg_nm (i := 1) sc_law_small.nd)) (fun _ _ _ _ _ => dts_nil) (fun _ _ _ _ _ => (de_call C_law_small hr (da_cons (dv 1) da_nil)))) da_nil)))))))) (fun ws S Q E h => len_law_small h) (hd_law_small 0)
theorem okS_law_small_1 {f : Addr} {fd : FuncData} (F : Fun K "_law_small" "_law_small" s_law_small f fd) (T : Txt K w mg c_Line c_BadTime c_NoGround c_NoPlace c_NoProof c_NoKind c_BadText c_NoDeed c_NoRow c_TooMany c_NotDone c_NoBook c_NoCall c_NoEngine c_NoEngines c_NoLine c_NoJoin c_NoFlow c_Late c_Inside c_Dead c_NoTeam c_NoWearer c_NoBoard c_NoText c_Nothing c_NoSaying) (C_law_small : CalD P w K mg base 6 "_law_small" (sp_law_small 1)) : FnOk P w K mg base CX0 7 f fd ["_law_tail"] (uSp K (sp_law_small 2)) :=
  Fun.okF F sc_law_small (td_law_small 1) (fun cdv A outer s H E hr =>
    (dss_cons (ds_if (dt_cmp oc_gt (de_callB cd_len T.z_len (da_cons (dv 0) da_nil)) de_int) (dss_one (ds_ret de_bl)) dss_nil)
    (dss_one (ds_ret (de_or (de_cmp (oc_eq hr) (de_ix (de_ix (dv 0) (de_neg de_int)) de_int) de_str) (de_one (de_callB cd_all T.z_all (da_cons (de_lc (own := [("_law_some", 1)]) sc_law_small.nd (di_seq (de_sl (de_ix (dv 0) (de_neg de_int)) (do_some de_int) do_none)) (blkOk_by (own := [("_law_some", 1)]) (N := N_law_small) (sc := defScope s_law_small) (by decide +kernel)) (fun _ _ _ _ _ => (dg_nm (i := 1) sc_law_small.nd)) (fun _ _ _ _ _ => dts_nil) (fun _ _ _ _ _ => (de_call C_law_small hr (da_cons (dv 1) da_nil)))) da_nil)))))))) (fun ws S Q E h => len_law_small h) (hd_law_small 1)
theorem okS_law_small_2 {f : Addr} {fd : FuncData} (F : Fun K "_law_small" "_law_small" s_law_small f fd) (T : Txt K w mg c_Line c_BadTime c_NoGround c_NoPlace c_NoProof c_NoKind c_BadText c_NoDeed c_NoRow c_TooMany c_NotDone c_NoBook c_NoCall c_NoEngine c_NoEngines c_NoLine c_NoJoin c_NoFlow c_Late c_Inside c_Dead c_NoTeam c_NoWearer c_NoBoard c_NoText c_Nothing c_NoSaying) (C_law_small : CalD P w K mg base 7 "_law_small" (sp_law_small 2)) : FnOk P w K mg base CX0 8 f fd ["_law_tail"] (uSp K (sp_law_small 3)) :=
  Fun.okF F sc_law_small (td_law_small 2) (fun cdv A outer s H E hr =>
    (dss_cons (ds_if (dt_cmp oc_gt (de_callB cd_len T.z_len (da_cons (dv 0) da_nil)) de_int) (dss_one (ds_ret de_bl)) dss_nil)
    (dss_one (ds_ret (de_or (de_cmp (oc_eq hr) (de_ix (de_ix (dv 0) (de_neg de_int)) de_int) de_str) (de_one (de_callB cd_all T.z_all (da_cons (de_lc (own := [("_law_some", 1)]) sc_law_small.nd (di_seq (de_sl (de_ix (dv 0) (de_neg de_int)) (do_some de_int) do_none)) (blkOk_by (own := [("_law_some", 1)]) (N := N_law_small) (sc := defScope s_law_small) (by decide +kernel)) (fun _ _ _ _ _ => (dg_nm (i := 1) sc_law_small.nd)) (fun _ _ _ _ _ => dts_nil) (fun _ _ _ _ _ => (de_call C_law_small hr (da_cons (dv 1) da_nil)))) da_nil)))))))) (fun ws S Q E h => len_law_small h) (hd_law_small 2)
theorem okS_law_small_3 {f : Addr} {fd : FuncData} (F : Fun K "_law_small" "_law_small" s_law_small f fd) (T : Txt K w mg c_Line c_BadTime c_NoGround c_NoPlace c_NoProof c_NoKind c_BadText c_NoDeed c_NoRow c_TooMany c_NotDone c_NoBook c_NoCall c_NoEngine c_NoEngines c_NoLine c_NoJoin c_NoFlow c_Late c_Inside c_Dead c_NoTeam c_NoWearer c_NoBoard c_NoText c_Nothing c_NoSaying) (C_law_small : CalD P w K mg base 8 "_law_small" (sp_law_small 3)) : FnOk P w K mg base CX0 9 f fd ["_law_tail"] (uSp K (sp_law_small 4)) :=
  Fun.okF F sc_law_small (td_law_small 3) (fun cdv A outer s H E hr =>
    (dss_cons (ds_if (dt_cmp oc_gt (de_callB cd_len T.z_len (da_cons (dv 0) da_nil)) de_int) (dss_one (ds_ret de_bl)) dss_nil)
    (dss_one (ds_ret (de_or (de_cmp (oc_eq hr) (de_ix (de_ix (dv 0) (de_neg de_int)) de_int) de_str) (de_one (de_callB cd_all T.z_all (da_cons (de_lc (own := [("_law_some", 1)]) sc_law_small.nd (di_seq (de_sl (de_ix (dv 0) (de_neg de_int)) (do_some de_int) do_none)) (blkOk_by (own := [("_law_some", 1)]) (N := N_law_small) (sc := defScope s_law_small) (by decide +kernel)) (fun _ _ _ _ _ => (dg_nm (i := 1) sc_law_small.nd)) (fun _ _ _ _ _ => dts_nil) (fun _ _ _ _ _ => (de_call C_law_small hr (da_cons (dv 1) da_nil)))) da_nil)))))))) (fun ws S Q E h => len_law_small h) (hd_law_small 3)
end
theorem consC_go {w : W} {t : DA'} {ω : Om} {S : Sto} {Q : List W → Sto → Prop} (h : t ω S fun ws S2 => Q (w :: ws) S2) : ζl (dC w) t ω S Q := h
theorem consV_go {i : Nat} {w : W} {t : DA'} {ω : Om} {S : Sto} {Q : List W → Sto → Prop} (hi : ω.s[i]? = some (some w)) (h : t ω S fun ws S2 => Q (w :: ws) S2) : ζl (ζB i) t ω S Q := var_go (Q := fun w S1 => t ω S1 fun ws S2 => Q (w :: ws) S2) hi h
theorem consE_go {te : DE'} {t : DA'} {ω : Om} {S : Sto} {Q : List W → Sto → Prop} (h : te ω S fun w S1 => t ω S1 fun ws S2 => Q (w :: ws) S2) : ζl te t ω S Q := h
theorem nil_go {ω : Om} {S : Sto} {Q : List W → Sto → Prop} (h : Q [] S) : ζO ω S Q := h
theorem tup_go {t : DA'} {ω : Om} {S : Sto} {Q : WQ} (h : t ω S fun ws S1 => ws.length ≤ 1000000 ∧ Q (.tup ws) S1) : ζP t ω S Q := h
theorem opC_go {rd : D2} {x : W} {tb : DE'} {ω : Om} {S : Sto} {Q : WQ} (h : tb ω S fun y S2 => rd x y S2 Q) : dOp rd (dC x) tb ω S Q := h
theorem opV_go {rd : D2} {i : Nat} {x : W} {tb : DE'} {ω : Om} {S : Sto} {Q : WQ} (hi : ω.s[i]? = some (some x)) (h : tb ω S fun y S2 => rd x y S2 Q) : dOp rd (ζB i) tb ω S Q := var_go (Q := fun x S1 => tb ω S1 fun y S2 => rd x y S2 Q) hi h
theorem addI_go {a b : Int} {S : Sto} {Q : WQ} (h : Q (.int (a + b)) S) : ζH (.int a) (.int b) S Q := h
theorem cb_go {rd : DC'} {t : DA'} {ω : Om} {S : Sto} {Q : WQ} (h : t ω S fun ws S1 => rd ws S1 Q) : dCB rd t ω S Q := h
theorem call_go {dsp : DSp} {t : DA'} {ω : Om} {S : Sto} {Q : WQ} (h : t ω S fun ws S1 => dsp ws S1 Q X0) : ζu dsp t ω S Q := h
theorem opE_go {rd : D2} {ta tb : DE'} {ω : Om} {S : Sto} {Q : WQ} (h : ta ω S fun x S1 => tb ω S1 fun y S2 => rd x y S2 Q) : dOp rd ta tb ω S Q := h
theorem asgTN_go {T : Tg} {te : DE'} {D : Out} {ω : Om} {S : Sto} (N : W → Sto → Prop) (h : ∀ Q : WQ, (∀ w S1, N w S1 → Q w S1) → te ω S Q) (k : ∀ w S1, N w S1 → ∃ ω', ζt T w ω = some ω' ∧ D.nx ω' S1) : ζr T te D ω S := by
  refine h _ fun w S1 hN => ?_
  obtain ⟨ω', e, k⟩ := k w S1 hN
  rw [e]
  exact k
theorem stQ_go {t : DS'} {D : Out} {ω : Om} {S : Sto} (N : Om → Sto → Prop) (h : ∀ D' : Out, D'.rt = D.rt → (∀ ω S, N ω S → D'.nx ω S) → t D' ω S) (k : ∀ ω S, N ω S → D.nx ω S) : t D ω S := h D rfl k
theorem Pt.more_split {d : Nat} {t : Pt} {nw : Jn} (h : t.ok d) : ∃ (js : List Jn) (last : W), t.ws = js.map Jn.w ++ [last] ∧ js.length ≤ 7 ∧ (∀ k, k ≤ js.length → ∃ t', More nw (k + 1) t t' ∧ t'.ws = (js.take k ++ nw :: js.drop k).map Jn.w ++ [last]) ∧ ((∃ f p, last = nozW f p) ∨ ∃ a c : Pt, 0 < d ∧ last = forkW a.ws c.ws ∧ a.ok (d - 1) ∧ c.ok (d - 1) ∧
    (∀ n a', More nw n a a' → ∃ t', More nw (n + js.length) t t' ∧ t'.ws = js.map Jn.w ++ [forkW a'.ws c.ws]) ∧ ∀ n c', More nw n c c' → ∃ t', More nw (n + a.pn.cnt + js.length) t t' ∧ t'.ws = js.map Jn.w ++ [forkW a.ws c'.ws]) := by
  cases t with
  | noz js f p => exact ⟨js, _, rfl, h.1, fun k hk => ⟨_, .noz hk, rfl⟩, .inl ⟨f, p, rfl⟩⟩
  | fork js a c => exact ⟨js, _, rfl, h.2.1, fun k hk => ⟨_, .here hk, rfl⟩, .inr ⟨a, c, h.1, rfl, h.2.2.2.1, h.2.2.2.2, fun n a' m => ⟨_, .left m, rfl⟩, fun n c' m => ⟨_, .right m, rfl⟩⟩⟩
def sp_law_more : Nat → DSp
  | 0 => fun _ _ _ _ => False
  | d + 1 => fun ws S Q _ => ∃ (b : Addr) (t : Pt) (nw : Jn), ws = [.ref b, .tup t.ws, nw.w] ∧ Bg S b ∧ t.ok d ∧ d ≤ 3 ∧ ∀ (n : Nat) (t' : Pt), More nw n t t' → aft S b (Q (.tup [.tup t'.ws, .int (n : Nat)]))
theorem len_law_more {d ws S Q E} (h : sp_law_more (d + 1) ws S Q E) : ws.length = 3 := by obtain ⟨_, _, _, rfl, _⟩ := h; rfl
abbrev s_law_more : Stmt := topS 61
abbrev N_law_more : List Str := ["_law_bag_here", "_law_tail", "_law_new", "_law_last", "_law_side", "_law_some", "_law_number", "_law_at"]
theorem sc_law_more : FnScope N_law_more ["_law_bag_here", "_law_tail", "_law_new"] (defScope s_law_more) := ⟨rfl, rfl, rfl, by decide +kernel, rfl, by decide +kernel, by decide +kernel⟩
theorem st_law_more {x0 x1 x2 : W} : ζg N_law_more [x0, x1, x2] = [some x0, some x1, some x2, none, none, none, none, none] := rfl
def td_law_more (d : Nat) : DS' :=
    (ζU (ζY 3 (dOp dIx (ζB 1) (dUn ζI (dC (.int 1)))))
    (ζU (ζW (ζL (ζi (dOp dEq (dOp dIx (ζB 3) (dC (.int 0))) (dC (.str "fork")))) (ζi (dOp dEq (ζu sp_law_take (ζl (ζB 0) (ζl (dC (.int 2)) ζO))) (dC (.int 0))))) (ζU (ζY 4 (dOp ζH (dC (.int 1)) (ζu sp_law_take (ζl (ζB 0) (ζl (dC (.int 2)) ζO)))))
      (ζU (ζr (.tp ((.nm 5) :: ((.nm 6) :: []))) (ζu (sp_law_more d) (ζl (ζB 0) (ζl (dOp dIx (ζB 3) (ζB 4)) (ζl (ζB 2) ζO)))))
      (ζU (ζW (ζi (dOp dEq (ζB 4) (dC (.int 2)))) (dAugI 6 (dOp dIx (ζu (sp_law_ways 4) (ζl (dOp dIx (ζB 3) (dC (.int 1))) (ζl (dC (.int 0)) ζO))) (dC (.int 1)))) ζp)
      (ζV (ζP (ζl (dOp ζH (dSl (ζB 1) dNo (ζv (dUn ζI (dC (.int 1))))) (ζP (ζl (dOp ζH (dOp ζH (dSl (ζB 3) dNo (ζv (ζB 4))) (ζP (ζl (ζB 5) ζO))) (dSl (ζB 3) (ζv (dOp ζH (ζB 4) (dC (.int 1)))) dNo)) ζO))) (ζl (dOp ζH (dOp ζC (dCB ζR (ζl (ζB 1) ζO)) (dC (.int 1))) (ζB 6)) ζO))))))) ζp)
    (ζU (ζY 7 (ζu sp_law_take (ζl (ζB 0) (ζl (dCB ζR (ζl (ζB 1) ζO)) ζO))))
    (ζV (ζP (ζl (dOp ζH (dOp ζH (dSl (ζB 1) dNo (ζv (ζB 7))) (ζP (ζl (ζB 2) ζO))) (dSl (ζB 1) (ζv (ζB 7)) dNo)) (ζl (dOp ζH (ζB 7) (dC (.int 1))) ζO)))))))
theorem hd_law_more (d : Nat) (ws S Q E) (h : sp_law_more (d + 1) ws S Q E) : td_law_more d { nx := fun _ S' => frzQ Q .non S', rt := frzQ Q } ⟨ζg N_law_more ws, XF⟩ S := by
  obtain ⟨b, t, nw, rfl, hB, ht, d3, q⟩ := h
  obtain ⟨js, last, e1, j7, hk, hlast⟩ := Pt.more_split (nw := nw) ht
  have wl : t.ws.length = js.length + 1 := by rw [e1, List.length_append, List.length_map]; rfl
  have hat : L2.atI t.ws (-1) = some last := by rw [e1]; exact lastX _ _
  simp only [st_law_more, td_law_more]
  refine seq_go (set_go last S (fun Q hq => ?_) ?_)
  · (array_get_dec)
    rw [hat]
    exact hq
  (((try unfold ζp); dsimp only; refine seq_go ?_))
  refine stQ_go (fun ω2 S2 => ω2 = ⟨[some (.ref b), some (.tup t.ws), some nw.w, some last, none, none, none, none], XF⟩ ∧ (S2 = S ∨ ∃ g s, BagOk g s ∧ S2 = up S b (bagO g s))) (fun D hrt h => ?_) ?_
  · rcases hlast with ⟨f, p, rfl⟩ | ⟨a, c, d0, rfl, ha, hc, hl1, hr1⟩
    · refine if_b false (fun Q' hq => and_b (a := false) (b := false) (fun Q3 h3 => ?_) (fun e => nomatch e) hq) (fun e => nomatch e) (fun _ => h _ _ ⟨rfl, .inl rfl⟩)
      simp only [nozW]
      (array_get_dec)
      exact ⟨rfl, rfl, h3⟩
    obtain ⟨d', rfl⟩ : ∃ e, d = e + 1 := ⟨d - 1, by omega⟩
    rw [Nat.add_sub_cancel] at ha hc
    refine if_N (fun _ S2 => ∃ g s, BagOk g s ∧ S2 = up S b (bagO g s)) (fun Q' hq => ?_) (fun bb S2 hS2 => ?_)
    · refine and_go ?_
      simp only [forkW]
      (array_get_dec)
      refine ⟨rfl, rfl, ?_⟩
      refine Eq.mpr (if_pos (weq_refl (w := .str "fork") rfl)) ?_
      refine ⟨b, 2, rfl, hB, by decide, by decide, fun r r0 r1 g s ok => ?_⟩
      (array_get_dec)
      exact ⟨rfl, rfl, hq _ _ ⟨g, s, ok, rfl⟩⟩
    obtain ⟨g, s, ok, rfl⟩ := hS2
    cases bb with
    | false => exact h _ _ ⟨rfl, .inr ⟨g, s, ok, rfl⟩⟩
    | true =>
    rw [if_pos rfl]
    refine seq_go (setN_go (fun w S3 => ∃ k : Nat, w = .int (k : Nat) ∧ (k = 1 ∨ k = 2) ∧ ∃ g s, BagOk g s ∧ S3 = up S b (bagO g s)) (fun Q' hq => ?_) ?_)
    · refine opC_go (call_go (consV_go rfl (consC_go (nil_go ⟨b, 2, rfl, Bg.up ok, by decide, by decide, fun r r0 r1 g2 s2 ok2 => addI_go (hq _ _ ⟨(1 + r).toNat, by rw [Int.toNat_of_nonneg (by omega)], by omega, g2, s2, ok2, up_up⟩)⟩))))
    rintro _ _ ⟨k, rfl, hk2, g1, s1, ok1, rfl⟩
    (((try unfold ζp); dsimp only; refine seq_go ?_))
    refine asgTN_go (fun w S3 => ∃ (n : Nat) (u : Pt), w = .tup [.tup u.ws, .int (n : Nat)] ∧ ((k = 1 ∧ More nw n a u) ∨ (k = 2 ∧ More nw n c u)) ∧ ∃ g s, BagOk g s ∧ S3 = up S b (bagO g s)) (fun Q' hq => ?_) ?_
    · rcases hk2 with rfl | rfl
      · simp only [forkW]
        (array_get_dec)
        exact ⟨b, a, nw, rfl, Bg.up ok1, ha, by omega, fun n u hm g s ok => hq _ _ ⟨n, u, rfl, .inl ⟨rfl, hm⟩, g, s, ok, up_up⟩⟩
      · simp only [forkW]
        (array_get_dec)
        exact ⟨b, c, nw, rfl, Bg.up ok1, hc, by omega, fun n u hm g s ok => hq _ _ ⟨n, u, rfl, .inr ⟨rfl, hm⟩, g, s, ok, up_up⟩⟩
    rintro _ _ ⟨n, u, rfl, hu, g2, s2, ok2, rfl⟩
    refine ⟨_, rfl, ?_⟩
    have cl : cut t.ws none (some (-1)) = js.map Jn.w := by rw [e1]; exact cut_lastX _ _
    have f1 : cut [W.str "fork", .tup a.ws, .tup c.ws] none (some ((1 : Nat) : Int)) = [W.str "fork"] := cut_take' _ _
    have f2 : cut [W.str "fork", .tup a.ws, .tup c.ws] (some (((1 : Nat) : Int) + 1)) none = [.tup c.ws] := cut_drop1 (i := 1) (by show 2 ≤ 3; decide)
    have f3 : cut [W.str "fork", .tup a.ws, .tup c.ws] none (some ((2 : Nat) : Int)) = [W.str "fork", .tup a.ws] := cut_take' _ _
    have f4 : cut [W.str "fork", .tup a.ws, .tup c.ws] (some (((2 : Nat) : Int) + 1)) none = [] := cut_drop1 (i := 2) (by show 3 ≤ 3; decide)
    have l1 : (js.map Jn.w).length = js.length := List.length_map _
    (((try unfold ζp); dsimp only; refine seq_go ?_))
    rcases hu with ⟨rfl, hu⟩ | ⟨rfl, hu⟩
    · refine if_b false (fun Q' hq => by (array_get_dec); exact ⟨rfl, rfl, hq⟩) (fun e => nomatch e) (fun _ => ?_)
      obtain ⟨t', hm, e2⟩ := hl1 n u hu
      have ei : ((t.ws.length : Nat) : Int) - 1 + (n : Nat) = ((n + js.length : Nat) : Int) := by rw [wl]; omega
      (((try unfold ζp); dsimp only))
      refine ret_go ?_
      rw [hrt]
      simp only [forkW]
      (array_get_dec)
      rw [cl, f1, f2, ei]
      refine ⟨by decide, by decide, Nat.le_of_ble_eq_true rfl, by decide, by rw [l1]; omega, by decide, frzQ.mk ?_⟩
      have := q _ t' hm g2 s2 ok2
      rw [e2] at this
      exact this
    · refine if_b true (fun Q' hq => by (array_get_dec); exact ⟨rfl, rfl, hq⟩) (fun _ => ?_) (fun e => nomatch e)
      refine ⟨(n : Int), rfl, ?_⟩
      simp only [forkW]
      (array_get_dec)
      refine ⟨a, 0, rfl, Pt.ok_mono ha (show d' ≤ 3 by omega), by decide, ?_⟩
      refine ⟨_, rfl, ?_⟩
      obtain ⟨t', hm, e2⟩ := hr1 n u hu
      have ei : ((t.ws.length : Nat) : Int) - 1 + ((n : Nat) + ((0 + a.pn.cnt : Nat) : Int)) = ((n + a.pn.cnt + js.length : Nat) : Int) := by rw [wl]; omega
      rw [hrt, cl, f3, f4, ei]
      refine ⟨by decide, Nat.le_of_ble_eq_true rfl, Nat.le_of_ble_eq_true rfl, by decide, by rw [l1]; omega, by decide, frzQ.mk ?_⟩
      have := q _ t' hm g2 s2 ok2
      rw [e2] at this
      exact this
  rintro ω2 S2 ⟨rfl, hS2⟩
  have B2 : Bg S2 b := by
    rcases hS2 with rfl | ⟨g, s, ok, rfl⟩
    · exact hB
    · exact Bg.up ok
  have upS : ∀ g s, up S2 b (bagO g s) = up S b (bagO g s) := fun g s => by
    rcases hS2 with rfl | ⟨g, s, ok, rfl⟩
    · rfl
    · exact up_up
  (((try unfold ζp); dsimp only; refine seq_go ?_))
  refine setN_go (fun w S3 => ∃ k : Nat, w = .int (k : Nat) ∧ k ≤ js.length ∧ ∃ g s, BagOk g s ∧ S3 = up S b (bagO g s)) (fun Q hq => ?_) ?_
  · refine call_go (consV_go rfl (consE_go ?_))
    (array_get_dec)
    refine ⟨b, _, rfl, B2, by omega, by omega, fun r r0 r1 g s ok => ?_⟩
    refine hq _ _ ⟨r.toNat, by rw [Int.toNat_of_nonneg r0], by omega, g, s, ok, upS g s⟩
  rintro _ S3 ⟨k, rfl, hkl, g, s, ok, rfl⟩
  obtain ⟨t', hm, e2⟩ := hk k hkl
  have l1 : (js.map Jn.w).length = js.length := List.length_map _
  have c1 : cut t.ws none (some (k : Int)) = (js.take k).map Jn.w := by
    rw [cut_take', e1, List.take_append_of_le_length (by omega), List.map_take]
  have c2 : cut t.ws (some (k : Int)) none = (js.drop k).map Jn.w ++ [last] := by
    rw [cut_drop (by omega), e1, List.drop_append_of_le_length (by omega), List.map_drop]
  (((try unfold ζp); dsimp only))
  refine ret_go ?_
  (array_get_dec)
  rw [c1, c2]
  have lt1 : (js.take k).length ≤ 7 := by rw [List.length_take]; omega
  have lt2 : (js.drop k).length ≤ 7 := by rw [List.length_drop]; omega
  refine ⟨by decide, by rw [List.length_map]; omega, by rw [List.length_append, List.length_append, List.length_map, List.length_map, List.length_singleton, List.length_singleton]; omega, by decide, frzQ.mk ?_⟩
  have := q (k + 1) t' hm g s ok
  rw [e2, List.map_append, List.map_cons] at this
  rw [List.append_assoc]
  rw [List.append_assoc] at this
  exact this
section
variable {P : Program} {w : World} {K : PySem.W.Frag} {mg : Str → Option Value} {base : Heap} {c_Line c_BadTime c_NoGround c_NoPlace c_NoProof c_NoKind c_BadText c_NoDeed c_NoRow c_TooMany c_NotDone c_NoBook c_NoCall c_NoEngine c_NoEngines c_NoLine c_NoJoin c_NoFlow c_Late c_Inside c_Dead c_NoTeam c_NoWearer c_NoBoard c_NoText c_Nothing c_NoSaying : Addr}
theorem okS_law_more_0 {f : Addr} {fd : FuncData} (F : Fun K "_law_more" "_law_more" s_law_more f fd) (T : Txt K w mg c_Line c_BadTime c_NoGround c_NoPlace c_NoProof c_NoKind c_BadText c_NoDeed c_NoRow c_TooMany c_NotDone c_NoBook c_NoCall c_NoEngine c_NoEngines c_NoLine c_NoJoin c_NoFlow c_Late c_Inside c_Dead c_NoTeam c_NoWearer c_NoBoard c_NoText c_Nothing c_NoSaying) (C_law_take : CalD P w K mg base 1 "_law_take" sp_law_take) (C_law_more : CalD P w K mg base 8 "_law_more" (sp_law_more 0)) (C_law_ways : CalD P w K mg base 7 "_law_ways" (sp_law_ways 4)) : FnOk P w K mg base CX0 9 f fd ["_law_bag_here", "_law_tail", "_law_new"] (uSp K (sp_law_more 1)) :=
  Fun.okF F sc_law_more (td_law_more 0) (fun cdv A outer s H E hr =>
    (dss_cons (ds_set (i := 3) sc_law_more.nd (de_ix (dv 1) (de_neg de_int)))
    (dss_cons (ds_if (PW.pt (dw_and (dt_cmp (oc_eq hr) (de_ix (dv 3) de_int) de_str) (dw_and1 (dt_cmp (oc_eq hr) (de_call C_law_take hr (da_cons (dv 0) (da_cons de_int da_nil))) de_int)))) (dss_cons (ds_set (i := 4) sc_law_more.nd (de_op oa_add de_int (de_call C_law_take hr (da_cons (dv 0) (da_cons de_int da_nil)))))
      (dss_cons (ds_asgT (de_call C_law_more hr (da_cons (dv 0) (da_cons (de_ix (dv 3) (dv 4)) (da_cons (dv 2) da_nil)))) (dg_tp (dgs_cons (dg_nm (i := 5) sc_law_more.nd) (dgs_cons (dg_nm (i := 6) sc_law_more.nd) dgs_nil))))
      (dss_cons (ds_if (dt_cmp (oc_eq hr) (dv 4) de_int) (dss_one (ds_augI (i := 6) sc_law_more.nd (de_ix (de_call C_law_ways hr (da_cons (de_ix (dv 3) de_int) (da_cons de_int da_nil))) de_int))) dss_nil)
      (dss_one (ds_ret (de_tup (da_cons (de_op oa_add (de_sl (dv 1) do_none (do_some (de_neg de_int))) (de_tup (da_cons (de_op oa_add (de_op oa_add (de_sl (dv 3) do_none (do_some (dv 4))) (de_tup (da_cons (dv 5) da_nil))) (de_sl (dv 3) (do_some (de_op oa_add (dv 4) de_int)) do_none)) da_nil))) (da_cons (de_op oa_add (de_op oa_sub (de_callB cd_len T.z_len (da_cons (dv 1) da_nil)) de_int) (dv 6)) da_nil)))))))) dss_nil)
    (dss_cons (ds_set (i := 7) sc_law_more.nd (de_call C_law_take hr (da_cons (dv 0) (da_cons (de_callB cd_len T.z_len (da_cons (dv 1) da_nil)) da_nil))))
    (dss_one (ds_ret (de_tup (da_cons (de_op oa_add (de_op oa_add (de_sl (dv 1) do_none (do_some (dv 7))) (de_tup (da_cons (dv 2) da_nil))) (de_sl (dv 1) (do_some (dv 7)) do_none)) (da_cons (de_op oa_add (dv 7) de_int) da_nil))))))))) (fun ws S Q E h => len_law_more h) (hd_law_more 0)
theorem okS_law_more_1 {f : Addr} {fd : FuncData} (F : Fun K "_law_more" "_law_more" s_law_more f fd) (T : Txt K w mg c_Line c_BadTime c_NoGround c_NoPlace c_NoProof c_NoKind c_BadText c_NoDeed c_NoRow c_TooMany c_NotDone c_NoBook c_NoCall c_NoEngine c_NoEngines c_NoLine c_NoJoin c_NoFlow c_Late c_Inside c_Dead c_NoTeam c_NoWearer c_NoBoard c_NoText c_Nothing c_NoSaying) (C_law_take : CalD P w K mg base 1 "_law_take" sp_law_take) (C_law_more : CalD P w K mg base 9 "_law_more" (sp_law_more 1)) (C_law_ways : CalD P w K mg base 7 "_law_ways" (sp_law_ways 4)) : FnOk P w K mg base CX0 10 f fd ["_law_bag_here", "_law_tail", "_law_new"] (uSp K (sp_law_more 2)) :=
  Fun.okF F sc_law_more (td_law_more 1) (fun cdv A outer s H E hr =>
    (dss_cons (ds_set (i := 3) sc_law_more.nd (de_ix (dv 1) (de_neg de_int)))
    (dss_cons (ds_if (PW.pt (dw_and (dt_cmp (oc_eq hr) (de_ix (dv 3) de_int) de_str) (dw_and1 (dt_cmp (oc_eq hr) (de_call C_law_take hr (da_cons (dv 0) (da_cons de_int da_nil))) de_int)))) (dss_cons (ds_set (i := 4) sc_law_more.nd (de_op oa_add de_int (de_call C_law_take hr (da_cons (dv 0) (da_cons de_int da_nil)))))
      (dss_cons (ds_asgT (de_call C_law_more hr (da_cons (dv 0) (da_cons (de_ix (dv 3) (dv 4)) (da_cons (dv 2) da_nil)))) (dg_tp (dgs_cons (dg_nm (i := 5) sc_law_more.nd) (dgs_cons (dg_nm (i := 6) sc_law_more.nd) dgs_nil))))
      (dss_cons (ds_if (dt_cmp (oc_eq hr) (dv 4) de_int) (dss_one (ds_augI (i := 6) sc_law_more.nd (de_ix (de_call C_law_ways hr (da_cons (de_ix (dv 3) de_int) (da_cons de_int da_nil))) de_int))) dss_nil)
      (dss_one (ds_ret (de_tup (da_cons (de_op oa_add (de_sl (dv 1) do_none (do_some (de_neg de_int))) (de_tup (da_cons (de_op oa_add (de_op oa_add (de_sl (dv 3) do_none (do_some (dv 4))) (de_tup (da_cons (dv 5) da_nil))) (de_sl (dv 3) (do_some (de_op oa_add (dv 4) de_int)) do_none)) da_nil))) (da_cons (de_op oa_add (de_op oa_sub (de_callB cd_len T.z_len (da_cons (dv 1) da_nil)) de_int) (dv 6)) da_nil)))))))) dss_nil)
    (dss_cons (ds_set (i := 7) sc_law_more.nd (de_call C_law_take hr (da_cons (dv 0) (da_cons (de_callB cd_len T.z_len (da_cons (dv 1) da_nil)) da_nil))))
    (dss_one (ds_ret (de_tup (da_cons (de_op oa_add (de_op oa_add (de_sl (dv 1) do_none (do_some (dv 7))) (de_tup (da_cons (dv 2) da_nil))) (de_sl (dv 1) (do_some (dv 7)) do_none)) (da_cons (de_op oa_add (dv 7) de_int) da_nil))))))))) (fun ws S Q E h => len_law_more h) (hd_law_more 1)
theorem okS_law_more_2 {f : Addr} {fd : FuncData} (F : Fun K "_law_more" "_law_more" s_law_more f fd) (T : Txt K w mg c_Line c_BadTime c_NoGround c_NoPlace c_NoProof c_NoKind c_BadText c_NoDeed c_NoRow c_TooMany c_NotDone c_NoBook c_NoCall c_NoEngine c_NoEngines c_NoLine c_NoJoin c_NoFlow c_Late c_Inside c_Dead c_NoTeam c_NoWearer c_NoBoard c_NoText c_Nothing c_NoSaying) (C_law_take : CalD P w K mg base 1 "_law_take" sp_law_take) (C_law_more : CalD P w K mg base 10 "_law_more" (sp_law_more 2)) (C_law_ways : CalD P w K mg base 7 "_law_ways" (sp_law_ways 4)) : FnOk P w K mg base CX0 11 f fd ["_law_bag_here", "_law_tail", "_law_new"] (uSp K (sp_law_more 3)) :=
  Fun.okF F sc_law_more (td_law_more 2) (fun cdv A outer s H E hr =>
    (dss_cons (ds_set (i := 3) sc_law_more.nd (de_ix (dv 1) (de_neg de_int)))
    (dss_cons (ds_if (PW.pt (dw_and (dt_cmp (oc_eq hr) (de_ix (dv 3) de_int) de_str) (dw_and1 (dt_cmp (oc_eq hr) (de_call C_law_take hr (da_cons (dv 0) (da_cons de_int da_nil))) de_int)))) (dss_cons (ds_set (i := 4) sc_law_more.nd (de_op oa_add de_int (de_call C_law_take hr (da_cons (dv 0) (da_cons de_int da_nil)))))
      (dss_cons (ds_asgT (de_call C_law_more hr (da_cons (dv 0) (da_cons (de_ix (dv 3) (dv 4)) (da_cons (dv 2) da_nil)))) (dg_tp (dgs_cons (dg_nm (i := 5) sc_law_more.nd) (dgs_cons (dg_nm (i := 6) sc_law_more.nd) dgs_nil))))
      (dss_cons (ds_if (dt_cmp (oc_eq hr) (dv 4) de_int) (dss_one (ds_augI (i := 6) sc_law_more.nd (de_ix (de_call C_law_ways hr (da_cons (de_ix (dv 3) de_int) (da_cons de_int da_nil))) de_int))) dss_nil)
      (dss_one (ds_ret (de_tup (da_cons (de_op oa_add (de_sl (dv 1) do_none (do_some (de_neg de_int))) (de_tup (da_cons (de_op oa_add (de_op oa_add (de_sl (dv 3) do_none (do_some (dv 4))) (de_tup (da_cons (dv 5) da_nil))) (de_sl (dv 3) (do_some (de_op oa_add (dv 4) de_int)) do_none)) da_nil))) (da_cons (de_op oa_add (de_op oa_sub (de_callB cd_len T.z_len (da_cons (dv 1) da_nil)) de_int) (dv 6)) da_nil)))))))) dss_nil)
    (dss_cons (ds_set (i := 7) sc_law_more.nd (de_call C_law_take hr (da_cons (dv 0) (da_cons (de_callB cd_len T.z_len (da_cons (dv 1) da_nil)) da_nil))))
    (dss_one (ds_ret (de_tup (da_cons (de_op oa_add (de_op oa_add (de_sl (dv 1) do_none (do_some (dv 7))) (de_tup (da_cons (dv 2) da_nil))) (de_sl (dv 1) (do_some (dv 7)) do_none)) (da_cons (de_op oa_add (dv 7) de_int) da_nil))))))))) (fun ws S Q E h => len_law_more h) (hd_law_more 2)
theorem okS_law_more_3 {f : Addr} {fd : FuncData} (F : Fun K "_law_more" "_law_more" s_law_more f fd) (T : Txt K w mg c_Line c_BadTime c_NoGround c_NoPlace c_NoProof c_NoKind c_BadText c_NoDeed c_NoRow c_TooMany c_NotDone c_NoBook c_NoCall c_NoEngine c_NoEngines c_NoLine c_NoJoin c_NoFlow c_Late c_Inside c_Dead c_NoTeam c_NoWearer c_NoBoard c_NoText c_Nothing c_NoSaying) (C_law_take : CalD P w K mg base 1 "_law_take" sp_law_take) (C_law_more : CalD P w K mg base 11 "_law_more" (sp_law_more 3)) (C_law_ways : CalD P w K mg base 7 "_law_ways" (sp_law_ways 4)) : FnOk P w K mg base CX0 12 f fd ["_law_bag_here", "_law_tail", "_law_new"] (uSp K (sp_law_more 4)) :=
  Fun.okF F sc_law_more (td_law_more 3) (fun cdv A outer s H E hr =>
    (dss_cons (ds_set (i := 3) sc_law_more.nd (de_ix (dv 1) (de_neg de_int)))
    (dss_cons (ds_if (PW.pt (dw_and (dt_cmp (oc_eq hr) (de_ix (dv 3) de_int) de_str) (dw_and1 (dt_cmp (oc_eq hr) (de_call C_law_take hr (da_cons (dv 0) (da_cons de_int da_nil))) de_int)))) (dss_cons (ds_set (i := 4) sc_law_more.nd (de_op oa_add de_int (de_call C_law_take hr (da_cons (dv 0) (da_cons de_int da_nil)))))
      (dss_cons (ds_asgT (de_call C_law_more hr (da_cons (dv 0) (da_cons (de_ix (dv 3) (dv 4)) (da_cons (dv 2) da_nil)))) (dg_tp (dgs_cons (dg_nm (i := 5) sc_law_more.nd) (dgs_cons (dg_nm (i := 6) sc_law_more.nd) dgs_nil))))
      (dss_cons (ds_if (dt_cmp (oc_eq hr) (dv 4) de_int) (dss_one (ds_augI (i := 6) sc_law_more.nd (de_ix (de_call C_law_ways hr (da_cons (de_ix (dv 3) de_int) (da_cons de_int da_nil))) de_int))) dss_nil)
      (dss_one (ds_ret (de_tup (da_cons (de_op oa_add (de_sl (dv 1) do_none (do_some (de_neg de_int))) (de_tup (da_cons (de_op oa_add (de_op oa_add (de_sl (dv 3) do_none (do_some (dv 4))) (de_tup (da_cons (dv 5) da_nil))) (de_sl (dv 3) (do_some (de_op oa_add (dv 4) de_int)) do_none)) da_nil))) (da_cons (de_op oa_add (de_op oa_sub (de_callB cd_len T.z_len (da_cons (dv 1) da_nil)) de_int) (dv 6)) da_nil)))))))) dss_nil)
    (dss_cons (ds_set (i := 7) sc_law_more.nd (de_call C_law_take hr (da_cons (dv 0) (da_cons (de_callB cd_len T.z_len (da_cons (dv 1) da_nil)) da_nil))))
    (dss_one (ds_ret (de_tup (da_cons (de_op oa_add (de_op oa_add (de_sl (dv 1) do_none (do_some (dv 7))) (de_tup (da_cons (dv 2) da_nil))) (de_sl (dv 1) (do_some (dv 7)) do_none)) (da_cons (de_op oa_add (dv 7) de_int) da_nil))))))))) (fun ws S Q E h => len_law_more h) (hd_law_more 3)
end
open LamX (CodeO TabB lamEnv lamCx)
section
variable {X : Cx} {pins : List (Addr × Obj)} {σ : L2.St} {H HZ : Hp} {s s1 : Shared}
end
section
variable {X : Cx} {Z : WX} {x a p : Str} {c0 P : Addr} {k m j : Nat} {i0 : Int} {jj : Nat} {cpos : Pos} {TT : LT} {args : Arguments} {body : Expr} {scope : Scope} {pp lpos pos : Pos} {tb : DE'}
end
end DL
namespace DL
open PySem PySem.Spec PyProof.Rows L2
theorem foldr_ents {u : Pn} {L : List Nq} (h : ∀ m mar, (u.ents m mar).map (·.1) = L) : ∀ (js : List Jn) (m mar : Nat), ((js.foldr Pn.cons u).ents m mar).map (·.1) = js.map Nq.j ++ L
  | [], m, mar => h m mar
  | j :: js, m, mar => by
    show Nq.j j :: ((js.foldr Pn.cons u).ents (m + 1) (m + 1)).map (·.1) = Nq.j j :: (js.map Nq.j ++ L)
    rw [foldr_ents h js]
theorem Pt.ents_nqs {t : Pt} : ∀ m mar : Nat, (t.pn.ents m mar).map (·.1) = t.nqs := by
  induction t with
  | noz js f p => exact foldr_ents (u := .noz f p) (fun _ _ => rfl) js
  | fork js a b iha ihb =>
    refine foldr_ents (u := .fork a.pn b.pn) (fun m mar => ?_) js
    show (a.pn.ents m mar ++ b.pn.ents (m + a.pn.cnt) mar).map (·.1) = a.nqs ++ b.nqs
    rw [List.map_append, iha, ihb]
theorem Pt.nqs_len {t : Pt} : t.nqs.length = t.pn.cnt := by
  rw [← Pt.ents_nqs 0 0, List.length_map, Pn.ents_len]
theorem plR_len {t : Pt} : (plR t).length = t.pn.cnt + 1 := by
  unfold plR
  rw [List.length_map, List.length_range]
theorem plR_nq {t : Pt} {i : Nat} {q : Nq} (h : t.nqs[i]? = some q) : ∃ r : List W, (plR t)[i + 1]? = some (.tup (q.w :: r)) := by
  rw [plR_eq]
  rw [← Pt.ents_nqs 0 0, List.getElem?_map] at h
  obtain ⟨e, he, rfl⟩ := Option.map_eq_some_iff.mp h
  have e2 : ((t.pn.ents 0 0).map entKW)[i]? = some (entKW e) := by rw [List.getElem?_map, he]; rfl
  exact ⟨_, e2⟩
def jB (t : Pt) (k : Nat) : Bool := match t.nqs[k - 1]? with
  | some (.j _) => true
  | _ => false
def someF (t : Pt) : W → Bool
  | .int k => jB t k.toNat
  | _ => false
def someX (t : Pt) : List W := (irange 1 t.pn.cnt).filter (someF t)
theorem someX_at {t : Pt} {w : W} (h : w ∈ someX t) : ∃ (i : Nat) (j : Jn), w = .int ((i + 1 : Nat) : Int) ∧ t.nqs[i]? = some (.j j) := by
  obtain ⟨h1, h2⟩ := List.mem_filter.mp h
  unfold irange at h1
  obtain ⟨i, hi, rfl⟩ := List.mem_map.mp h1
  replace h2 : jB t ((1 : Int) + (i : Nat)).toNat = true := h2
  unfold jB at h2
  rw [show ((1 : Int) + (i : Nat)).toNat - 1 = i by omega] at h2
  cases e : t.nqs[i]? with
  | none => rw [e] at h2; cases h2
  | some q =>
    rw [e] at h2
    cases q with
    | n f p => cases h2
    | j j => exact ⟨i, j, by rw [show ((i + 1 : Nat) : Int) = 1 + (i : Nat) by omega], e⟩
theorem JnAt.nq {t : Pt} {i : Nat} {j : Jn} (h : t.nqs[i]? = some (.j j)) : JnAt t ((i + 1 : Nat) : Int) := by
  refine ⟨i, j, by omega, ?_⟩
  rw [Pt.nqs_w, List.getElem?_map, h]
  rfl
theorem Ins.er {j : Jn} {u : Pn} : ∀ {js : List Jn} {i : Nat}, js[i]? = some j → Ins j (i + 1) ((js.eraseIdx i).foldr Pn.cons u) (js.foldr Pn.cons u)
  | [], i, h => by cases h
  | x :: js, 0, h => by cases h; exact .here
  | x :: js, i + 1, h => .cons (Ins.er (js := js) h)
theorem eraseZ_yes {js : List Jn} {i : Nat} (h : i < js.length) : eraseZ js ((i + 1 : Nat) : Int) = js.eraseIdx i := by
  unfold eraseZ
  rw [if_pos ⟨by omega, by omega⟩, show (((i + 1 : Nat) : Int)).toNat - 1 = i by omega]
theorem Pt.ins_less {t : Pt} : ∀ {i : Nat} {j : Jn}, t.nqs[i]? = some (.j j) → Ins j (i + 1) (t.less ((i + 1 : Nat) : Int)).pn t.pn := by
  induction t with
  | noz js f p =>
    intro i j h
    replace h : (js.map Nq.j ++ [.n f p])[i]? = some (.j j) := h
    by_cases lt : i < js.length
    · rw [List.getElem?_append_left (by rw [List.length_map]; exact lt), List.getElem?_map] at h
      obtain ⟨x, hx, e⟩ := Option.map_eq_some_iff.mp h
      cases e
      show Ins j (i + 1) ((eraseZ js _).foldr Pn.cons (.noz f p)) (js.foldr Pn.cons (.noz f p))
      rw [eraseZ_yes lt]
      exact Ins.er hx
    · rw [List.getElem?_append_right (by rw [List.length_map]; omega), List.length_map] at h
      have := List.mem_of_getElem? h
      rw [List.mem_singleton] at this
      cases this
  | fork js a b iha ihb =>
    intro i j h
    replace h : (js.map Nq.j ++ (a.nqs ++ b.nqs))[i]? = some (.j j) := h
    have la : a.nqs.length = a.joins.length := by rw [Pt.nqs_len, Pt.pn_cnt]
    have lb : b.nqs.length = b.joins.length := by rw [Pt.nqs_len, Pt.pn_cnt]
    have ca := Pt.pn_cnt (t := a)
    by_cases lt : i < js.length
    · rw [List.getElem?_append_left (by rw [List.length_map]; exact lt), List.getElem?_map] at h
      obtain ⟨x, hx, e⟩ := Option.map_eq_some_iff.mp h
      cases e
      show Ins j (i + 1) ((eraseZ js _).foldr Pn.cons (.fork (a.less _).pn (b.less _).pn)) (js.foldr Pn.cons (.fork a.pn b.pn))
      rw [eraseZ_yes lt, Pt.less_no (by omega), Pt.less_no (by omega)]
      exact Ins.er hx
    rw [List.getElem?_append_right (by rw [List.length_map]; omega), List.length_map] at h
    show Ins j (i + 1) ((eraseZ js _).foldr Pn.cons (.fork (a.less _).pn (b.less _).pn)) (js.foldr Pn.cons (.fork a.pn b.pn))
    rw [eraseZ_no (by omega)]
    by_cases la2 : i - js.length < a.nqs.length
    · rw [List.getElem?_append_left la2] at h
      have := iha h
      rw [show (((i + 1 : Nat) : Int) - js.length) = ((i - js.length + 1 : Nat) : Int) by omega, Pt.less_no (t := b) (by omega)]
      have := (Ins.left (b := b.pn) this).js (js := js)
      rw [show i - js.length + 1 + js.length = i + 1 by omega] at this
      exact this
    · rw [List.getElem?_append_right (by omega)] at h
      have lt3 := (List.getElem?_eq_some_iff.mp h).1
      have := ihb h
      rw [show (((i + 1 : Nat) : Int) - js.length - a.joins.length) = ((i - js.length - a.nqs.length + 1 : Nat) : Int) by omega, Pt.less_no (t := a) (by omega)]
      have := (Ins.right (a := a.pn) this).js (js := js)
      rw [show i - js.length - a.nqs.length + 1 + a.pn.cnt + js.length = i + 1 by omega] at this
      exact this
theorem share_less {s : So} {t : Pt} {i : Nat} {l : Int} (ht : t.ok 3) (h : t.nqs[i]? = some (.j (.leak l))) : shareI (hlB s t) 101 ≤ shareI (hlB s (t.less ((i + 1 : Nat) : Int))) 101 := by
  refine shareI_mono (fun k hk => ?_) 101
  have jo : (Jn.leak l).ok := Pt.nqs_ok ht _ (List.mem_of_getElem? h)
  unfold hlB holds at hk ⊢
  cases e : ans s t (k : Nat) with
  | error _ => rw [e] at hk; cases hk
  | ok xs =>
    obtain ⟨ys, hy, _⟩ := ans_ins (s := s) (t := t.less ((i + 1 : Nat) : Int)) (Pt.pn_ok (Pt.less_ok _ _ _ ht)) jo trivial (Pt.ins_less h) (Int.natCast_nonneg k) e
    rw [hy]
theorem len_less {t : Pt} {i : Nat} {j : Jn} (h : t.nqs[i]? = some (.j j)) : t.joins.length = (t.less ((i + 1 : Nat) : Int)).joins.length + 1 := by
  have := (Pt.ins_less h).b
  rw [Pt.pn_cnt, Pt.pn_cnt] at this
  exact this.2.2
section
variable {K : PySem.W.Frag} {S : Sto} {H : Hp}
end
def ov (S1 S : Sto) : Sto := fun a => match S1 a with
  | some o => some o
  | none => S a
section
variable {K : PySem.W.Frag} {S S1 : Sto} {H H1 : Hp}
end
section
variable {P : Program} {w : World} {K : PySem.W.Frag} {mg : Str → Option Value} {base : Heap} {CX : CXT} {k : Nat} {f : Addr} {fd : FuncData} {ps : List Str} {dsp : DSp}
end
def Sub (S S' : Sto) : Prop := ∀ a o, S a = some o → S' a = some o
section
variable {X : Cx} {Z : WX}
end
section
variable {X : Cx}
end
theorem ne_of {S : Sto} {a b : Addr} {o : WO} (h : S a = none) (k : S b = some o) : a ≠ b := fun e => by rw [e, k] at h; cases h
theorem ifF_go {c : DT'} {t u : DS'} {D : Out} {ω : Om} {S : Sto} (M : Sto → Prop) (h : ∀ Q : Bool → Sto → Prop, (∀ S2, M S2 → Q false S2) → c ω S Q) (k : ∀ S2, M S2 → u D ω S2) : ζW c t u D ω S := by
  refine h _ fun S2 m => ?_
  show (if false = true then t D ω S2 else u D ω S2)
  rw [if_neg Bool.false_ne_true]
  exact k S2 m
theorem orT_go {t1 t2 : DT'} {ω : Om} {S : Sto} {Q : Bool → Sto → Prop} (N M : Sto → Prop) (h1 : ∀ Q : Bool → Sto → Prop, (∀ S1, N S1 → Q false S1) → t1 ω S Q) (h2 : ∀ S1, N S1 → ∀ Q : Bool → Sto → Prop, (∀ S2, M S2 → Q false S2) → t2 ω S1 Q) (q : ∀ S2, M S2 → Q false S2) : dOr t1 t2 ω S Q := by
  refine h1 _ fun S1 n => ?_
  show (if false = true then Q true S1 else t2 ω S1 Q)
  rw [if_neg Bool.false_ne_true]
  exact h2 S1 n _ q
theorem notTru_go {te : DE'} {ω : Om} {S : Sto} {Q : Bool → Sto → Prop} (h : ∀ Q' : WQ, (∀ S1, Q false S1 → Q' (.bl true) S1) → te ω S Q') : ζM (ζK te) ω S Q := h _ fun _ x => x
theorem resW_ok {r : Except (Nat × Nat) (List Int)} : okD (resW r) = true := by
  cases r with
  | ok xs => exact ND.ok (n := 1) (ND.lst (n := 0) fun w hw => by obtain ⟨k, _, rfl⟩ := List.mem_map.mp hw; exact ND.int _) (by decide)
  | error e => exact ND.ok (n := 1) (ND.tup (n := 0) fun w hw => by
      simp only [List.mem_cons, List.not_mem_nil, or_false] at hw
      rcases hw with rfl | rfl
      · exact ND.int _
      · exact ND.str _) (by decide)
local macro_rules | `(tactic| array_get_dec) => `(tactic| simp only [↓ζB,↓dC,↓dOp,↓dUn,↓dI,↓dI0,↓ζC,↓ζD,↓ζE,↓ζF,↓ζG,↓ζH,↓ζI,↓dEq,↓dNe,↓dLt,↓dLe,↓dGt,↓dGe,↓ζJ,↓ζh,↓ζK,↓ζi,↓ζb,↓ζL,↓dOr,↓ζM,↓ζj,↓ζN,↓ζk,↓dIf,↓ζO,↓ζl,↓ζP,↓ζQ,↓ζm,↓dCB,↓ζR,↓ζS,↓ζn,↓ζo,↓ζT,↓ζa,↓ζc,↓ζp,↓ζU,↓ζq,↓ζV,↓ζW,↓ζX,↓ζY,↓ζr,↓ζs,↓ζt,↓ζd,↓Om.set,↓ζu,↓dIx,↓dNo,↓ζv,↓dSl,↓ζZ,↓dBM,↓ξa,↓ξb,↓ζf,↓dIs,↓ξc,↓ξd,↓ζw,↓ζx,↓ζy,↓ζz,↓ξe,↓ζA,κa,κb,κc,κd,κe,κf,κg,κh,κi,↓ζg,↓wp,↓wps,↓dIn,κj,κk,κl,κm,κn,κo,κp,κq,κr,κs,κt,κu,κv,κw,κx,κy,κz,κA,κB,κC,κD,κE,κF,κG,κH,κI,κJ,κK,κL,κM,κN,κO,κP,κQ,κR,κS,κT,κU,κV,κW,κX,κY,κZ,ιa,ιb,ιc,ιd,ιe,ιf,ιg,ιh,ιi,ιj,ιk,ιl,ιm,ιn,ιo,ιp,ιq,ιr,ιs,ιt,ιu,ιv,ιw,ιx,ιy,ιz])
theorem eqNil_go {ta : DE'} {ω : Om} {S : Sto} {Q : Bool → Sto → Prop} {w : W} {xs : List W} (h : ∀ Q : WQ, Q w S → ta ω S Q) (hv : view S w = .lst xs) (hd : okD (.lst xs) = true) (q : Q xs.isEmpty S) : ζi (dOp dEq ta (ζQ ζO)) ω S Q := by
  (array_get_dec)
  refine h _ ?_
  rw [hv]
  refine ⟨by decide, hd, rfl, ?_⟩
  rw [weq_nilS]
  exact q
theorem ans_walk {s : So} {t : Pt} {sh : Int} {told : List Int} (hA : ans s t sh = .ok told) : t.pn.walk sh s.p 0 = .ok told := by
  cases s with
  | hyd p f =>
    replace hA : (if f < t.pn.tak sh then Except.error (0, 1) else t.pn.walk sh p 0) = .ok told := hA
    by_cases c : f < t.pn.tak sh
    · rw [if_pos c] at hA; cases hA
    · rw [if_neg c] at hA; exact hA
  | pond d => exact hA
theorem testE_go {te : DE'} {ω : Om} {S : Sto} {Q : Bool → Sto → Prop} (h : te ω S fun w S1 => match w with
  | .bl b => Q b S1
  | _ => False) : ζi te ω S Q := h
theorem resW_d {r : Except (Nat × Nat) (List Int)} : isD (resW r) = true := by
  have := resW_ok (r := r)
  unfold okD at this
  rw [Bool.and_eq_true] at this
  exact this.1
def Tl (S : Sto) (w : W) (r : Except (Nat × Nat) (List Int)) : Prop := (∃ told l, r = .ok told ∧ w = .ref l ∧ S l = some (.lst (told.map W.int))) ∨ ∃ n y, r = .error (n, y) ∧ w = .tup [.int (n : Nat), .str (whyS y)]
theorem Tl.v {S : Sto} {w : W} {r : Except (Nat × Nat) (List Int)} (h : Tl S w r) : view S w = resW r := by
  rcases h with ⟨told, l, rfl, rfl, hl⟩ | ⟨n, y, rfl, rfl⟩
  · rw [view_ref hl]; rfl
  · rfl
theorem press_go {C CN : Addr} {s : So} {t : Pt} {sh : Int} {S : Sto} {Q : WQ} {E : XW} {Q' : WQ} (hs : s.ok) (ht : t.ok 3) (hsh : 0 ≤ sh ∧ sh ≤ 100) (hn : ∀ w S', Q' w S' → Q w S') (he : ∀ (n y : Nat) S', Q' (.tup [.int (n : Nat), .str (whyS y)]) S' → E (.ref CN) (noFlow n y) S') (hq : ∀ w S', Tl S' w (ans s t sh) → Sub S S' → (∀ l, w = .ref l → S l = none) → Q' w S') : sp_Line_pressures C CN [lineW C s t, .int sh] S Q E :=
  ⟨s, t, sh, rfl, hs, ht, hsh, fun told e l hl => hn _ _ (hq _ _ (.inl ⟨told, l, e, rfl, up_same⟩) (fun a o h => by rw [up_ne (ne_of hl h).symm]; exact h) (fun l' e => by cases e; exact hl)), fun n y e => by unfold errE; exact he n y S (hq _ _ (.inr ⟨n, y, e, rfl⟩) (fun _ _ h => h) (fun l' e => nomatch e))⟩
theorem So.pln (s : So) : pln s.w = true := by cases s <;> rfl
theorem Jn.pln (j : Jn) : pln j.w = true := by cases j <;> rfl
theorem plns_app (xs ys : List W) : plns (xs ++ ys) = (plns xs && plns ys) := by rw [plns_all, plns_all, plns_all, List.all_append]
theorem plns_js (js : List Jn) : plns (js.map Jn.w) = true := by
  rw [plns_all, List.all_eq_true]
  intro w hw
  obtain ⟨j, _, rfl⟩ := List.mem_map.mp hw
  exact j.pln
theorem Pt.pln : ∀ t : Pt, plns t.ws = true
  | .noz js f p => by
    show plns (js.map Jn.w ++ [nozW f p]) = true
    rw [plns_app, plns_js]; rfl
  | .fork js a b => by
    show plns (js.map Jn.w ++ [forkW a.ws b.ws]) = true
    rw [plns_app, plns_js]
    show (true && (DL.pln (forkW a.ws b.ws) && true)) = true
    have e : DL.pln (forkW a.ws b.ws) = (true && (plns a.ws && (plns b.ws && true))) := rfl
    rw [e, Pt.pln a, Pt.pln b]; rfl
abbrev lnW (C : Addr) (p : So × Pt) : W := lineW C p.1 p.2
mutual
theorem nr_pln : ∀ (a : W), pln a = true → nr a = true
  | .int _, _ | .str _, _ => rfl
  | .tup xs, h | .lst xs, h => nrs_pln xs h
  | .non, h | .bl _, h | .ty _, h | .scr _, h | .dct _ _, h | .ins _ _ _, h | .ref _, h => nomatch h
theorem nrs_pln : ∀ (xs : List W), plns xs = true → nrs xs = true
  | [], _ => rfl
  | x :: xs, h => by
    rw [plns, Bool.and_eq_true] at h
    rw [nrs, nr_pln x h.1, nrs_pln xs h.2]; rfl
end
theorem ln_nr (C : Addr) (p : So × Pt) : nr (lnW C p) = true := by
  show (nr p.1.w && (nrs p.2.ws && true)) = true
  rw [nr_pln _ (So.pln p.1), nrs_pln _ (Pt.pln p.2)]; rfl
theorem line_same {C : Addr} {s : So} {t : Pt} {neg : Bool} {S : Sto} {Q : WQ} (hs : s.ok) (ht : t.ok 3) (q : Q (.bl (!neg)) S) : dEqO C (sp_Line__eq_ C) neg (lineW C s t) (lineW C s t) S Q := by
  refine ⟨is_line _ _, ln_nr C (s, t), is_line' _ _, ln_nr C (s, t), true, ⟨s, t, .inl ⟨s, t, rfl, ht, ht, hs, hs, ?_⟩⟩, ?_⟩
  · have r1 : weq s.w s.w = true := weq_refl (So.nd s).1
    have r2 : weq (.tup t.ws) (.tup t.ws) = true := weq_refl (ND.tup fun w hw => Pt.nd ht w hw : ND 8 (.tup t.ws)).1
    rw [r1, r2]; rfl
  · cases neg <;> exact q
structure Kq (b : Addr) (S S' : Sto) : Prop where
  keep : ∀ a o, a ≠ b → S a = some o → S' a = some o
  bg : Bg S' b
section
variable {b : Addr} {S S' S'' : Sto}
theorem Kq.refl (h : Bg S b) : Kq b S S := ⟨fun _ _ _ e => e, h⟩
theorem Kq.trans (h : Kq b S S') (k : Kq b S' S'') : Kq b S S'' := ⟨fun a o n e => k.keep a o n (h.keep a o n e), k.bg⟩
theorem Kq.up {g s : Int} (ok : BagOk g s) : Kq b S (up S b (bagO g s)) := ⟨fun a o n e => by rw [up_ne n]; exact e, Bg.up ok⟩
theorem Kq.sub (h : Bg S b) (g : Sub S S') : Kq b S S' := ⟨fun a o _ e => g _ _ e, by
  obtain ⟨g0, s0, eb, ok⟩ := h
  exact ⟨g0, s0, g _ _ eb, ok⟩⟩
end
theorem tab_ne {S : Sto} {b t : Addr} {x : Str} (h : Bg S b) (k : S t = some (.tab x)) : t ≠ b := fun e => by
  obtain ⟨g0, s0, eb, _⟩ := h
  rw [e, eb] at k
  cases k
theorem lcFr2 {ta : DA'} {te : DE'} {tt : DT'} {T : Tg} {own : List Nat} {ω : Om} {S : Sto} {Q : WQ} {lo : Int} {n : Nat} (h : ∀ Q' : List W → Sto → Prop, Q' [.int lo, .int (lo + (n : Nat))] S → ta ω S Q') (h1 : -1000 ≤ lo ∧ lo ≤ 1000 ∧ n ≤ 100000) (f : W → Bool) (g : W → W)
    (hb : ∀ i : Nat, i < n → ∃ ω2, ζt T (.int (lo + (i : Nat))) (wp ω own) = some ω2 ∧ ∀ p acc, S p = none → (∀ Qt : Bool → Sto → Prop, Qt (f (.int (lo + (i : Nat)))) (up S p (.lst acc)) → tt ω2 (up S p (.lst acc)) Qt) ∧ (f (.int (lo + (i : Nat))) = true → ∀ Qe : WQ, Qe (g (.int (lo + (i : Nat)))) (up S p (.lst acc)) → te ω2 (up S p (.lst acc)) Qe))
    (q : Q (.lst (((irange lo n).filter f).map g)) S) : dLc (ζy ta) T tt te own ω S Q := by
  refine h _ ?_
  refine ⟨⟨by omega, by omega, by omega, by omega⟩, ?_⟩
  rw [show (lo + ((n : Nat) : Int) - lo).toNat = n by omega]
  refine lcF f g (by rw [irange_len]; omega) (fun _ _ _ => trivial) (fun w hw => ?_) q
  unfold irange at hw
  obtain ⟨i, hi, rfl⟩ := List.mem_map.mp hw
  exact hb i (List.mem_range.mp hi)
theorem row_go {i k : Nat} {xs : List W} {n : Int} {w : W} {r : List W} {ω : Om} {S : Sto} {Q : WQ} (hi : ω.s[i]? = some (some (.lst xs))) (hk : ω.s[k]? = some (some (.int n))) (h : L2.atI xs n = some (.tup (w :: r))) (q : dIx w (.int 0) S Q) : dOp dIx (dOp dIx (dOp dIx (ζB i) (ζB k)) (dC (.int 0))) (dC (.int 0)) ω S Q := by
  refine opE_go (opE_go (opV_go hi (var_go hk ?_)))
  show (match L2.atI xs n with | some w => _ | none => False)
  rw [h]
  have h0 : L2.atI (w :: r) (0 : Int) = some w := by rw [show (0 : Int) = ((0 : Nat) : Int) from rfl, atI_n (Nat.succ_pos _)]; rfl
  show (match L2.atI (w :: r) (0 : Int) with | some w => _ | none => False)
  rw [h0]
  exact q
def nqB : Nq → Bool
  | .j _ => true
  | .n _ _ => false
def lkB : Jn → Bool
  | .leak _ => true
  | _ => false
theorem someX_okd {t : Pt} : okD (.lst (someX t)) = true := ND.ok (n := 1) (ND.lst (n := 0) fun w hw => by obtain ⟨i, j, rfl, _⟩ := someX_at hw; exact ND.int _) (by decide)
abbrev s_law_one_out : Stmt := topS 66
abbrev N_law_one_out : List Str := ["_law_bag_here", "_law_line", "_law_head", "_law_tail", "_law_part_of", "_law_plan_here", "_law_some", "_law_number", "_law_fewer", "_law_due", "_law_k"]
theorem sc_law_one_out : FnScope N_law_one_out ["_law_bag_here", "_law_line", "_law_head", "_law_tail", "_law_part_of"] (defScope s_law_one_out) := ⟨rfl, rfl, rfl, by decide +kernel, rfl, by decide +kernel, by decide +kernel⟩
theorem st_law_one_out {x0 x1 x2 x3 x4 : W} : ζg N_law_one_out [x0, x1, x2, x3, x4] = [some x0, some x1, some x2, some x3, some x4, none, none, none, none, none, none] := rfl
def td_law_one_out (c_Line c_NoFlow tt_law_one_out : Addr) : DS' :=
    (ζU (ζY 5 (ζu sp_law_plan (ζl (ζB 3) ζO)))
    (ζU (ζY 6 (dLc (ζy (ζl (dC (.int 1)) (ζl (dCB ζR (ζl (ζB 5) ζO)) ζO))) (.nm 10) (ζi (dOp dNe (dOp dIx (dOp dIx (dOp dIx (ζB 5) (ζB 10)) (dC (.int 0))) (dC (.int 0))) (dC (.str "nozzle")))) (ζB 10) [10]))
    (ζU (ζW (ζi (dOp dEq (ζB 6) (ζQ ζO))) (ζV (dC (.bl true))) ζp)
    (ζU (ζY 7 (dOp dIx (ζB 6) (ζu sp_law_take (ζl (ζB 0) (ζl (dCB ζR (ζl (ζB 6) ζO)) ζO)))))
    (ζU (ζr (.tp ((.nm 8) :: ((.nm 9) :: []))) (ζP (ζl (dMth c_Line "without" (sp_Line_without c_Line) [] (ζB 1) (ζl (ζB 7) ζO)) (ζl (ζu sp_law_plan (ζl (dOp dIx (ζu (sp_law_less 4) (ζl (ζB 3) (ζl (ζB 7) ζO))) (dC (.int 0))) ζO)) ζO))))
    (ζU (ζW (ζi (dOp dNe (dLam tt_law_one_out "_law_one_out.<locals>.<lambda>" [4, 8] (sp_law_said c_NoFlow) (dMthX c_Line "pressures" (sp_Line_pressures c_Line c_NoFlow) [] (ζB 8) (ζl (ζB 4) ζO))) (ζu sp_law_walked (ζl (ζB 2) (ζl (ζB 9) (ζl (ζB 4) ζO)))))) (ζV (dC (.bl false))) ζp)
    (ζU (ζW (ζL (ζi (dOp dEq (dOp dIx (dOp dIx (dOp dIx (ζB 5) (ζB 7)) (dC (.int 0))) (dC (.int 0))) (dC (.str "leak")))) (ζi (dOp dLt (ζu (sp_law_share c_Line) (ζl (ζB 8) ζO)) (ζu (sp_law_share c_Line) (ζl (ζB 1) ζO))))) (ζV (dC (.bl false))) ζp)
    (ζU (ζW (ζi (dOp dNe (dCB (dLenO c_Line (sp_Line__len_ c_Line)) (ζl (ζB 8) ζO)) (dOp ζC (dCB (dLenO c_Line (sp_Line__len_ c_Line)) (ζl (ζB 1) ζO)) (dC (.int 1))))) (ζV (dC (.bl false))) ζp)
    (ζV (dOp dEq (dLam tt_law_one_out "_law_one_out.<locals>.<lambda>" [1, 4] (sp_law_said c_NoFlow) (dMthX c_Line "pressures" (sp_Line_pressures c_Line c_NoFlow) [] (ζB 1) (ζl (ζB 4) ζO))) (ζu sp_law_walked (ζl (ζB 2) (ζl (ζB 5) (ζl (ζB 4) ζO))))))))))))))
def sp_law_one_out (c_Line c_NoFlow tt_law_one_out : Addr) : DSp := fun ws S Q _ => ∃ (b : Addr) (s : So) (t : Pt) (sh : Int), ws = [.ref b, lineW c_Line s t, s.w, .tup t.ws, .int sh] ∧ Bg S b ∧ s.ok ∧ t.ok 3 ∧ (0 ≤ sh ∧ sh ≤ 100) ∧ S tt_law_one_out = some (.tab "_law_one_out.<locals>.<lambda>") ∧ ∀ S', Kq b S S' → Q (.bl true) S'
theorem len_law_one_out {c_Line c_NoFlow tt_law_one_out ws S Q E} (h : sp_law_one_out c_Line c_NoFlow tt_law_one_out ws S Q E) : ws.length = 5 := by obtain ⟨_, _, _, _, rfl, _⟩ := h; rfl
theorem hd_law_one_out (c_Line c_NoFlow tt_law_one_out : Addr) (ws S Q E) (h : sp_law_one_out c_Line c_NoFlow tt_law_one_out ws S Q E) : td_law_one_out c_Line c_NoFlow tt_law_one_out { nx := fun _ S' => frzQ Q .non S', rt := frzQ Q } ⟨ζg N_law_one_out ws, XF⟩ S := by
  obtain ⟨b, s, t, sh, rfl, hB, hs, ht, hsh, htt, q⟩ := h
  have tb := tab_ne hB htt
  have cb := Pt.cnt_b ht (by decide)
  have INS : ∀ (S : Sto) (s : So) (t : Pt), insOk S c_Line "pressures" (lineW c_Line s t) := fun S s t => l_ins (by decide +kernel)
  have vR : ∀ (S : Sto) (s : So) (t : Pt), view S (resW (ans s t sh)) = resW (ans s t sh) := fun S s t => view_D resW_d
  simp only [st_law_one_out, td_law_one_out]
  refine seq_go (set_go (.lst (plR t)) S (fun Q' h => ?_) ?_)
  · (array_get_dec)
    exact ⟨t, rfl, ht, h⟩
  (((try unfold ζp); dsimp only; refine seq_go ?_))
  refine set_go (.lst (someX t)) S (fun Q' h => ?_) ?_
  · refine lcFr2 (lo := 1) (n := t.pn.cnt) (fun Q2 h2 => ?_) ⟨by decide, by decide, by omega⟩ (someF t) id (fun i hi => ?_) ?_
    · (array_get_dec)
      rw [plR_len, show ((t.pn.cnt + 1 : Nat) : Int) = 1 + (t.pn.cnt : Nat) by omega]
      exact h2
    · obtain ⟨qq, hq⟩ : ∃ qq, t.nqs[i]? = some qq := ⟨_, List.getElem?_eq_getElem (by rw [Pt.nqs_len]; exact hi)⟩
      obtain ⟨r, hr⟩ := plR_nq hq
      have hat : L2.atI (plR t) ((1 : Int) + (i : Nat)) = some (.tup (qq.w :: r)) := by
        rw [show (1 : Int) + (i : Nat) = ((i + 1 : Nat) : Int) by omega, atI_n (by rw [plR_len]; omega)]; exact hr
      have ef : someF t (.int (1 + (i : Nat))) = nqB qq := by
        show jB t ((1 : Int) + (i : Nat)).toNat = nqB qq
        unfold jB
        rw [show ((1 : Int) + (i : Nat)).toNat - 1 = i by omega, hq]
        cases qq <;> rfl
      refine ⟨_, rfl, fun p acc hp => ⟨fun Qt hh => ?_, fun _ Qe hh => by (array_get_dec); exact hh⟩⟩
      rw [ef] at hh
      refine testE_go (opE_go (row_go rfl rfl hat ?_))
      cases qq with
      | j x => cases x <;> (simp only [Nq.w, Jn.w]; (array_get_dec); exact ⟨rfl, rfl, hh⟩)
      | n f p => simp only [Nq.w, nozW]; (array_get_dec); exact ⟨rfl, rfl, hh⟩
    · rw [List.map_id]
      exact h
  (((try unfold ζp); dsimp only; refine seq_go ?_))
  refine if_b (someX t).isEmpty (fun Q' h => eqNil_go (w := .lst (someX t)) (fun Q' h => by (array_get_dec); exact h) rfl someX_okd h) (fun _ => ?_) (fun e0 => ?_)
  · refine ret_go ?_
    (array_get_dec)
    exact frzQ.mk (q S (.refl hB))
  have lx : 0 < (someX t).length := by
    cases e : someX t with
    | nil => rw [e] at e0; cases e0
    | cons x l => rw [List.length_cons]; omega
  have lx2 : (someX t).length ≤ 120 := by
    have := List.length_filter_le (someF t) (irange 1 t.pn.cnt)
    rw [irange_len] at this
    exact Nat.le_trans this cb
  (((try unfold ζp); dsimp only; refine seq_go ?_))
  refine setN_go (fun w S1 => ∃ i j, w = .int ((i + 1 : Nat) : Int) ∧ t.nqs[i]? = some (.j j) ∧ Kq b S S1) (fun Q' h => ?_) ?_
  · refine opV_go rfl (call_go (consV_go rfl (consE_go ?_)))
    (array_get_dec)
    refine ⟨b, _, rfl, hB, by omega, by omega, fun r r0 r1 g s ok => ?_⟩
    obtain ⟨w, hw, hat⟩ := atI_pick (xs := someX t) r0 r1
    obtain ⟨i, j, rfl, hj⟩ := someX_at hw
    (array_get_dec)
    rw [hat]
    exact h _ _ ⟨i, j, rfl, hj, Kq.up ok⟩
  rintro _ S1 ⟨i, j, rfl, hj, k1⟩
  have ja := JnAt.nq hj
  have htt1 := k1.keep _ _ tb htt
  have sl : ∀ l, j = .leak l → shareI (hlB s t) 101 ≤ shareI (hlB s (t.less ((i + 1 : Nat) : Int))) 101 := fun l e => share_less ht (by rw [hj, e])
  have ll := len_less hj
  obtain ⟨t2, e2⟩ : ∃ t2, t2 = t.less ((i + 1 : Nat) : Int) := ⟨_, rfl⟩
  have ht2 : t2.ok 3 := by rw [e2]; exact Pt.less_ok _ _ _ ht
  have jl := Pt.joins_len ht
  (((try unfold ζp); dsimp only; refine seq_go ?_))
  refine asgTN_go (fun w S2 => w = .tup [lineW c_Line s t2, .lst (plR t2)] ∧ S2 = S1) (fun Q' h => ?_) ?_
  · refine tup_go (consE_go (var_go rfl ?_))
    refine ⟨l_ins (by decide +kernel), consV_go rfl (nil_go ⟨s, t, _, rfl, hs, ht, ja, ?_⟩)⟩
    (array_get_dec)
    refine ⟨t, _, rfl, ht, by decide, ?_⟩
    rw [← e2]
    exact ⟨t2, rfl, ht2, by decide, h _ _ ⟨rfl, rfl⟩⟩
  rintro _ Sx ⟨rfl, rfl⟩
  refine ⟨_, rfl, ?_⟩
  (((try unfold ζp); dsimp only; refine seq_go ?_))
  refine ifF_go (fun S2 => Kq b Sx S2) (fun Q' hq => testE_go (opE_go ⟨htt1, rfl, fun E' Q2 hn he => ?_⟩)) (fun S2 k2 => ?_)
  · (array_get_dec)
    refine ⟨INS _ _ _, press_go hs ht2 hsh hn he fun w S8 tl g fr => ?_⟩
    refine call_go (consV_go rfl (consV_go rfl (consV_go rfl (nil_go ⟨s, t2, sh, rfl, hs, ht2, hsh, ?_⟩))))
    simp only [dNe]
    rw [tl.v, vR]
    refine ⟨resW_ok, resW_ok, ?_⟩
    rw [weq_refl resW_d]
    exact hq S8 (.sub k1.bg g)
  have htt2 := k2.keep _ _ tb htt1
  (((try unfold ζp); dsimp only; refine seq_go ?_))
  refine if_b (lkB j && false) (fun Q' hq => and_b (a := lkB j) (b := false) (fun Q3 h3 => ?_) (fun e Q3 h3 => ?_) hq) (fun e => by simp at e) (fun _ => ?_)
  · obtain ⟨r, hr⟩ := plR_nq hj
    have hat : L2.atI (plR t) ((i + 1 : Nat) : Int) = some (.tup (j.w :: r)) := by
      rw [atI_n (by have := (List.getElem?_eq_some_iff.mp hr).1; exact this)]; exact hr
    refine testE_go (opE_go (row_go rfl rfl hat ?_))
    cases j <;> (simp only [Jn.w]; (array_get_dec); exact ⟨rfl, rfl, h3⟩)
  · cases j with
    | leak l =>
      have := sl l rfl
      rw [← e2] at this
      refine testE_go (opE_go (call_go (consV_go rfl (nil_go ⟨s, t2, rfl, hs, ht2, call_go (consV_go rfl (nil_go ⟨s, t, rfl, hs, ht, ?_⟩))⟩))))
      (array_get_dec)
      rw [show decide (shareI (hlB s t2) 101 < shareI (hlB s t) 101) = false from decide_eq_false (by omega)]
      exact h3
    | hose n h => cases e
    | pump p f => cases e
  (((try unfold ζp); dsimp only; refine seq_go ?_))
  refine if_b false (fun Q' hq => ?_) (fun e => nomatch e) (fun _ => ?_)
  · have l2 := Pt.joins_len ht2
    refine testE_go (opE_go (cb_go (consV_go rfl (nil_go ⟨_, t2.joins.length, rfl, is_line _ _, ln_nr c_Line (s, t2), by omega, ⟨s, t2, rfl, hs, ht2, rfl⟩, ?_⟩))))
    refine opE_go (cb_go (consV_go rfl (nil_go ⟨_, t.joins.length, rfl, is_line _ _, ln_nr c_Line (s, t), by omega, ⟨s, t, rfl, hs, ht, rfl⟩, ?_⟩)))
    (array_get_dec)
    rw [weq_int, decide_eq_true (show ((t2.joins.length : Nat) : Int) = (t.joins.length : Nat) - 1 by rw [e2]; omega)]
    exact ⟨rfl, rfl, hq⟩
  (((try unfold ζp); dsimp only))
  refine ret_go (opE_go ⟨htt2, rfl, fun E' Q2 hn he => ?_⟩)
  (array_get_dec)
  refine ⟨INS _ _ _, press_go hs ht hsh hn he fun w S8 tl g fr => ?_⟩
  refine call_go (consV_go rfl (consV_go rfl (consV_go rfl (nil_go ⟨s, t, sh, rfl, hs, ht, hsh, ?_⟩))))
  simp only [dEq]
  rw [tl.v, vR]
  refine ⟨resW_ok, resW_ok, ?_⟩
  rw [weq_refl resW_d]
  exact frzQ.mk (q S8 ((k1.trans k2).trans (.sub k2.bg g)))
section
variable {P : Program} {w : World} {K : PySem.W.Frag} {mg : Str → Option Value} {base : Heap} {c_Line c_BadTime c_NoGround c_NoPlace c_NoProof c_NoKind c_BadText c_NoDeed c_NoRow c_TooMany c_NotDone c_NoBook c_NoCall c_NoEngine c_NoEngines c_NoLine c_NoJoin c_NoFlow c_Late c_Inside c_Dead c_NoTeam c_NoWearer c_NoBoard c_NoText c_Nothing c_NoSaying : Addr}
variable {cc_law_one_out tt_law_one_out : Addr}
theorem ok_law_one_out {f : Addr} {fd : FuncData} (F : Fun K "_law_one_out" "_law_one_out" s_law_one_out f fd) (T : Txt K w mg c_Line c_BadTime c_NoGround c_NoPlace c_NoProof c_NoKind c_BadText c_NoDeed c_NoRow c_TooMany c_NotDone c_NoBook c_NoCall c_NoEngine c_NoEngines c_NoLine c_NoJoin c_NoFlow c_Late c_Inside c_Dead c_NoTeam c_NoWearer c_NoBoard c_NoText c_Nothing c_NoSaying) (C_law_plan : CalD P w K mg base 8 "_law_plan" sp_law_plan) (C_law_take : CalD P w K mg base 1 "_law_take" sp_law_take) (D_Line_without : MthD P w K mg base 14 c_Line "without" (sp_Line_without c_Line) []) (C_law_less : CalD P w K mg base 4 "_law_less" (sp_law_less 4)) (L_law_said : CalL P w K mg base 2 "_law_said" "_law_deed" (sp_law_said c_NoFlow)) (DX_Line_pressures : MthX P w K mg base 12 c_Line "pressures" (sp_Line_pressures c_Line c_NoFlow) []) (C_law_walked : CalD P w K mg base 1 "_law_walked" sp_law_walked) (C_law_share : CalD P w K mg base 15 "_law_share" (sp_law_share c_Line)) (D_Line__len_ : MthD P w K mg base 6 c_Line "__len__" (sp_Line__len_ c_Line) []) (hcode_law_one_out : fd.code = .ref cc_law_one_out) (tb_law_one_out : LamX.TabB base mg cc_law_one_out tt_law_one_out) : FnOk P w K mg base CX0 16 f fd ["_law_bag_here", "_law_line", "_law_head", "_law_tail", "_law_part_of"] (uSp K (sp_law_one_out c_Line c_NoFlow tt_law_one_out)) :=
  Fun.okFc F hcode_law_one_out sc_law_one_out (td_law_one_out c_Line c_NoFlow tt_law_one_out) (fun cdv own A outer s H E hr =>
    (dss_cons (ds_set (i := 5) sc_law_one_out.nd (de_call C_law_plan hr (da_cons (dv 3) da_nil)))
    (dss_cons (ds_setLc (i := 6) (own := [("_law_k", 10)]) sc_law_one_out.nd (di_range2 T.z_range (da_cons de_int (da_cons (de_callB cd_len T.z_len (da_cons (dv 5) da_nil)) da_nil))) (blkOk_by (own := [("_law_k", 10)]) (N := N_law_one_out) (sc := defScope s_law_one_out) (by decide +kernel)) (fun _ _ _ _ _ => (dg_nm (i := 10) sc_law_one_out.nd)) (fun _ _ _ _ _ => (dts_one (dt_cmp (oc_ne hr) (de_ix (de_ix (de_ix (dv 5) (dv 10)) de_int) de_int) de_str))) (fun _ _ _ _ _ => (dv 10)) (sw_true rfl rfl rfl (by decide +kernel)))
    (dss_cons (ds_if (dt_cmp (oc_eq hr) (dv 6) (de_lst da_nil)) (dss_one (ds_ret de_bl)) dss_nil)
    (dss_cons (ds_set (i := 7) sc_law_one_out.nd (de_ix (dv 6) (de_call C_law_take hr (da_cons (dv 0) (da_cons (de_callB cd_len T.z_len (da_cons (dv 6) da_nil)) da_nil)))))
    (dss_cons (ds_asgT (de_tup (da_cons (de_mth T.cl_Line D_Line_without hr (dv 1) (da_cons (dv 7) da_nil)) (da_cons (de_call C_law_plan hr (da_cons (de_ix (de_call C_law_less hr (da_cons (dv 3) (da_cons (dv 7) da_nil))) de_int) da_nil)) da_nil))) (dg_tp (dgs_cons (dg_nm (i := 8) sc_law_one_out.nd) (dgs_cons (dg_nm (i := 9) sc_law_one_out.nd) dgs_nil))))
    (dss_cons (ds_if (dt_cmp (oc_ne hr) (de_lam (P := tt_law_one_out) (m := 13) (q := "_law_one_out.<locals>.<lambda>") (is := [4, 8]) L_law_said tb_law_one_out own hr (LamX.lamS_by (sc := defScope s_law_one_out) (by decide +kernel)) rfl (fun _ _ _ _ _ => rfl) (fun A outer s H E f c' hr => by exact (de_mthX T.cl_Line DX_Line_pressures (takes_of rfl rfl rfl rfl) hr (dv 8) (da_cons (dv 4) da_nil)))) (de_call C_law_walked hr (da_cons (dv 2) (da_cons (dv 9) (da_cons (dv 4) da_nil))))) (dss_one (ds_ret de_bl)) dss_nil)
    (dss_cons (ds_if (PW.pt (dw_and (dt_cmp (oc_eq hr) (de_ix (de_ix (de_ix (dv 5) (dv 7)) de_int) de_int) de_str) (dw_and1 (dt_cmp oc_lt (de_call C_law_share hr (da_cons (dv 8) da_nil)) (de_call C_law_share hr (da_cons (dv 1) da_nil)))))) (dss_one (ds_ret de_bl)) dss_nil)
    (dss_cons (ds_if (dt_cmp (oc_ne hr) (de_callB (cd_lenM D_Line__len_ hr) T.z_len (da_cons (dv 8) da_nil)) (de_op oa_sub (de_callB (cd_lenM D_Line__len_ hr) T.z_len (da_cons (dv 1) da_nil)) de_int)) (dss_one (ds_ret de_bl)) dss_nil)
    (dss_one (ds_ret (de_cmp (oc_eq hr) (de_lam (P := tt_law_one_out) (m := 13) (q := "_law_one_out.<locals>.<lambda>") (is := [1, 4]) L_law_said tb_law_one_out own hr (LamX.lamS_by (sc := defScope s_law_one_out) (by decide +kernel)) rfl (fun _ _ _ _ _ => rfl) (fun A outer s H E f c' hr => by exact (de_mthX T.cl_Line DX_Line_pressures (takes_of rfl rfl rfl rfl) hr (dv 1) (da_cons (dv 4) da_nil)))) (de_call C_law_walked hr (da_cons (dv 2) (da_cons (dv 5) (da_cons (dv 4) da_nil)))))))))))))))) (fun ws S Q E h => len_law_one_out h) (hd_law_one_out c_Line c_NoFlow tt_law_one_out)
end
structure Kb (bg hp : Addr) (S S' : Sto) : Prop where
  keep : ∀ a o, a ≠ bg → a ≠ hp → S a = some o → S' a = some o
section
variable {bg hp : Addr} {S S' S'' : Sto}
theorem Kb.trans (h : Kb bg hp S S') (k : Kb bg hp S' S'') : Kb bg hp S S'' := ⟨fun a o n m e => k.keep a o n m (h.keep a o n m e)⟩
theorem Kb.q (g : Kq bg S S') : Kb bg hp S S' := ⟨fun a o n _ e => g.keep a o n e⟩
end
def Hd (b hp : Addr) (S : Sto) (xs : List W) : Prop := ∀ w ∈ xs, ∃ (t : Addr) (l : List Int), w = .tup [.ref t, .lst (l.map W.int)] ∧ S t = some (.lst (l.map W.int)) ∧ t ≠ b ∧ t ≠ hp
theorem Hd.mono {b hp : Addr} {S S' : Sto} {xs : List W} (h : Hd b hp S xs) (k : Kb b hp S S') : Hd b hp S' xs := fun w hw => by
  obtain ⟨t, l, e, ht, n, m⟩ := h w hw
  exact ⟨t, l, e, k.keep _ _ n m ht, n, m⟩
def toO : Except (Nat × Nat) (List Int) → Option (List Int)
  | .ok xs => some xs
  | .error _ => none
theorem Tl.rd {S : Sto} {w : W} {r : Except (Nat × Nat) (List Int)} (h : Tl S w r) : Rd S w (toO r) := by
  rcases h with ⟨told, l, rfl, rfl, hl⟩ | ⟨n, y, rfl, rfl⟩
  · exact .inr ⟨l, rfl, hl⟩
  · exact ⟨_, rfl⟩
theorem Tl.kq {b : Addr} {S S' : Sto} {w : W} {r : Except (Nat × Nat) (List Int)} (h : Tl S w r) (hb : ∀ l, w = .ref l → l ≠ b) (k : Kq b S S') : Tl S' w r := by
  rcases h with ⟨told, l, e, rfl, hl⟩ | h
  · exact .inl ⟨told, l, e, rfl, k.keep _ _ (hb l rfl) hl⟩
  · exact .inr h
theorem nm_le {s : So} {t : Pt} (ht : t.pn.ok) {a b : Int} (h0 : 0 ≤ a) (le : a ≤ b) : NM (toO (ans s t b)) (toO (ans s t a)) := by
  cases e : ans s t b with
  | error _ => exact trivial
  | ok xs =>
    obtain ⟨ys, e2, h⟩ := ans_le ht h0 le e
    rw [e2]
    exact h
def cutO (n : Nat) : Option (List Int) → Option (List Int)
  | some xs => some (xs.eraseIdx (n - 1))
  | none => none
theorem nm_ins {s : So} {t t' : Pt} {j : Jn} {n : Nat} (ht : t.pn.ok) (jo : j.ok) (jb : j.bad) (hi : Ins j n t.pn t'.pn) {sh : Int} (h0 : 0 ≤ sh) : NM (cutO n (toO (ans s t' sh))) (toO (ans s t sh)) := by
  cases e : ans s t' sh with
  | error _ => exact trivial
  | ok xs =>
    obtain ⟨ys, e2, h⟩ := ans_ins ht jo jb hi h0 e
    rw [e2]
    exact h
theorem share_ins {s : So} {t t' : Pt} {j : Jn} {n : Nat} (ht : t.pn.ok) (jo : j.ok) (jb : j.bad) (hi : Ins j n t.pn t'.pn) : shareI (hlB s t') 101 ≤ shareI (hlB s t) 101 := by
  refine shareI_mono (fun k hk => ?_) 101
  unfold hlB holds at hk ⊢
  cases e : ans s t' (k : Nat) with
  | error _ => rw [e] at hk; cases hk
  | ok xs =>
    obtain ⟨ys, hy, _⟩ := ans_ins (s := s) ht jo jb hi (Int.natCast_nonneg k) e
    rw [hy]
theorem ans_len {s : So} {t : Pt} {sh : Int} {told : List Int} (h : ans s t sh = .ok told) : told.length = t.pn.cnt := Pn.walk_len (sh := sh) (t := t.pn) (p := s.p) (pa := 0) (xs := told) (ans_walk h)
theorem toO_len {s : So} {t : Pt} {sh : Int} (ht : t.ok 3) : ∀ xs, toO (ans s t sh) = some xs → xs.length ≤ 1000 := fun xs h => by
  have cb := Pt.cnt_b ht (by decide)
  cases e : ans s t sh with
  | error _ => rw [e] at h; cases h
  | ok ys =>
    rw [e] at h
    cases h
    have := ans_len e
    omega
theorem cutO_len {n : Nat} {o : Option (List Int)} (h : ∀ xs, o = some xs → xs.length ≤ 1000) : ∀ xs, cutO n o = some xs → xs.length ≤ 1000 := fun xs e => by
  cases o with
  | none => cases e
  | some ys =>
    cases e
    have := h ys rfl
    have := List.length_eraseIdx_le (l := ys) (i := n - 1)
    omega
def refB : W → Bool
  | .ref _ => true
  | _ => false
def Rf (S : Sto) (w : W) : Option (List Int) → Prop
  | some xs => ∃ l, w = .ref l ∧ S l = some (.lst (xs.map W.int))
  | none => ∃ ws, w = .tup ws
theorem Rf.rd {S : Sto} {w : W} {o : Option (List Int)} (h : Rf S w o) : Rd S w o := by
  cases o with
  | none => exact h
  | some xs => exact .inr h
theorem Tl.rf {S : Sto} {w : W} {r : Except (Nat × Nat) (List Int)} (h : Tl S w r) : Rf S w (toO r) := by
  rcases h with ⟨told, l, rfl, rfl, hl⟩ | ⟨n, y, rfl, rfl⟩
  · exact ⟨l, rfl, hl⟩
  · exact ⟨_, rfl⟩
theorem Rf.keep {S S' : Sto} {w : W} {o : Option (List Int)} (h : Rf S w o) (k : ∀ l o, w = .ref l → S l = some o → S' l = some o) : Rf S' w o := by
  cases o with
  | none => exact h
  | some xs =>
    obtain ⟨l, rfl, hl⟩ := h
    exact ⟨l, rfl, k _ _ rfl hl⟩
theorem Tl.keep {S S' : Sto} {w : W} {r : Except (Nat × Nat) (List Int)} (h : Tl S w r) (k : ∀ l o, w = .ref l → S l = some o → S' l = some o) : Tl S' w r := by
  rcases h with ⟨told, l, e, rfl, hl⟩ | h
  · exact .inl ⟨told, l, e, rfl, k _ _ rfl hl⟩
  · exact .inr h
theorem Tl.at {S : Sto} {l : Addr} {r : Except (Nat × Nat) (List Int)} (h : Tl S (.ref l) r) : ∃ o, S l = some o := by
  rcases h with ⟨told, l', e, e2, hl⟩ | ⟨n, y, e, e2⟩
  · cases e2; exact ⟨_, hl⟩
  · cases e2
theorem Rf.isi {S : Sto} {w : W} {o : Option (List Int)} (h : Rf S w o) : DL.isi S .lst w = some (refB w) := by
  cases o with
  | none => obtain ⟨ws, rfl⟩ := h; rfl
  | some xs =>
    obtain ⟨l, rfl, hl⟩ := h
    simp only [DL.isi, view, hl]
    rfl
theorem Rf.shape {S : Sto} {w : W} {o : Option (List Int)} (h : Rf S w o) (e : refB w = true) : ∃ l xs, w = .ref l ∧ o = some xs ∧ S l = some (.lst (xs.map W.int)) := by
  cases o with
  | none => obtain ⟨ws, rfl⟩ := h; cases e
  | some xs =>
    obtain ⟨l, rfl, hl⟩ := h
    exact ⟨l, xs, rfl, rfl, hl⟩
theorem map_er (f : Int → W) : ∀ (xs : List Int) (k : Nat), (xs.map f).eraseIdx k = (xs.eraseIdx k).map f
  | [], _ => rfl
  | _ :: _, 0 => rfl
  | x :: xs, k + 1 => by
    show f x :: (xs.map f).eraseIdx k = f x :: (xs.eraseIdx k).map f
    rw [map_er f xs k]
def Apart (a b : W) : Prop := ∀ l, a = .ref l → b ≠ .ref l
theorem idx_uniq {zs : List W} (pw : zs.Pairwise Apart) {i j : Nat} {l : Addr} (hi : zs[i]? = some (.ref l)) (hj : zs[j]? = some (.ref l)) : i = j := by
  obtain ⟨hi, ei⟩ := List.getElem?_eq_some_iff.mp hi
  obtain ⟨hj, ej⟩ := List.getElem?_eq_some_iff.mp hj
  have := List.pairwise_iff_getElem.mp pw
  rcases Nat.lt_trichotomy i j with c | c | c
  · exact absurd ej (this i j hi hj c l ei)
  · exact c
  · exact absurd ei (this j i hj hi c l ej)
theorem dlist_go {S : Sto} {a : Addr} {xs : List W} {Q : WQ} (hS : S a = some (.lst xs)) (q : Q (.lst xs) S) : ζa [.ref a] S Q := by
  simp only [ζa, view, hS]
  exact q
def HdI (b hp : Addr) (zs : List W) (i : Nat) (S : Sto) (xs : List W) : Prop := ∀ w ∈ xs, ∃ (t : Addr) (l : List Int), w = .tup [.ref t, .lst (l.map W.int)] ∧ S t = some (.lst (l.map W.int)) ∧ t ≠ b ∧ t ≠ hp ∧ ∀ j, i ≤ j → zs[j]? ≠ some (.ref t)
theorem HdI.step {b hp l : Addr} {zs : List W} {i : Nat} {S S' : Sto} {xs : List W} {v : List Int} (h : HdI b hp zs i S xs) (hz : zs[i]? = some (.ref l)) (pw : zs.Pairwise Apart) (lb : l ≠ b) (lh : l ≠ hp) (hl : S' l = some (.lst (v.map W.int))) (k : ∀ a o, a ≠ hp → a ≠ l → S a = some o → S' a = some o) : HdI b hp zs (i + 1) S' (xs ++ [.tup [.ref l, .lst (v.map W.int)]]) := fun w hw => by
  rcases List.mem_append.mp hw with hw | hw
  · obtain ⟨t, l2, e, ht, n, m, far⟩ := h w hw
    have tl : t ≠ l := fun x => far i (Nat.le_refl _) (by rw [x]; exact hz)
    exact ⟨t, l2, e, k _ _ m tl ht, n, m, fun j hj => far j (by omega)⟩
  · refine ⟨l, v, List.mem_singleton.mp hw, hl, lb, lh, fun j hj e => ?_⟩
    have := idx_uniq pw hz e
    omega
abbrev s_law_right : Stmt := topS 67
abbrev N_law_right : List Str := ["_law_bag_here", "_law_head", "_law_tail", "_law_held", "_law_line", "_law_part_of", "_law_told", "_law_less_here", "_law_kept", "_law_new", "_law_more_here", "_law_number", "_law_other", "_law_worse", "_law_some", "_law_one"]
theorem sc_law_right : FnScope N_law_right ["_law_bag_here", "_law_head", "_law_tail", "_law_held"] (defScope s_law_right) := ⟨rfl, rfl, rfl, by decide +kernel, rfl, by decide +kernel, by decide +kernel⟩
theorem st_law_right {x0 x1 x2 x3 : W} : ζg N_law_right [x0, x1, x2, x3] = [some x0, some x1, some x2, some x3, none, none, none, none, none, none, none, none, none, none, none, none] := rfl
def td_law_right (c_Line c_NoFlow tt_law_one_out tt_law_right : Addr) : DS' :=
    (ζU (ζr (.tp ((.nm 4) :: ((.nm 5) :: []))) (ζP (ζl (ξc (dMake c_Line (sp_Line__init_ c_Line) (ζl (ζB 1) (ζl (ζB 2) ζO)))) (ζl (ζu sp_law_take (ζl (ζB 0) (ζl (dC (.int 101)) ζO))) ζO))))
    (ζU (ζY 6 (dLam tt_law_right "_law_right.<locals>.<lambda>" [4, 5] (sp_law_said c_NoFlow) (dMthX c_Line "pressures" (sp_Line_pressures c_Line c_NoFlow) [] (ζB 4) (ζl (ζB 5) ζO))))
    (ζU (ζY 7 (dLam tt_law_right "_law_right.<locals>.<lambda>" [4, 5] (sp_law_said c_NoFlow) (dMthX c_Line "pressures" (sp_Line_pressures c_Line c_NoFlow) [] (ζB 4) (ζl (dOp ζE (ζB 5) (dC (.int 2))) ζO))))
    (ζU (ζW (dOr (ζM (ζK (ζu sp_law_not_more (ζl (ζB 6) (ζl (ζB 7) ζO))))) (ζM (ζK (ζu (sp_law_one_out c_Line c_NoFlow tt_law_one_out) (ζl (ζB 0) (ζl (ζB 4) (ζl (ζB 1) (ζl (ζB 2) (ζl (ζB 5) ζO))))))))) (ζV (dC (.bl false))) ζp)
    (ζU (ζW (ζM (ζK (ζu (sp_law_small 4) (ζl (ζB 2) ζO)))) (ζV (dC (.bl true))) ζp)
    (ζU (ζY 8 (ζu (sp_law_share c_Line) (ζl (ζB 4) ζO)))
    (ζU (ζY 9 (dOp dIx (ζP (ζl (ζP (ζl (dC (.str "leak")) (ζl (dOp ζH (dC (.int 1)) (ζu sp_law_take (ζl (ζB 0) (ζl (dC (.int 1000)) ζO)))) ζO))) (ζl (ζP (ζl (dC (.str "hose")) (ζl (dOp ζH (dC (.int 1)) (ζu sp_law_take (ζl (ζB 0) (ζl (dC (.int 20)) ζO)))) (ζl (dC (.int 0)) ζO)))) ζO))) (ζu sp_law_take (ζl (ζB 0) (ζl (dC (.int 2)) ζO)))))
    (ζU (ζr (.tp ((.nm 10) :: ((.nm 11) :: []))) (ζu (sp_law_more 4) (ζl (ζB 0) (ζl (ζB 2) (ζl (ζB 9) ζO)))))
    (ζU (ζY 12 (ξc (dMake c_Line (sp_Line__init_ c_Line) (ζl (ζB 1) (ζl (ζB 10) ζO)))))
    (ζU (ζY 13 (dLam tt_law_right "_law_right.<locals>.<lambda>" [5, 12] (sp_law_said c_NoFlow) (dMthX c_Line "pressures" (sp_Line_pressures c_Line c_NoFlow) [] (ζB 12) (ζl (ζB 5) ζO))))
    (ζU (ζW (ζK (dUn (dIs .lst) (ζB 13))) (ζq (dBM dPopAt (ζB 13) (ζl (dOp ζC (ζB 11) (dC (.int 1))) ζO))) ζp)
    (ζU (ζW (dOr (ζM (ζK (ζu sp_law_not_more (ζl (ζB 13) (ζl (ζB 6) ζO))))) (ζi (dOp dGt (ζu (sp_law_share c_Line) (ζl (ζB 12) ζO)) (ζB 8)))) (ζV (dC (.bl false))) ζp)
    (ζU (ζW (dOr (ζi (dOp (dEqO c_Line (sp_Line__eq_ c_Line) true) (dMth c_Line "without" (sp_Line_without c_Line) [] (ζB 12) (ζl (ζB 11) ζO)) (ζB 4))) (dOr (ζi (dOp dNe (dCB (dLenO c_Line (sp_Line__len_ c_Line)) (ζl (ζB 12) ζO)) (dOp ζH (dCB (dLenO c_Line (sp_Line__len_ c_Line)) (ζl (ζB 4) ζO)) (dC (.int 1))))) (ζi (dOp dNe (ζu (sp_law_share c_Line) (ζl (ζB 4) ζO)) (ζB 8))))) (ζV (dC (.bl false))) ζp)
    (ζU (dFor (ζA (dLc (ζA (ζP (ζl (ζB 6) (ζl (ζB 7) (ζl (ζB 13) ζO))))) (.nm 15) (ζK (dUn (dIs .lst) (ζB 15))) (ζB 15) [15])) (.nm 14)
      (ζU (ζq (dBM ξa (ζB 14) (ζl (dC (.int 0)) ζO)))
      (ζq (dBM ξa (ζB 3) (ζl (ζP (ζl (ζB 14) (ζl (dCB ζa (ζl (ζB 14) ζO)) ζO))) ζO)))))
    (ζV (dOp dEq (dLam tt_law_right "_law_right.<locals>.<lambda>" [4, 5] (sp_law_said c_NoFlow) (dMthX c_Line "pressures" (sp_Line_pressures c_Line c_NoFlow) [] (ζB 4) (ζl (ζB 5) ζO))) (dIf (ζK (dUn (dIs .lst) (ζB 6))) (dSl (ζB 6) dNo (ζv (dUn ζI (dC (.int 1))))) (ζB 6))))))))))))))))))
def sp_law_right (c_Line c_NoFlow tt_law_one_out tt_law_right : Addr) : DSp := fun ws S Q _ => ∃ (b hp : Addr) (s : So) (t : Pt) (xs : List W), ws = [.ref b, s.w, .tup t.ws, .ref hp] ∧ Bg S b ∧ s.ok ∧ t.ok 3 ∧ hp ≠ b ∧ S hp = some (.lst xs) ∧ xs.length ≤ 900000 ∧ Hd b hp S xs ∧ S tt_law_one_out = some (.tab "_law_one_out.<locals>.<lambda>") ∧ S tt_law_right = some (.tab "_law_right.<locals>.<lambda>") ∧ ∀ S' xs', Kb b hp S S' → Bg S' b → S' hp = some (.lst xs') → xs'.length ≤ xs.length + 3 → Hd b hp S' xs' → Q (.bl true) S'
theorem len_law_right {c_Line c_NoFlow tt_law_one_out tt_law_right ws S Q E} (h : sp_law_right c_Line c_NoFlow tt_law_one_out tt_law_right ws S Q E) : ws.length = 4 := by obtain ⟨_, _, _, _, _, rfl, _⟩ := h; rfl
theorem hd_law_right (c_Line c_NoFlow tt_law_one_out tt_law_right : Addr) (ws S Q E) (h : sp_law_right c_Line c_NoFlow tt_law_one_out tt_law_right ws S Q E) : td_law_right c_Line c_NoFlow tt_law_one_out tt_law_right { nx := fun _ S' => frzQ Q .non S', rt := frzQ Q } ⟨ζg N_law_right ws, XF⟩ S := by
  obtain ⟨b, hp, s, t, xs, rfl, hB, hs, ht, hbp, hh, lx, HD, ht1, ht2, q⟩ := h
  have tb1 := tab_ne hB ht1
  have tb2 := tab_ne hB ht2
  have cb := Pt.cnt_b ht (by decide)
  have pok := Pt.pn_ok ht
  have INS : ∀ (S : Sto) (s : So) (t : Pt), insOk S c_Line "pressures" (lineW c_Line s t) := fun S s t => l_ins (by decide +kernel)
  have vR : ∀ (S : Sto) (s : So) (t : Pt) (sh : Int), view S (resW (ans s t sh)) = resW (ans s t sh) := fun S s t sh => view_D resW_d
  simp only [st_law_right, td_law_right]
  refine seq_go (asgTN_go (fun w S1 => ∃ sh : Int, w = .tup [lineW c_Line s t, .int sh] ∧ (0 ≤ sh ∧ sh ≤ 100) ∧ Kq b S S1) (fun Q' h => ?_) ?_)
  · simp only [ζP, ζl, ζO, ξc, dMake]
    refine var_go rfl (var_go rfl ?_)
    intro x dx hx hdx hne
    refine ⟨x, dx, s, t, rfl, up_same, hs, ht, rfl, frzI hx hdx hne ?_⟩
    (array_get_dec)
    exact ⟨b, 101, rfl, hB, by decide, by decide, fun r r0 r1 g s ok => ⟨Nat.le_of_ble_eq_true rfl, h _ _ ⟨r, rfl, by omega, Kq.up ok⟩⟩⟩
  rintro _ S1 ⟨sh, rfl, hsh, k1⟩
  refine ⟨_, rfl, ?_⟩
  (((try unfold ζp); dsimp only; refine seq_go ?_))
  have press : ∀ (S2 : Sto) (t : Pt), t.ok 3 → ∀ (sh : Int), (0 ≤ sh ∧ sh ≤ 100) → Bg S2 b → ∀ Q : WQ, (∀ w S3, Tl S3 w (ans s t sh) ∧ (∀ l, w = .ref l → S2 l = none) ∧ Kq b S2 S3 → Q w S3) → ∀ (E' : XW) (Q' : WQ), (∀ w S', Q w S' → Q' w S') → (∀ (n y : Nat) S', Q (.tup [.int (n : Nat), .str (whyS y)]) S' → E' (.ref c_NoFlow) (noFlow n y) S') → sp_Line_pressures c_Line c_NoFlow [lineW c_Line s t, .int sh] S2 Q' E' := fun S2 t ht sh hsh B2 Q h E' Q' hn he => press_go hs ht hsh hn he fun w S6 tl g fr => h _ _ ⟨tl, fr, .sub B2 g⟩
  refine setN_go (fun w S2 => Tl S2 w (ans s t sh) ∧ (∀ l, w = .ref l → S1 l = none) ∧ Kq b S1 S2) (fun Q' h => ?_) ?_
  · refine ⟨k1.keep _ _ tb2 ht2, rfl, fun E' Q2 hn he => ?_⟩
    (array_get_dec)
    exact ⟨INS _ _ _, press S1 t ht sh hsh k1.bg Q' h E' Q2 hn he⟩
  rintro w6 S2 ⟨tl6, fr6, k2⟩
  have k12 := k1.trans k2
  (((try unfold ζp); dsimp only; refine seq_go ?_))
  refine setN_go (fun w S3 => Tl S3 w (ans s t (sh / 2)) ∧ (∀ l, w = .ref l → S2 l = none) ∧ Kq b S2 S3) (fun Q' h => ?_) ?_
  · refine ⟨k12.keep _ _ tb2 ht2, rfl, fun E' Q2 hn he => ?_⟩
    (array_get_dec)
    refine mthX_go (var_go rfl ⟨INS _ _ _, consE_go (opV_go rfl ?_)⟩)
    (array_get_dec)
    exact ⟨⟨by decide, by decide⟩, press S2 t ht (sh / 2) (by omega) k2.bg Q' h E' Q2 hn he⟩
  rintro w7 S3 ⟨tl7, fr7, k3⟩
  have k13 := k12.trans k3
  have b6 : ∀ l, w6 = .ref l → l ≠ b := fun l e => by
    obtain ⟨g0, s0, eb, _⟩ := k1.bg
    exact ne_of (fr6 l e) eb
  have b7 : ∀ l, w7 = .ref l → l ≠ b := fun l e => by
    obtain ⟨g0, s0, eb, _⟩ := k2.bg
    exact ne_of (fr7 l e) eb
  have tl60 := tl6
  have tl6 := tl6.kq b6 k3
  (((try unfold ζp); dsimp only; refine seq_go ?_))
  refine ifF_go (fun S4 => Kq b S3 S4) (fun Q' hq => orT_go (fun S4 => S4 = S3) (fun S4 => Kq b S3 S4) (fun Q2 h2 => notTru_go fun Q3 h3 => ?_) (fun S4 e4 Q2 h2 => notTru_go fun Q3 h3 => ?_) hq) (fun S4 k4 => ?_)
  · exact call_go (consV_go rfl (consV_go rfl (nil_go ⟨w6, w7, _, _, rfl, tl6.rd, tl7.rd, nm_le pok (by omega) (by omega), toO_len ht, h3 _ (h2 _ rfl)⟩)))
  · subst e4
    exact call_go (consV_go rfl (consV_go rfl (consV_go rfl (consV_go rfl (consV_go rfl (nil_go ⟨b, s, t, sh, rfl, k3.bg, hs, ht, hsh, k13.keep _ _ tb1 ht1, fun S5 k5 => h3 _ (h2 _ k5)⟩))))))
  have k14 := k13.trans k4
  have tl6 := tl6.kq b6 k4
  have tl7 := tl7.kq b7 k4
  (((try unfold ζp); dsimp only; refine seq_go ?_))
  have done0 : ∀ S5, Kq b S S5 → frzQ Q (.bl true) S5 := fun S5 k5 => frzQ.mk (q S5 xs (.q k5) k5.bg (k5.keep _ _ hbp hh) (by omega) (HD.mono (.q k5)))
  refine if_b (!t.smB) (fun Q' h => not_b (a := t.smB) (fun Q2 h2 => call_go (consV_go rfl (nil_go ⟨t, rfl, ht, by decide, h2⟩))) h) (fun _ => ?_) (fun e0 => ?_)
  · refine ret_go ?_
    (array_get_dec)
    exact done0 S4 k14
  have sm : t.small := Pt.smB_iff.mp (by simpa using e0)
  (((try unfold ζp); dsimp only; refine seq_go ?_))
  refine set_go (.int (shareI (hlB s t) 101)) S4 (fun Q' h => call_go (consV_go rfl (nil_go ⟨s, t, rfl, hs, ht, h⟩))) ?_
  (((try unfold ζp); dsimp only; refine seq_go ?_))
  refine setN_go (fun w S5 => ∃ j : Jn, w = j.w ∧ j.ok ∧ j.bad ∧ Kq b S4 S5) (fun Q' h => ?_) ?_
  · refine opE_go (tup_go (consE_go (tup_go (consC_go (consE_go (opC_go (call_go (consV_go rfl (consC_go (nil_go ⟨b, 1000, rfl, k4.bg, by decide, by decide, fun r1 a0 a1 g s1 ok => addI_go (nil_go ⟨Nat.le_of_ble_eq_true rfl, ?_⟩)⟩))))))))))
    refine consE_go (tup_go (consC_go (consE_go (opC_go (call_go (consV_go rfl (consC_go (nil_go ⟨b, 20, rfl, Bg.up ok, by decide, by decide, fun r2 c0 c1 g2 s2 ok2 => addI_go (consC_go (nil_go ⟨Nat.le_of_ble_eq_true rfl, ?_⟩))⟩))))))))
    refine nil_go ⟨Nat.le_of_ble_eq_true rfl, call_go (consV_go rfl (consC_go (nil_go ⟨b, 2, rfl, Bg.up ok2, by decide, by decide, fun r3 d0 d1 g3 s3 ok3 => ?_⟩)))⟩
    obtain ⟨w, hw, hat⟩ := atI_pick (xs := [(Jn.leak (1 + r1)).w, (Jn.hose (1 + r2) 0).w]) d0 d1
    show (match L2.atI [(Jn.leak (1 + r1)).w, (Jn.hose (1 + r2) 0).w] r3 with | some w => _ | none => False)
    rw [hat]
    refine h _ _ ?_
    have kk := ((Kq.up (b := b) (S := S4) ok).trans (Kq.up ok2)).trans (Kq.up ok3)
    simp only [List.mem_cons, List.not_mem_nil, or_false] at hw
    rcases hw with rfl | rfl
    · exact ⟨.leak (1 + r1), rfl, ⟨by omega, by omega⟩, trivial, kk⟩
    · exact ⟨.hose (1 + r2) 0, rfl, ⟨⟨by omega, by omega⟩, by decide, by decide⟩, rfl, kk⟩
  rintro _ S5 ⟨nw, rfl, jo, jb, k5⟩
  (((try unfold ζp); dsimp only; refine seq_go ?_))
  refine asgTN_go (fun w S6 => ∃ (n : Nat) (u : Pt), w = .tup [.tup u.ws, .int (n : Nat)] ∧ More nw n t u ∧ Kq b S5 S6) (fun Q' h => ?_) ?_
  · exact call_go (consV_go rfl (consV_go rfl (consV_go rfl (nil_go ⟨b, t, nw, rfl, k5.bg, ht, by decide, fun n u hm g s ok => h _ _ ⟨n, u, rfl, hm, Kq.up ok⟩⟩))))
  rintro _ S6 ⟨n, u, rfl, hm, k6⟩
  refine ⟨_, rfl, ?_⟩
  have hu : u.ok 3 := hm.ok jo ht sm
  have cbu := Pt.cnt_b hu (by decide)
  (((try unfold ζp); dsimp only; refine seq_go ?_))
  refine set_go (lineW c_Line s u) S6 (fun Q' h => ?_) ?_
  · simp only [ξc, dMake]
    (array_get_dec)
    intro x dx hx hdx hne
    exact ⟨x, dx, s, u, rfl, up_same, hs, hu, rfl, frzI hx hdx hne h⟩
  have k16 := (k14.trans k5).trans k6
  (((try unfold ζp); dsimp only; refine seq_go ?_))
  refine setN_go (fun w S7 => Tl S7 w (ans s u sh) ∧ (∀ l, w = .ref l → S6 l = none) ∧ Kq b S6 S7) (fun Q' h => ?_) ?_
  · refine ⟨k16.keep _ _ tb2 ht2, rfl, fun E' Q2 hn he => ?_⟩
    (array_get_dec)
    exact ⟨INS _ _ _, press S6 u hu sh hsh k6.bg Q' h E' Q2 hn he⟩
  rintro w13 S7 ⟨tl13, fr13, k7⟩
  have b13 : ∀ l, w13 = .ref l → l ≠ b := fun l e => by
    obtain ⟨g0, s0, eb, _⟩ := k6.bg
    exact ne_of (fr13 l e) eb
  have k46 := k5.trans k6
  have k17 := k16.trans k7
  have tl6 := tl6.kq b6 k46
  have tl7 := tl7.kq b7 k46
  have n67 : ∀ l, w6 = .ref l → w7 ≠ .ref l := fun l e1 e2 => by
    subst e1
    obtain ⟨o, ho⟩ := tl60.at
    rw [fr7 l e2] at ho
    cases ho
  have n613 : ∀ l, w6 = .ref l → w13 ≠ .ref l := fun l e1 e2 => by
    subst e1
    obtain ⟨o, ho⟩ := tl6.at
    rw [fr13 l e2] at ho
    cases ho
  have n713 : ∀ l, w7 = .ref l → w13 ≠ .ref l := fun l e1 e2 => by
    subst e1
    obtain ⟨o, ho⟩ := tl7.at
    rw [fr13 l e2] at ho
    cases ho
  have tl6 := tl6.kq b6 k7
  have tl7 := tl7.kq b7 k7
  have old13 : ∀ a o, a ≠ b → S a = some o → w13 ≠ .ref a := fun a o n e e2 => by
    have := k16.keep _ _ n e
    rw [fr13 a e2] at this
    cases this
  (((try unfold ζp); dsimp only; refine seq_go ?_))
  refine stN_go (fun ω' S8 => ω' = ⟨[some (.ref b), some s.w, some (.tup t.ws), some (.ref hp), some (lineW c_Line s t), some (.int sh), some w6, some w7, some (.int (shareI (hlB s t) 101)), some nw.w, some (.tup u.ws), some (.int (n : Nat)), some (lineW c_Line s u), some w13, none, none], XF⟩ ∧ Rf S8 w13 (cutO n (toO (ans s u sh))) ∧ ∀ a o, w13 ≠ .ref a → S7 a = some o → S8 a = some o) (fun D h => ?_) ?_
  · rcases tl13 with ⟨told, l, e, rfl, hl⟩ | ⟨m, y, e, rfl⟩
    · have e1 : isi S7 .lst (.ref l) = some true := by simp only [isi, view, hl]
      refine if_b true (fun Q' h => by (array_get_dec); rw [e1]; exact h) (fun _ => ?_) (fun e => nomatch e)
      refine drop_go (bm_go (var_go rfl ⟨isL_ref hl, consE_go (opV_go rfl ?_)⟩))
      have mb := hm.b
      have tlen := ans_len e
      have pc := Pt.pn_cnt (t := u)
      rw [pc] at tlen
      have hk : (told.map W.int)[n - 1]? = some (.int (told[n - 1]'(by omega))) := by rw [List.getElem?_map, List.getElem?_eq_getElem (by omega)]; rfl
      refine ⟨l, told.map W.int, (n : Int) - 1, n - 1, _, rfl, rfl, hl, by omega, by omega, ?_, hk, h _ _ ⟨rfl, ?_, fun a o ne ha => by rw [up_ne (fun x => ne (by rw [x])) ]; exact ha⟩⟩
      · have := seqIx (r := (n : Int) - 1) (n := (told.map W.int).length) (by omega) (by rw [List.length_map]; omega)
        rw [this, show ((n : Int) - 1).toNat = n - 1 by omega]
      · rw [e]
        exact ⟨l, rfl, by rw [up_same, map_er]⟩
    · refine if_b false (fun Q' h => by (array_get_dec); exact h) (fun e => nomatch e) (fun _ => ?_)
      exact h _ _ ⟨rfl, by rw [e]; exact ⟨_, rfl⟩, fun a o _ ha => ha⟩
  rintro _ S8 ⟨rfl, rf13, k8⟩
  have tl6 := tl6.keep (S' := S8) fun l o e ho => k8 _ _ (n613 l e) ho
  have tl7 := tl7.keep (S' := S8) fun l o e ho => k8 _ _ (n713 l e) ho
  have B8 : Bg S8 b := by
    obtain ⟨g0, s0, eb, ok⟩ := k7.bg
    exact ⟨g0, s0, k8 _ _ (fun x => b13 b x rfl) eb, ok⟩
  have k18 : ∀ a o, a ≠ b → S a = some o → S8 a = some o := fun a o n e => k8 _ _ (old13 a o n e) (k17.keep _ _ n e)
  (((try unfold ζp); dsimp only; refine seq_go ?_))
  refine ifF_go (fun S9 => S9 = S8) (fun Q' hq => orT_go (fun S9 => S9 = S8) (fun S9 => S9 = S8) (fun Q2 h2 => notTru_go fun Q3 h3 => ?_) (fun S9 e9 Q2 h2 => ?_) hq) (fun S9 e9 => ?_)
  · exact call_go (consV_go rfl (consV_go rfl (nil_go ⟨w13, w6, _, _, rfl, rf13.rd, tl6.rd, nm_ins pok jo jb hm.ins (by omega), cutO_len (toO_len hu), h3 _ (h2 _ rfl)⟩)))
  · subst e9
    refine testE_go (opE_go (call_go (consV_go rfl (nil_go ⟨s, u, rfl, hs, hu, var_go rfl ?_⟩))))
    have := share_ins (s := s) pok jo jb hm.ins
    (array_get_dec)
    rw [show decide (shareI (hlB s u) 101 > shareI (hlB s t) 101) = false from decide_eq_false (by omega)]
    exact h2 _ rfl
  subst e9
  have jl := Pt.joins_len ht
  have ul := Pt.joins_len hu
  (((try unfold ζp); dsimp only; refine seq_go ?_))
  refine ifF_go (fun S8 => S8 = S9) (fun Q' hq => orT_go (fun S8 => S8 = S9) (fun S8 => S8 = S9) (fun Q2 h2 => ?_) (fun S8 e9 Q2 h2 => orT_go (fun S8 => S8 = S9) (fun S8 => S8 = S9) (fun Q3 h3 => ?_) (fun S7 e7 Q3 h3 => ?_) h2) hq) (fun S8 e8 => ?_)
  · refine testE_go (opE_go (var_go rfl ⟨l_ins (by decide +kernel), consV_go rfl (nil_go ⟨s, u, _, rfl, hs, hu, hm.at, ?_⟩)⟩))
    rw [hm.less]
    exact var_go rfl (line_same hs ht (h2 _ rfl))
  · subst e9
    refine testE_go (opE_go (cb_go (consV_go rfl (nil_go ⟨_, u.joins.length, rfl, is_line _ _, ln_nr c_Line (s, u), by omega, ⟨s, u, rfl, hs, hu, rfl⟩, ?_⟩))))
    refine opE_go (cb_go (consV_go rfl (nil_go ⟨_, t.joins.length, rfl, is_line _ _, ln_nr c_Line (s, t), by omega, ⟨s, t, rfl, hs, ht, rfl⟩, ?_⟩)))
    (array_get_dec)
    rw [weq_int, decide_eq_true (show ((u.joins.length : Nat) : Int) = (t.joins.length : Nat) + 1 by have := hm.b; omega)]
    exact ⟨rfl, rfl, h3 _ rfl⟩
  · subst e7
    refine testE_go (opE_go (call_go (consV_go rfl (nil_go ⟨s, t, rfl, hs, ht, var_go rfl ?_⟩))))
    (array_get_dec)
    rw [weq_int, decide_eq_true rfl]
    exact ⟨rfl, rfl, h3 _ rfl⟩
  subst e8
  have hh8 := k18 _ _ hbp hh
  have rf6 := tl6.rf
  have rf7 := tl7.rf
  obtain ⟨zs, hzs⟩ : ∃ zs, zs = [w6, w7, w13].filter refB := ⟨_, rfl⟩
  have pw : zs.Pairwise Apart := by
    have p0 : [w6, w7, w13].Pairwise Apart := by
      refine .cons (fun v hv => ?_) (.cons (fun v hv => ?_) (.cons (fun v hv => nomatch hv) .nil))
      · rcases List.mem_cons.mp hv with rfl | hv
        · exact fun l e1 e2 => n67 l e1 e2
        · rw [List.mem_singleton.mp hv]; exact fun l e1 e2 => n613 l e1 e2
      · rw [List.mem_singleton.mp hv]; exact fun l e1 e2 => n713 l e1 e2
    rw [hzs]
    exact p0.filter _
  have zl : zs.length ≤ 3 := by
    have := List.length_filter_le refB [w6, w7, w13]
    rw [hzs]
    exact this
  have zat : ∀ w ∈ zs, ∃ (l : Addr) (ys : List Int), w = .ref l ∧ S8 l = some (.lst (ys.map W.int)) ∧ ys.length ≤ 1000 ∧ l ≠ b ∧ ∀ o, l ≠ b → S l ≠ some o := fun w hw => by
    rw [hzs] at hw
    obtain ⟨hw, hr⟩ := List.mem_filter.mp hw
    rcases List.mem_cons.mp hw with rfl | hw
    · obtain ⟨l, ys, rfl, eo, hl⟩ := rf6.shape hr
      exact ⟨l, ys, rfl, hl, toO_len ht ys eo, b6 l rfl, fun o n x => by have := k1.keep _ _ n x; rw [fr6 l rfl] at this; cases this⟩
    rcases List.mem_cons.mp hw with rfl | hw
    · obtain ⟨l, ys, rfl, eo, hl⟩ := rf7.shape hr
      exact ⟨l, ys, rfl, hl, toO_len ht ys eo, b7 l rfl, fun o n x => by have := k12.keep _ _ n x; rw [fr7 l rfl] at this; cases this⟩
    rw [List.mem_singleton.mp hw] at hr ⊢
    obtain ⟨l, ys, rfl, eo, hl⟩ := rf13.shape hr
    exact ⟨l, ys, rfl, hl, cutO_len (toO_len hu) ys eo, b13 l rfl, fun o n x => by have := k16.keep _ _ n x; rw [fr13 l rfl] at this; cases this⟩
  have old : ∀ a o, a ≠ b → S a = some o → W.ref a ∉ zs := fun a o n e m => by
    obtain ⟨l, ys, el, _, _, lb, no⟩ := zat _ m
    cases el
    exact no o n e
  (((try unfold ζp); dsimp only; refine seq_go ?_))
  refine forSN (fun ws S9 => ws = zs ∧ S9 = S8) (fun Q' h => ?_) ?_
  · refine lcFs (w := .tup [w6, w7, w13]) (xs := [w6, w7, w13]) (fun Q2 h2 => tup_go (consV_go rfl (consV_go rfl (consV_go rfl (nil_go ⟨Nat.le_of_ble_eq_true rfl, h2⟩))))) rfl refB id (by show 3 ≤ 1000000; decide) (fun _ _ _ => rfl) (fun w hw => ⟨_, rfl, fun p acc hp => ⟨fun Qt hh => ?_, fun _ Qe hh => by (array_get_dec); exact hh⟩⟩) (by rw [List.map_id, ← hzs]; exact h _ _ ⟨rfl, rfl⟩)
    have e : isi (up S8 p (.lst acc)) .lst w = some (refB w) := by
      have kp : ∀ l o, w = .ref l → S8 l = some o → up S8 p (.lst acc) l = some o := fun l o _ ho => by rw [up_ne (ne_of hp ho).symm]; exact ho
      rcases List.mem_cons.mp hw with rfl | hw
      · exact (rf6.keep kp).isi
      rcases List.mem_cons.mp hw with rfl | hw
      · exact (rf7.keep kp).isi
      rw [List.mem_singleton.mp hw] at kp ⊢
      exact (rf13.keep kp).isi
    (array_get_dec)
    rw [e]
    exact hh
  rintro ws Sx ⟨ez, ex⟩
  replace ez := ez.symm
  replace ex := ex.symm
  subst ez
  subst ex
  refine ⟨fun i ω' S' => ∃ (y14 : Option W) (ys : List W), ω' = ⟨[some (.ref b), some s.w, some (.tup t.ws), some (.ref hp), some (lineW c_Line s t), some (.int sh), some w6, some w7, some (.int (shareI (hlB s t) 101)), some nw.w, some (.tup u.ws), some (.int (n : Nat)), some (lineW c_Line s u), some w13, y14, none], XF⟩ ∧ S' hp = some (.lst (xs ++ ys)) ∧ ys.length = i ∧ HdI b hp zs i S' (xs ++ ys) ∧ (∀ j l v, i ≤ j → zs[j]? = some (.ref l) → S8 l = some v → S' l = some v) ∧ (∀ j l (v : List Int), j < i → zs[j]? = some (.ref l) → S8 l = some (.lst (v.map W.int)) → S' l = some (.lst ((v ++ [0]).map W.int))) ∧ ∀ a o, a ≠ hp → W.ref a ∉ zs → S8 a = some o → S' a = some o, ⟨_, [], rfl, by rw [List.append_nil]; exact hh8, rfl, ?_, fun _ _ _ _ _ e => e, fun _ _ _ h => absurd h (Nat.not_lt_zero _), fun _ _ _ _ e => e⟩, ?_, ?_⟩
  · rw [List.append_nil]
    intro w hw
    obtain ⟨t, l, e, ht, n, m⟩ := HD w hw
    exact ⟨t, l, e, k18 _ _ n ht, n, m, fun j _ ej => old _ _ n ht (List.mem_of_getElem? ej)⟩
  · rintro i w ω' S' hw ⟨y14, ys, rfl, h1, h2, h3, h4, h5, h6⟩
    obtain ⟨l, v, rfl, hv, vl, lb, no⟩ := zat w (List.mem_of_getElem? hw)
    have lh : l ≠ hp := fun x => no _ lb (by rw [x]; exact hh)
    have hi := (List.getElem?_eq_some_iff.mp hw).1
    refine ⟨_, rfl, ?_⟩
    have hl := h4 i l _ (Nat.le_refl _) hw hv
    refine seq_go (app_go (xs := v.map W.int) (.int 0) rfl hl (fun Q h => by (array_get_dec); exact h) (by rw [List.length_map]; omega) ?_)
    have e7 : up S' l (.lst (v.map W.int ++ [.int 0])) = up S' l (.lst ((v ++ [0]).map W.int)) := by rw [List.map_append]; rfl
    rw [e7]
    have hh7 : up S' l (.lst ((v ++ [0]).map W.int)) hp = some (.lst (xs ++ ys)) := by rw [up_ne lh.symm]; exact h1
    (((try unfold ζp); dsimp only))
    refine app_go (xs := xs ++ ys) (.tup [.ref l, .lst ((v ++ [0]).map W.int)]) rfl hh7 (fun Q h => tup_go (consV_go rfl (consE_go (cb_go (consV_go rfl (nil_go (dlist_go up_same (nil_go ⟨Nat.le_of_ble_eq_true rfl, h⟩)))))))) (by rw [List.length_append]; omega) ?_
    refine ⟨_, ys ++ [.tup [.ref l, .lst ((v ++ [0]).map W.int)]], rfl, by rw [up_same, List.append_assoc], by rw [List.length_append, h2]; rfl, ?_, ?_, ?_, ?_⟩
    · rw [← List.append_assoc]
      exact h3.step hw pw lb lh (by rw [up_ne lh, up_same]) fun a o n m e => by rw [up_ne n, up_ne m]; exact e
    · intro j l2 v2 hj ej e8
      have nl : l2 ≠ l := fun x => by
        have := idx_uniq pw hw (x ▸ ej)
        omega
      have nh : l2 ≠ hp := fun x => by
        obtain ⟨_, _, e, _, _, lb2, no2⟩ := zat _ (List.mem_of_getElem? ej)
        cases e
        exact no2 _ lb2 (by rw [x]; exact hh)
      rw [up_ne nh, up_ne nl]
      exact h4 j l2 v2 (by omega) ej e8
    · intro j l2 v2 hj ej e8
      by_cases c : j = i
      · subst c
        rw [hw] at ej
        cases ej
        rw [hv] at e8
        rw [up_ne lh, up_same]
        have : v.map W.int = v2.map W.int := WO.lst.inj (Option.some.inj e8)
        rw [List.map_append, this, ← List.map_append]
      · have nl : l2 ≠ l := fun x => by
          have := idx_uniq pw hw (x ▸ ej)
          omega
        have nh : l2 ≠ hp := fun x => by
          obtain ⟨_, _, e, _, _, lb2, no2⟩ := zat _ (List.mem_of_getElem? ej)
          cases e
          exact no2 _ lb2 (by rw [x]; exact hh)
        rw [up_ne nh, up_ne nl]
        exact h5 j l2 v2 (by omega) ej e8
    · intro a o n m e8
      rw [up_ne n, up_ne (fun x => m (by rw [x]; exact List.mem_of_getElem? hw))]
      exact h6 a o n m e8
  rintro ω' S9 ⟨y14, ys, rfl, h1, h2, h3, h4, h5, h6⟩
  (((try unfold ζp); dsimp only))
  have B9 : Bg S9 b := by
    obtain ⟨g0, s0, eb, ok⟩ := B8
    refine ⟨g0, s0, h6 _ _ hbp.symm (fun m => ?_) eb, ok⟩
    obtain ⟨l, _, e, _, _, lb, _⟩ := zat _ m
    cases e
    exact lb rfl
  have tt9 : S9 tt_law_right = some (.tab "_law_right.<locals>.<lambda>") := h6 _ _ (fun x => by rw [x, hh] at ht2; cases ht2) (old _ _ tb2 ht2) (k18 _ _ tb2 ht2)
  have K9 : Kb b hp S S9 := ⟨fun a o n m e => h6 _ _ m (old _ _ n e) (k18 _ _ n e)⟩
  have H9 : Hd b hp S9 (xs ++ ys) := fun w hw => by
    obtain ⟨t, l, e, ht, n, m, _⟩ := h3 w hw
    exact ⟨t, l, e, ht, n, m⟩
  refine ret_go (opE_go ⟨tt9, rfl, fun E' Q2 hn he => ?_⟩)
  (array_get_dec)
  refine ⟨INS _ _ _, press S9 t ht sh hsh B9 _ (fun w S10 hx => ?_) E' Q2 hn he⟩
  obtain ⟨tl, fr, k10⟩ := hx
  have fin : frzQ Q (.bl true) S10 := frzQ.mk (q S10 (xs ++ ys) (K9.trans (.q k10)) k10.bg (k10.keep _ _ hbp h1) (by rw [List.length_append]; omega) (H9.mono (.q k10)))
  have rok : okD (resW (ans s t sh)) = true := resW_ok
  have rwe : weq (resW (ans s t sh)) (resW (ans s t sh)) = true := weq_refl resW_d
  have vw := tl.v
  rcases tl6 with ⟨told, l, e, rfl, hl⟩ | ⟨m, y, e, rfl⟩
  · have z0 : zs[0]? = some (.ref l) := by rw [hzs]; rfl
    have h9 := h5 0 l told (List.getElem?_eq_some_iff.mp z0).1 z0 hl
    have h10 := k10.keep _ _ (b6 l rfl) h9
    have v10 : view S10 (.ref l) = .lst ((told ++ [0]).map W.int) := by simp only [view, h10]
    refine ifE_b true (fun Q3 h3 => ?_) (fun _ => ?_) (fun e => nomatch e)
    · (array_get_dec)
      rw [show isi S10 .lst (.ref l) = some true by simp only [isi, v10]]
      exact h3
    · rw [e] at rok rwe vw
      (array_get_dec)
      rw [v10]
      (array_get_dec)
      rw [show cut (List.map W.int (told ++ [0])) none (some (-1)) = told.map W.int by rw [List.map_append]; exact cut_lastX _ _, vw]
      refine ⟨rok, rok, ?_⟩
      rw [show weq (resW (.ok told)) (.lst (told.map W.int)) = true from rwe]
      exact fin
  · rw [e] at rok rwe vw
    refine ifE_b false (fun Q3 h3 => by (array_get_dec); exact h3) (fun e => nomatch e) (fun _ => var_go rfl ?_)
    simp only [dEq]
    rw [vw]
    refine ⟨rok, rok, ?_⟩
    rw [show weq (resW (.error (m, y))) (view S10 (.tup [.int (m : Nat), .str (whyS y)])) = true from rwe]
    exact fin
section
variable {P : Program} {w : World} {K : PySem.W.Frag} {mg : Str → Option Value} {base : Heap} {c_Line c_BadTime c_NoGround c_NoPlace c_NoProof c_NoKind c_BadText c_NoDeed c_NoRow c_TooMany c_NotDone c_NoBook c_NoCall c_NoEngine c_NoEngines c_NoLine c_NoJoin c_NoFlow c_Late c_Inside c_Dead c_NoTeam c_NoWearer c_NoBoard c_NoText c_Nothing c_NoSaying : Addr}
variable {cc_law_right tt_law_right : Addr}
theorem ok_law_right {f : Addr} {fd : FuncData} (F : Fun K "_law_right" "_law_right" s_law_right f fd) (T : Txt K w mg c_Line c_BadTime c_NoGround c_NoPlace c_NoProof c_NoKind c_BadText c_NoDeed c_NoRow c_TooMany c_NotDone c_NoBook c_NoCall c_NoEngine c_NoEngines c_NoLine c_NoJoin c_NoFlow c_Late c_Inside c_Dead c_NoTeam c_NoWearer c_NoBoard c_NoText c_Nothing c_NoSaying) (M_Line : MakD P w K mg base 12 "Line" c_Line (sp_Line__init_ c_Line) []) (C_law_take : CalD P w K mg base 1 "_law_take" sp_law_take) (L_law_said : CalL P w K mg base 2 "_law_said" "_law_deed" (sp_law_said c_NoFlow)) (DX_Line_pressures : MthX P w K mg base 12 c_Line "pressures" (sp_Line_pressures c_Line c_NoFlow) []) (C_law_not_more : CalD P w K mg base 1 "_law_not_more" sp_law_not_more) (C_law_one_out : CalD P w K mg base 16 "_law_one_out" (sp_law_one_out c_Line c_NoFlow tt_law_one_out)) (C_law_small : CalD P w K mg base 9 "_law_small" (sp_law_small 4)) (C_law_share : CalD P w K mg base 15 "_law_share" (sp_law_share c_Line)) (C_law_more : CalD P w K mg base 12 "_law_more" (sp_law_more 4)) (D_Line__eq_ : MthD P w K mg base 1 c_Line "__eq__" (sp_Line__eq_ c_Line) []) (D_Line_without : MthD P w K mg base 14 c_Line "without" (sp_Line_without c_Line) []) (D_Line__len_ : MthD P w K mg base 6 c_Line "__len__" (sp_Line__len_ c_Line) []) (hcode_law_right : fd.code = .ref cc_law_right) (tb_law_right : LamX.TabB base mg cc_law_right tt_law_right) : FnOk P w K mg base CX0 17 f fd ["_law_bag_here", "_law_head", "_law_tail", "_law_held"] (uSp K (sp_law_right c_Line c_NoFlow tt_law_one_out tt_law_right)) :=
  Fun.okFc F hcode_law_right sc_law_right (td_law_right c_Line c_NoFlow tt_law_one_out tt_law_right) (fun cdv own A outer s H E hr =>
    (dss_cons (ds_asgT (de_tup (da_cons (de_frz (de_mk M_Line hr (da_cons (dv 1) (da_cons (dv 2) da_nil)))) (da_cons (de_call C_law_take hr (da_cons (dv 0) (da_cons de_int da_nil))) da_nil))) (dg_tp (dgs_cons (dg_nm (i := 4) sc_law_right.nd) (dgs_cons (dg_nm (i := 5) sc_law_right.nd) dgs_nil))))
    (dss_cons (ds_set (i := 6) sc_law_right.nd (de_lam (P := tt_law_right) (m := 14) (q := "_law_right.<locals>.<lambda>") (is := [4, 5]) L_law_said tb_law_right own hr (LamX.lamS_by (sc := defScope s_law_right) (by decide +kernel)) rfl (fun _ _ _ _ _ => rfl) (fun A outer s H E f c' hr => by exact (de_mthX T.cl_Line DX_Line_pressures (takes_of rfl rfl rfl rfl) hr (dv 4) (da_cons (dv 5) da_nil)))))
    (dss_cons (ds_set (i := 7) sc_law_right.nd (de_lam (P := tt_law_right) (m := 14) (q := "_law_right.<locals>.<lambda>") (is := [4, 5]) L_law_said tb_law_right own hr (LamX.lamS_by (sc := defScope s_law_right) (by decide +kernel)) rfl (fun _ _ _ _ _ => rfl) (fun A outer s H E f c' hr => by exact (de_mthX T.cl_Line DX_Line_pressures (takes_of rfl rfl rfl rfl) hr (dv 4) (da_cons (de_op oa_div (dv 5) de_int) da_nil)))))
    (dss_cons (ds_if (PW.pt (dw_or (dt_not (dt_tru (de_call C_law_not_more hr (da_cons (dv 6) (da_cons (dv 7) da_nil))))) (dw_or1 (dt_not (dt_tru (de_call C_law_one_out hr (da_cons (dv 0) (da_cons (dv 4) (da_cons (dv 1) (da_cons (dv 2) (da_cons (dv 5) da_nil))))))))))) (dss_one (ds_ret de_bl)) dss_nil)
    (dss_cons (ds_if (dt_not (dt_tru (de_call C_law_small hr (da_cons (dv 2) da_nil)))) (dss_one (ds_ret de_bl)) dss_nil)
    (dss_cons (ds_set (i := 8) sc_law_right.nd (de_call C_law_share hr (da_cons (dv 4) da_nil)))
    (dss_cons (ds_set (i := 9) sc_law_right.nd (de_ix (de_tup (da_cons (de_tup (da_cons de_str (da_cons (de_op oa_add de_int (de_call C_law_take hr (da_cons (dv 0) (da_cons de_int da_nil)))) da_nil))) (da_cons (de_tup (da_cons de_str (da_cons (de_op oa_add de_int (de_call C_law_take hr (da_cons (dv 0) (da_cons de_int da_nil)))) (da_cons de_int da_nil)))) da_nil))) (de_call C_law_take hr (da_cons (dv 0) (da_cons de_int da_nil)))))
    (dss_cons (ds_asgT (de_call C_law_more hr (da_cons (dv 0) (da_cons (dv 2) (da_cons (dv 9) da_nil)))) (dg_tp (dgs_cons (dg_nm (i := 10) sc_law_right.nd) (dgs_cons (dg_nm (i := 11) sc_law_right.nd) dgs_nil))))
    (dss_cons (ds_set (i := 12) sc_law_right.nd (de_frz (de_mk M_Line hr (da_cons (dv 1) (da_cons (dv 10) da_nil)))))
    (dss_cons (ds_set (i := 13) sc_law_right.nd (de_lam (P := tt_law_right) (m := 14) (q := "_law_right.<locals>.<lambda>") (is := [5, 12]) L_law_said tb_law_right own hr (LamX.lamS_by (sc := defScope s_law_right) (by decide +kernel)) rfl (fun _ _ _ _ _ => rfl) (fun A outer s H E f c' hr => by exact (de_mthX T.cl_Line DX_Line_pressures (takes_of rfl rfl rfl rfl) hr (dv 12) (da_cons (dv 5) da_nil)))))
    (dss_cons (ds_if (dt_tru (de_isi .lst (dv 13) T.z_isinstance T.z_list)) (dss_one (ds_expr (de_popAt (dv 13) (da_cons (de_op oa_sub (dv 11) de_int) da_nil)))) dss_nil)
    (dss_cons (ds_if (PW.pt (dw_or (dt_not (dt_tru (de_call C_law_not_more hr (da_cons (dv 13) (da_cons (dv 6) da_nil))))) (dw_or1 (dt_cmp oc_gt (de_call C_law_share hr (da_cons (dv 12) da_nil)) (dv 8))))) (dss_one (ds_ret de_bl)) dss_nil)
    (dss_cons (ds_if (PW.pt (dw_or (dt_cmp (oc_neM D_Line__eq_ T.nf_Line T.ne_Line T.ow_Line hr) (de_mth T.cl_Line D_Line_without hr (dv 12) (da_cons (dv 11) da_nil)) (dv 4)) (dw_or (dt_cmp (oc_ne hr) (de_callB (cd_lenM D_Line__len_ hr) T.z_len (da_cons (dv 12) da_nil)) (de_op oa_add (de_callB (cd_lenM D_Line__len_ hr) T.z_len (da_cons (dv 4) da_nil)) de_int)) (dw_or1 (dt_cmp (oc_ne hr) (de_call C_law_share hr (da_cons (dv 4) da_nil)) (dv 8)))))) (dss_one (ds_ret de_bl)) dss_nil)
    (dss_cons (ds_for PassesOwn.never (di_seq (de_lc (own := [("_law_one", 15)]) sc_law_right.nd (di_seq (de_tup (da_cons (dv 6) (da_cons (dv 7) (da_cons (dv 13) da_nil))))) (blkOk_by (own := [("_law_one", 15)]) (N := N_law_right) (sc := defScope s_law_right) (by decide +kernel)) (fun _ _ _ _ _ => (dg_nm (i := 15) sc_law_right.nd)) (fun _ _ _ _ _ => (dts_one (dt_tru (de_isi .lst (dv 15) T.z_isinstance T.z_list)))) (fun _ _ _ _ _ => (dv 15)))) (dg_nm (i := 14) sc_law_right.nd)
      (dss_cons (ds_expr (de_append (dv 14) (da_cons de_int da_nil)))
      (dss_one (ds_expr (de_append (dv 3) (da_cons (de_tup (da_cons (dv 14) (da_cons (de_callTy cd_list T.z_list (da_cons (dv 14) da_nil)) da_nil))) da_nil))))))
    (dss_one (ds_ret (de_cmp (oc_eq hr) (de_lam (P := tt_law_right) (m := 14) (q := "_law_right.<locals>.<lambda>") (is := [4, 5]) L_law_said tb_law_right own hr (LamX.lamS_by (sc := defScope s_law_right) (by decide +kernel)) rfl (fun _ _ _ _ _ => rfl) (fun A outer s H E f c' hr => by exact (de_mthX T.cl_Line DX_Line_pressures (takes_of rfl rfl rfl rfl) hr (dv 4) (da_cons (dv 5) da_nil)))) (de_if (dt_tru (de_isi .lst (dv 6) T.z_isinstance T.z_list)) (de_sl (dv 6) do_none (do_some (de_neg de_int))) (dv 6)))))))))))))))))))) (fun ws S Q E h => len_law_right h) (hd_law_right c_Line c_NoFlow tt_law_one_out tt_law_right)
end
structure Iv (t1 t2 hp b : Addr) (k : Nat) (S : Sto) (xs : List W) : Prop where
  h : S hp = some (.lst xs)
  l : xs.length ≤ k
  H : Hd b hp S xs
  a1 : S t1 = some (.tab "_law_one_out.<locals>.<lambda>")
  a2 : S t2 = some (.tab "_law_right.<locals>.<lambda>")
abbrev s_law : Stmt := topS 68
abbrev N_law : List Str := ["_law_script", "_law_held", "_law_k", "_law_bag_here", "_law_turn", "_law_told", "_law_kept"]
theorem sc_law : FnScope N_law ["_law_script"] (defScope s_law) := ⟨rfl, rfl, rfl, by decide +kernel, rfl, by decide +kernel, by decide +kernel⟩
theorem st_law {x0 : W} : ζg N_law [x0] = [some x0, none, none, none, none, none, none] := rfl
def td_law (c_Line c_NoFlow tt_law_one_out tt_law_right : Addr) : DS' :=
    (ζU (ζY 1 (ζm ζO))
    (ζU (dFor (ζx (ζl (dCB ζn (ζl (dC (.int 3)) (ζl (dCB ζo (ζl (dC (.int 4)) (ζl (dCB ζR (ζl (ζB 0) ζO)) ζO))) ζO))) ζO)) (.nm 2)
      (ζU (ζY 3 (ζu sp_law_bag (ζl (ζB 0) (ζl (ζB 2) ζO))))
      (dFor (ζx (ζl (dC (.int 3)) ζO)) (.nm 4)
        (ζW (ζM (ζK (ζu (sp_law_right c_Line c_NoFlow tt_law_one_out tt_law_right) (ζl (ζB 3) (ζl (ζu sp_law_source (ζl (ζB 3) ζO)) (ζl (ζu (sp_law_parts 4) (ζl (ζB 3) (ζl (dOp dIx (ζP (ζl (dC (.int 3)) (ζl (dC (.int 1)) (ζl (dC (.int 0)) ζO)))) (ζB 4)) ζO))) (ζl (ζB 1) ζO))))))) (ζV (dC (.bl false))) ζp))))
    (ζV (dCB ζT (ζl (dLc (ζA (ζB 1)) (.tp ((.nm 5) :: ((.nm 6) :: []))) dYes (dOp dEq (ζB 5) (ζB 6)) [5, 6]) ζO)))))
def sp_law (c_Line c_NoFlow tt_law_one_out tt_law_right : Addr) : DSp := fun ws S Q _ => ∃ ns : List Int, ws = [.scr ns] ∧ ns.length ≤ 63 ∧ S tt_law_one_out = some (.tab "_law_one_out.<locals>.<lambda>") ∧ S tt_law_right = some (.tab "_law_right.<locals>.<lambda>") ∧ ∀ S', Q (.bl true) S'
theorem len_law {c_Line c_NoFlow tt_law_one_out tt_law_right ws S Q E} (h : sp_law c_Line c_NoFlow tt_law_one_out tt_law_right ws S Q E) : ws.length = 1 := by obtain ⟨_, rfl, _⟩ := h; rfl
theorem hd_law (c_Line c_NoFlow tt_law_one_out tt_law_right : Addr) (ws S Q E) (h : sp_law c_Line c_NoFlow tt_law_one_out tt_law_right ws S Q E) : td_law c_Line c_NoFlow tt_law_one_out tt_law_right { nx := fun _ S' => frzQ Q .non S', rt := frzQ Q } ⟨ζg N_law ws, XF⟩ S := by
  obtain ⟨ns, rfl, hns, ht1, ht2, q⟩ := h
  simp only [st_law, td_law]
  refine seq_go (setN_go (fun w S1 => ∃ hp, w = .ref hp ∧ Iv tt_law_one_out tt_law_right hp hp 0 S1 []) (fun Q' h => ?_) ?_)
  · (array_get_dec)
    refine ⟨by decide, fun p hp => ?_⟩
    have I : Iv tt_law_one_out tt_law_right p p 0 (up S p (.lst [])) [] := ⟨up_same, Nat.le_refl _, fun _ h => (nomatch h), by rw [up_ne (ne_of hp ht1).symm]; exact ht1, by rw [up_ne (ne_of hp ht2).symm]; exact ht2⟩
    exact h _ _ ⟨p, rfl, I⟩
  rintro _ S1 ⟨hp, rfl, I0⟩
  (((try unfold ζp); dsimp only; refine seq_go ?_))
  refine forRN (fun n S2 => 3 ≤ n ∧ n ≤ 4 ∧ S2 = S1) (fun Q' h => ?_) ?_
  · (array_get_dec)
    refine h _ _ ?_
    refine ⟨?_, ?_, rfl⟩ <;> (repeat' split) <;> omega
  rintro n S2 ⟨n1, n2, rfl⟩
  refine ⟨⟨by omega, by omega⟩, fun i ω' S' => ∃ (y2 y3 y4 y5 y6 : Option W) (xs : List W), ω' = ⟨[some (.scr ns), some (.ref hp), y2, y3, y4, y5, y6], XF⟩ ∧ Iv tt_law_one_out tt_law_right hp hp (9 * i) S' xs, ⟨_, _, _, _, _, [], rfl, I0⟩, ?_, ?_⟩
  · rintro i ω' S' hi ⟨y2, y3, y4, y5, y6, xs, rfl, I⟩
    refine ⟨_, rfl, ?_⟩
    refine seq_go (setN_go (fun w S1 => ∃ b, w = .ref b ∧ hp ≠ b ∧ Bg S1 b ∧ Iv tt_law_one_out tt_law_right hp b (9 * i) S1 xs) (fun Q h => ?_) ?_)
    · (array_get_dec)
      refine ⟨ns, _, rfl, by omega, by omega, fun p hp0 g s ok => h _ _ ⟨p, rfl, (ne_of hp0 I.h).symm, Bg.up ok, ?_⟩⟩
      have kp : ∀ a o, S' a = some o → up S' p (bagO g s) a = some o := fun a o e => by rw [up_ne (ne_of hp0 e).symm]; exact e
      refine ⟨kp _ _ I.h, I.l, fun w hw => ?_, kp _ _ I.a1, kp _ _ I.a2⟩
      obtain ⟨t, l, e, ht, _, m⟩ := I.H w hw
      exact ⟨t, l, e, kp _ _ ht, (ne_of hp0 ht).symm, m⟩
    rintro _ S3 ⟨b, rfl, hpb, B3, I3⟩
    (((try unfold ζp); dsimp only))
    refine forR (n := 3) (fun Q' h => by (array_get_dec); exact h) ⟨by decide, by decide⟩ (fun k ω' S' => ∃ (y4 y5 y6 : Option W) (xs : List W), ω' = ⟨[some (.scr ns), some (.ref hp), some (.int (i : Nat)), some (.ref b), y4, y5, y6], XF⟩ ∧ Bg S' b ∧ Iv tt_law_one_out tt_law_right hp b (9 * i + 3 * k) S' xs) ⟨_, _, _, xs, rfl, B3, I3⟩ ?_ ?_
    · rintro k ω' S4 hk ⟨y4, y5, y6, xs, rfl, B4, I4⟩
      refine ⟨_, rfl, ?_⟩
      obtain ⟨e, he, hat⟩ : ∃ e : Nat, e ≤ 3 ∧ L2.atI [W.int 3, .int 1, .int 0] (k : Int) = some (.int (e : Nat)) := by
        match k, hk with
        | 0, _ => exact ⟨3, by decide, rfl⟩
        | 1, _ => exact ⟨1, by decide, rfl⟩
        | 2, _ => exact ⟨0, by decide, rfl⟩
        | k + 3, h => exact absurd h (by omega)
      refine ifF_go (fun S9 => ∃ xs, Bg S9 b ∧ Iv tt_law_one_out tt_law_right hp b (9 * i + 3 * (k + 1)) S9 xs) (fun Q' hq => ?_) fun S9 ⟨xs, B9, I9⟩ => ⟨_, _, _, xs, rfl, B9, I9⟩
      refine notTru_go fun Q3 h3 => call_go (consV_go rfl (consE_go (call_go (consV_go rfl (nil_go ⟨b, rfl, B4, fun s0 hs0 g s ok => consE_go (call_go (consV_go rfl (consE_go ?_)))⟩)))))
      refine opE_go (tup_go (consC_go (consC_go (consC_go (nil_go ⟨Nat.le_of_ble_eq_true rfl, var_go rfl ?_⟩)))))
      show (match L2.atI [W.int 3, .int 1, .int 0] (k : Int) with | some w => _ | none => False)
      rw [hat]
      refine nil_go ⟨b, e, rfl, he, Bg.up ok, by decide, fun t0 ht0 g2 s2 ok2 => consV_go rfl (nil_go ?_)⟩
      have kq := (Kq.up (b := b) (S := S4) ok).trans (Kq.up ok2)
      have n1 := tab_ne B4 I4.a1
      have n2 := tab_ne B4 I4.a2
      refine ⟨b, hp, s0, t0, xs, rfl, kq.bg, hs0, Pt.ok_mono ht0 he, hpb, kq.keep _ _ hpb I4.h, by have := I4.l; omega, I4.H.mono (.q kq), kq.keep _ _ n1 I4.a1, kq.keep _ _ n2 I4.a2, fun S9 xs2 K9 B9 h9 l9 H9 => h3 _ (hq _ ⟨xs2, B9, ?_⟩)⟩
      have h1 : tt_law_one_out ≠ hp := fun x => by have := I4.a1; rw [x, I4.h] at this; cases this
      have h2 : tt_law_right ≠ hp := fun x => by have := I4.a2; rw [x, I4.h] at this; cases this
      exact ⟨h9, by have := I4.l; omega, H9, K9.keep _ _ n1 h1 (kq.keep _ _ n1 I4.a1), K9.keep _ _ n2 h2 (kq.keep _ _ n2 I4.a2)⟩
    · rintro ω' S4 ⟨y4, y5, y6, xs, rfl, B4, I4⟩
      exact ⟨_, _, _, _, _, xs, rfl, I4.h, I4.l, fun w hw => by
        obtain ⟨t, l, e, ht, _, m⟩ := I4.H w hw
        exact ⟨t, l, e, ht, m, m⟩, I4.a1, I4.a2⟩
  · rintro ω' S5 ⟨y2, y3, y4, y5, y6, xs2, rfl, I5⟩
    have h5 := I5.h
    (((try unfold ζp); dsimp only))
    refine ret_go (cb_go (consE_go ?_))
    refine lcMs (w := .ref hp) (xs := xs2) (fun Q' h => by (array_get_dec); exact h) (seqW_ref h5) (fun _ => .bl true) (by have := I5.l; omega) (fun p0 acc h0 => seqW_ref (by rw [up_ne (ne_of h0 h5).symm]; exact h5)) (fun w hw => ?_) (nil_go ?_)
    · obtain ⟨t, l, rfl, ht, _⟩ := I5.H w hw
      refine ⟨_, rfl, fun p0 acc h0 Qe h => ?_⟩
      have vt : view (up S5 p0 (.lst acc)) (.ref t) = .lst (l.map W.int) := by simp only [view, up_ne (ne_of h0 ht).symm, ht]
      refine opV_go rfl (var_go rfl ?_)
      simp only [dEq, vt]
      refine ⟨okD_ints _, okD_ints _, ?_⟩
      have okl : okD (.lst (l.map W.int)) = true := okD_ints _
      have : weq (.lst (l.map W.int)) (view (up S5 p0 (.lst acc)) (.lst (l.map W.int))) = true := weq_refl (w := .lst (l.map W.int)) (by unfold okD at okl; simp only [Bool.and_eq_true] at okl; exact okl.1)
      rw [this]
      exact h
    · simp only [ζT]
      (array_get_dec)
      rw [List.map_const', all_bl]
      (array_get_dec)
      rw [show (List.replicate xs2.length true).all id = true from List.all_eq_true.mpr fun x hx => (List.eq_of_mem_replicate hx)]
      exact frzQ.mk (q _)
section
variable {P : Program} {w : World} {K : PySem.W.Frag} {mg : Str → Option Value} {base : Heap} {c_Line c_BadTime c_NoGround c_NoPlace c_NoProof c_NoKind c_BadText c_NoDeed c_NoRow c_TooMany c_NotDone c_NoBook c_NoCall c_NoEngine c_NoEngines c_NoLine c_NoJoin c_NoFlow c_Late c_Inside c_Dead c_NoTeam c_NoWearer c_NoBoard c_NoText c_Nothing c_NoSaying : Addr}
theorem ok_law {f : Addr} {fd : FuncData} (F : Fun K "law" "law" s_law f fd) (T : Txt K w mg c_Line c_BadTime c_NoGround c_NoPlace c_NoProof c_NoKind c_BadText c_NoDeed c_NoRow c_TooMany c_NotDone c_NoBook c_NoCall c_NoEngine c_NoEngines c_NoLine c_NoJoin c_NoFlow c_Late c_Inside c_Dead c_NoTeam c_NoWearer c_NoBoard c_NoText c_Nothing c_NoSaying) (C_law_bag : CalD P w K mg base 1 "_law_bag" sp_law_bag) (C_law_right : CalD P w K mg base 17 "_law_right" (sp_law_right c_Line c_NoFlow tt_law_one_out tt_law_right)) (C_law_source : CalD P w K mg base 2 "_law_source" sp_law_source) (C_law_parts : CalD P w K mg base 7 "_law_parts" (sp_law_parts 4)) : FnOk P w K mg base CX0 18 f fd ["_law_script"] (uSp K (sp_law c_Line c_NoFlow tt_law_one_out tt_law_right)) :=
  Fun.okF F sc_law (td_law c_Line c_NoFlow tt_law_one_out tt_law_right) (fun cdv A outer s H E hr =>
    (dss_cons (ds_set (i := 1) sc_law.nd (de_lstM da_nil))
    (dss_cons (ds_for PassesOwn.never (di_range1 T.z_range (da_cons (de_callB cd_max2 T.z_max (da_cons de_int (da_cons (de_callB cd_min2 T.z_min (da_cons de_int (da_cons (de_callB cd_len T.z_len (da_cons (dv 0) da_nil)) da_nil))) da_nil))) da_nil)) (dg_nm (i := 2) sc_law.nd)
      (dss_cons (ds_set (i := 3) sc_law.nd (de_call C_law_bag hr (da_cons (dv 0) (da_cons (dv 2) da_nil))))
      (dss_one (ds_for PassesOwn.never (di_range1 T.z_range (da_cons de_int da_nil)) (dg_nm (i := 4) sc_law.nd)
        (dss_one (ds_if (dt_not (dt_tru (de_call C_law_right hr (da_cons (dv 3) (da_cons (de_call C_law_source hr (da_cons (dv 3) da_nil)) (da_cons (de_call C_law_parts hr (da_cons (dv 3) (da_cons (de_ix (de_tup (da_cons de_int (da_cons de_int (da_cons de_int da_nil)))) (dv 4)) da_nil))) (da_cons (dv 1) da_nil))))))) (dss_one (ds_ret de_bl)) dss_nil))))))
    (dss_one (ds_ret (de_callB cd_all T.z_all (da_cons (de_lc (own := [("_law_told", 5), ("_law_kept", 6)]) sc_law.nd (di_seq (dv 1)) (blkOk_by (own := [("_law_told", 5), ("_law_kept", 6)]) (N := N_law) (sc := defScope s_law) (by decide +kernel)) (fun _ _ _ _ _ => (dg_tp (dgs_cons (dg_nm (i := 5) sc_law.nd) (dgs_cons (dg_nm (i := 6) sc_law.nd) dgs_nil)))) (fun _ _ _ _ _ => dts_nil) (fun _ _ _ _ _ => (de_cmp (oc_eq hr) (dv 5) (dv 6)))) da_nil))))))) (fun ws S Q E h => len_law h) (hd_law c_Line c_NoFlow tt_law_one_out tt_law_right)
end
end DL
namespace My
open PySem
section
open PySem.Spec PyProof.Rows L2
end
section
variable {M : Model} {prog : Program} {w : World} {A : Around} {E : Value → Shared → Prop} {R : Result → Shared → Prop} {hp : Heap} {gs : Array GenState} {dr : Drawn} {tk : Nat} {os : OsState}
variable {nm q : Str} {C N : Addr} {bs bm us : List Value} {hd1 : Bool} {sn : List Str} {sub : List Value} {ab : Bool} {col : Option Bool} {dd : Option Addr} {k0 k1 k2 k3 k5 : Option Value}
end
end My
namespace My
open PySem PySem.Spec PyProof.Rows L2
section
variable {X : Cx} {pins : List (Addr × Obj)} {σ : L2.St} {H : Hp} {s : Shared} {a C : Addr} {f : Str} {y : V} {u : Value} {Q : Unit → Shared → Prop} {E : Value → Shared → Prop} {A : Around}
end
section
variable {X : Cx} {o e : Expr} {es : List Expr} {to te : TE} {ta : TA} {f : Str} {p p' p1 p2 pos : Pos}
end
section
variable {X : Cx} {pins : List (Addr × Obj)} {σ : L2.St} {H : Hp} {s : Shared} {a C dx : Addr} {f : Str} {y : V} {u : Value} {fs : List (Str × V)} {Q : Unit → Shared → Prop} {E : Value → Shared → Prop} {A : Around}
end
section
variable {X : Cx} {o e : Expr} {to te : TE} {f : Str} {p' pos : Pos}
end
end My
namespace DL
open PySem PySem.Spec PyProof.Rows L2
mutual
def CvX.w : CvX → W
  | .non => .non
  | .bl b => .bl b
  | .int i => .int i
  | .str x => .str x
  | .tup xs => .tup (CvX.ws xs)
def CvX.ws : List CvX → List W
  | [] => []
  | c :: cs => c.w :: CvX.ws cs
end
mutual
theorem cvXB_ok {K : PySem.W.Frag} : ∀ {c : CvX} {u : Value}, cvXB K c u = true → ∃ v, RelV v u ∧ ∀ S H, RW K S H c.w v
  | .non, u, h => by
    cases u <;> first | exact ⟨.non, rfl, fun _ _ => .non⟩ | cases h
  | .bl b, u, h => by
    cases u <;> first | cases h | skip
    rename_i c
    have e : c = b := eq_of_beq h
    subst e
    exact ⟨.bl c, rfl, fun _ _ => .bl c⟩
  | .int i, u, h => by
    cases u <;> first | cases h | skip
    rename_i j t
    have e : j = i := of_decide_eq_true h
    subst e
    exact ⟨.int j, ⟨t, rfl⟩, fun _ _ => .int j⟩
  | .str x, u, h => by
    cases u <;> first | cases h | skip
    rename_i y t
    obtain ⟨h1, h2⟩ := Bool.and_eq_true_iff.mp (show (decide (y = x) && svb x) = true from h)
    have e : y = x := of_decide_eq_true h1
    subst e
    exact ⟨.str y, ⟨t, rfl⟩, fun _ _ => .str y h2⟩
  | .tup xs, u, h => by
    cases u <;> first | cases h | skip
    rename_i t
    have h : (match K.lookup t with
      | some ⟨.type c, _, .seq its _, _⟩ => decide (c = "tuple") && (decide (its.size ≤ sizeLine) && cvXBs K xs its.toList)
      | _ => false) = true := h
    split at h
    · rename_i c od its n sl e
      obtain ⟨h1, h2⟩ := Bool.and_eq_true_iff.mp h
      obtain ⟨h2, h3⟩ := Bool.and_eq_true_iff.mp h2
      obtain ⟨vs, r, q⟩ := cvXBs_ok h3
      have ec : c = "tuple" := of_decide_eq_true h1
      subst ec
      exact ⟨.ref t, rfl, fun S H => .tupK ⟨_, its, n, e, rfl, rfl, of_decide_eq_true h2, r⟩ (q S H)⟩
    · cases h
theorem cvXBs_ok {K : PySem.W.Frag} : ∀ {cs : List CvX} {us : List Value}, cvXBs K cs us = true → ∃ vs, Vals vs us ∧ ∀ S H, RWs K S H (CvX.ws cs) vs
  | [], us, h => by
    cases us with
    | nil => exact ⟨[], .nil, fun _ _ => .nil⟩
    | cons u us => cases h
  | c :: cs, us, h => by
    cases us with
    | nil => cases h
    | cons u us =>
      obtain ⟨h1, h2⟩ := Bool.and_eq_true_iff.mp (show (cvXB K c u && cvXBs K cs us) = true from h)
      obtain ⟨v, r, q⟩ := cvXB_ok h1
      obtain ⟨vs, rs, qs⟩ := cvXBs_ok h2
      exact ⟨v :: vs, .cons r rs, fun S H => .cons (q S H) (qs S H)⟩
end
theorem gwXB_ok {K : PySem.W.Frag} {h : Heap} {mg : Str → Option Value} (X : K.In h) (G : h.Ns mainGlobals mg) {x : Str} {c : CvX} (t : gwXB K x c = true) : GW K mg x c.w := by
  unfold gwXB at t
  split at t
  · rename_i u e
    obtain ⟨v, r, q⟩ := cvXB_ok t
    exact ⟨v, u, PySem.W.mg_of X G e, r, q⟩
  · cases t
theorem code_of {K : PySem.W.Frag} {h : Heap} {mg : Str → Option Value} {x qual : Str} {st : Stmt} {f c P : Addr} {fd : FuncData} (X : K.In h) (G : h.Ns mainGlobals mg) (tk : PySem.W.tabIn K x = some (c, P)) (g : mg x = some (.ref f)) (F : Fun K x qual st f fd) : fd.code = .ref c := by
  obtain ⟨⟨oc, od, kV, doc, pm, an, cdv, ct, osl, e, l, cd⟩, kp⟩ := F
  exact PySem.W.law_code X G tk g (X _ _ l) rfl
theorem walk_tabsE {l : PySem.W.OpenLaw} {n k : Nat} {q : Program} {loose : List Str} {XP : (Str → Option Value) → Heap → Prop} {YP : World → Heap → Prop} {d : DefRec} {CX : World → CXT} {x : Str}
    (hn : l.most = some n) (hn2 : n ≤ sizeLine) (hdf : d.params.defaults = []) (hr : Room k callerA)
    (F : ∀ (w : World) (mg : Str → Option Value) (fa : Addr) (h : Heap), YP w h → h.Ns mainGlobals mg → mg d.name = some (.ref fa) → ∃ K : PySem.W.Frag, K.In h ∧ (TabFacts q K h → LamX.LawAtS l w K (CX w) k n x mg fa h))
    (hCX : ∀ (w : World) (H : Hp) (s : Shared) (e : Value) (s' : Shared), CX w [] H s (fun _ _ _ => False) e s' → False) :
    PySem.W.WalkO q loose XP YP l.row.toRowW d [] (fun f vs => PySem.call f vs) := by
  refine Att.attach_callB hn hdf fun w s₀ s₁ mg mb fa o pm cd doc a vs ns G Y _ _ _ hmg hobj hints hlen hbits hg => ?_
  obtain ⟨K, inK, F⟩ := F w mg fa _ Y G.T.g hmg
  obtain ⟨fd, cs, sp, empty, notK, code, hb, hsp, hF⟩ := F fun x d c P h1 h2 => PySem.W.tab_of G.T inK h1 h2
  exact LamX.law_callTs inK G.T.g G.T.b G.T.builtins G.T.nolimit hg empty notK code G.T.bmain hobj hints (Nat.le_trans hlen hn2) hr hF hb (fun H hH hS => hsp H a ns hlen hbits hH hS) fun H e s' => hCX w H s₁ e s'
theorem fn_false {P : Program} {w : World} {K : PySem.W.Frag} {mg : Str → Option Value} {base : Heap} {CX : CXT} {k : Nat} {f : Addr} {fd : FuncData} {ps : List Str} {dsp : DSp} (h : ∀ ws S Q E, dsp ws S Q E → False) : FnOk P w K mg base CX k f fd ps (uSp K dsp) :=
  ⟨fun _ _ _ _ ⟨_, _, _, _, _, _, q, _⟩ => (h _ _ _ _ q).elim, fun _ _ _ _ _ _ _ _ _ _ _ _ _ ⟨_, _, _, _, _, _, q, _⟩ => (h _ _ _ _ q).elim⟩
theorem all_mk {l : PySem.W.OpenLaw} {w : World} {K : PySem.W.Frag} {h : Heap} {mg : Str → Option Value} {fa : Addr} {prg : Program} (TF : TabFacts prg K h) (X : K.In h) (G : h.Ns mainGlobals mg) (hfa : mg "law" = some (.ref fa))
    {c_NoFlow f_NoFlow__init_ c_BadTime c_NoGround c_NoPlace c_NoProof c_NoKind c_BadText c_NoDeed c_NoRow c_TooMany c_NotDone c_NoBook c_NoCall c_NoEngine c_NoEngines c_NoLine c_NoJoin c_Late c_Inside c_Dead c_NoTeam c_NoWearer c_NoBoard c_NoText c_Nothing c_NoSaying c_Line f_law_bag f_is_whole f_is_whole_within f_are_within f_is_among f_is_tuple_within f_is_part f_are_parts f_Line__init_ f_law_take f_law_which f_law_said f_joins_of f_taken f_pressure_behind f_why_failing f_walked f_Line_pressures f_law_not_more f_law_ways f_law_plan f_parts_without f_Line_without f_law_less f_law_walked f_Line_holds f_Line_greatest f_law_share f_Line__len_ f_law_one_out cc_law_one_out tt_law_one_out f_law_small f_law_more f_Line__eq_ f_law_right cc_law_right tt_law_right f_law_source f_law_parts f_law : Addr} {fd_NoFlow__init_ fd_law_bag fd_is_whole fd_is_whole_within fd_are_within fd_is_among fd_is_tuple_within fd_is_part fd_are_parts fd_Line__init_ fd_law_take fd_law_which fd_law_said fd_joins_of fd_taken fd_pressure_behind fd_why_failing fd_walked fd_Line_pressures fd_law_not_more fd_law_ways fd_law_plan fd_parts_without fd_Line_without fd_law_less fd_law_walked fd_Line_holds fd_Line_greatest fd_law_share fd_Line__len_ fd_law_one_out fd_law_small fd_law_more fd_Line__eq_ fd_law_right fd_law_source fd_law_parts fd_law : FuncData} {dr_law_one_out dr_law_right : DefRec}
    (gC_NoFlow : PySem.W.nsIn K mainGlobals "NoFlow" = some (some (.ref c_NoFlow)))
    (cl_NoFlow : clsXB K c_NoFlow My.bt_ae "ArithmeticError.__new__" = true)
    (ov_NoFlow : PySem.W.excOver K c_NoFlow My.bt_ae = true)
    (se_NoFlow : PySem.W.findIn K (.ref c_NoFlow) "__setattr__" = some (some (.builtin "object.__setattr__")))
    (ke_NoFlow : PySem.W.keepIn K (.ref c_NoFlow) = true)
    (be_NoFlow : PySem.W.subIn K (.ref c_NoFlow) (.type "BaseException") = some true)
    (te_NoFlow : PySem.W.typeIn K (.ref c_NoFlow) = some (.type "type"))
    (nx_NoFlow_join : PySem.W.findIn K (.ref c_NoFlow) "join" = some none)
    (nx_NoFlow_why : PySem.W.findIn K (.ref c_NoFlow) "why" = some none)
    (hx_NoFlow : PySem.W.hasDictIn K c_NoFlow = true)
    (sx_NoFlow : PySem.W.subIn K (.ref c_NoFlow) (.ref c_NoFlow) = some true)
    (ix_NoFlow : PySem.W.findIn K (.ref c_NoFlow) "__init__" = some (some (.ref f_NoFlow__init_)))
    (ti_NoFlow : PySem.W.typeIn K (.ref f_NoFlow__init_) = some (.type "function"))
    (vV_NoFlow : PySem.W.findCls K (.type "ArithmeticError") (.type "type") "__init__" = some (.val (.builtin "ArithmeticError.__init__")))
    (D_NoFlow__init_ : FunD K "__init__" "NoFlow.__init__" (defArgs s_NoFlow__init_) (defBody s_NoFlow__init_) (defScope s_NoFlow__init_) [] [] f_NoFlow__init_ fd_NoFlow__init_)
    (gC_BadTime : PySem.W.nsIn K mainGlobals "BadTime" = some (some (.ref c_BadTime)))
    (gC_NoGround : PySem.W.nsIn K mainGlobals "NoGround" = some (some (.ref c_NoGround)))
    (gC_NoPlace : PySem.W.nsIn K mainGlobals "NoPlace" = some (some (.ref c_NoPlace)))
    (gC_NoProof : PySem.W.nsIn K mainGlobals "NoProof" = some (some (.ref c_NoProof)))
    (gC_NoKind : PySem.W.nsIn K mainGlobals "NoKind" = some (some (.ref c_NoKind)))
    (gC_BadText : PySem.W.nsIn K mainGlobals "BadText" = some (some (.ref c_BadText)))
    (gC_NoDeed : PySem.W.nsIn K mainGlobals "NoDeed" = some (some (.ref c_NoDeed)))
    (gC_NoRow : PySem.W.nsIn K mainGlobals "NoRow" = some (some (.ref c_NoRow)))
    (gC_TooMany : PySem.W.nsIn K mainGlobals "TooMany" = some (some (.ref c_TooMany)))
    (gC_NotDone : PySem.W.nsIn K mainGlobals "NotDone" = some (some (.ref c_NotDone)))
    (gC_NoBook : PySem.W.nsIn K mainGlobals "NoBook" = some (some (.ref c_NoBook)))
    (gC_NoCall : PySem.W.nsIn K mainGlobals "NoCall" = some (some (.ref c_NoCall)))
    (gC_NoEngine : PySem.W.nsIn K mainGlobals "NoEngine" = some (some (.ref c_NoEngine)))
    (gC_NoEngines : PySem.W.nsIn K mainGlobals "NoEngines" = some (some (.ref c_NoEngines)))
    (gC_NoLine : PySem.W.nsIn K mainGlobals "NoLine" = some (some (.ref c_NoLine)))
    (gC_NoJoin : PySem.W.nsIn K mainGlobals "NoJoin" = some (some (.ref c_NoJoin)))
    (gC_Late : PySem.W.nsIn K mainGlobals "Late" = some (some (.ref c_Late)))
    (gC_Inside : PySem.W.nsIn K mainGlobals "Inside" = some (some (.ref c_Inside)))
    (gC_Dead : PySem.W.nsIn K mainGlobals "Dead" = some (some (.ref c_Dead)))
    (gC_NoTeam : PySem.W.nsIn K mainGlobals "NoTeam" = some (some (.ref c_NoTeam)))
    (gC_NoWearer : PySem.W.nsIn K mainGlobals "NoWearer" = some (some (.ref c_NoWearer)))
    (gC_NoBoard : PySem.W.nsIn K mainGlobals "NoBoard" = some (some (.ref c_NoBoard)))
    (gC_NoText : PySem.W.nsIn K mainGlobals "NoText" = some (some (.ref c_NoText)))
    (gC_Nothing : PySem.W.nsIn K mainGlobals "Nothing" = some (some (.ref c_Nothing)))
    (gC_NoSaying : PySem.W.nsIn K mainGlobals "NoSaying" = some (some (.ref c_NoSaying)))
    (kk_NoFlow_BadTime : PySem.W.kitOne K (.ref c_NoFlow) (.ref c_BadTime) = some false)
    (kk_NoFlow_NoGround : PySem.W.kitOne K (.ref c_NoFlow) (.ref c_NoGround) = some false)
    (kk_NoFlow_NoPlace : PySem.W.kitOne K (.ref c_NoFlow) (.ref c_NoPlace) = some false)
    (kk_NoFlow_NoProof : PySem.W.kitOne K (.ref c_NoFlow) (.ref c_NoProof) = some false)
    (kk_NoFlow_NoKind : PySem.W.kitOne K (.ref c_NoFlow) (.ref c_NoKind) = some false)
    (kk_NoFlow_BadText : PySem.W.kitOne K (.ref c_NoFlow) (.ref c_BadText) = some false)
    (kk_NoFlow_NoDeed : PySem.W.kitOne K (.ref c_NoFlow) (.ref c_NoDeed) = some false)
    (kk_NoFlow_NoRow : PySem.W.kitOne K (.ref c_NoFlow) (.ref c_NoRow) = some false)
    (kk_NoFlow_TooMany : PySem.W.kitOne K (.ref c_NoFlow) (.ref c_TooMany) = some false)
    (kk_NoFlow_NotDone : PySem.W.kitOne K (.ref c_NoFlow) (.ref c_NotDone) = some false)
    (kk_NoFlow_NoBook : PySem.W.kitOne K (.ref c_NoFlow) (.ref c_NoBook) = some false)
    (kk_NoFlow_NoCall : PySem.W.kitOne K (.ref c_NoFlow) (.ref c_NoCall) = some false)
    (kk_NoFlow_NoEngine : PySem.W.kitOne K (.ref c_NoFlow) (.ref c_NoEngine) = some false)
    (kk_NoFlow_NoEngines : PySem.W.kitOne K (.ref c_NoFlow) (.ref c_NoEngines) = some false)
    (kk_NoFlow_NoLine : PySem.W.kitOne K (.ref c_NoFlow) (.ref c_NoLine) = some false)
    (kk_NoFlow_NoJoin : PySem.W.kitOne K (.ref c_NoFlow) (.ref c_NoJoin) = some false)
    (kk_NoFlow_NoFlow : PySem.W.kitOne K (.ref c_NoFlow) (.ref c_NoFlow) = some true)
    (kk_NoFlow_Late : PySem.W.kitOne K (.ref c_NoFlow) (.ref c_Late) = some false)
    (kk_NoFlow_Inside : PySem.W.kitOne K (.ref c_NoFlow) (.ref c_Inside) = some false)
    (kk_NoFlow_Dead : PySem.W.kitOne K (.ref c_NoFlow) (.ref c_Dead) = some false)
    (kk_NoFlow_NoTeam : PySem.W.kitOne K (.ref c_NoFlow) (.ref c_NoTeam) = some false)
    (kk_NoFlow_NoWearer : PySem.W.kitOne K (.ref c_NoFlow) (.ref c_NoWearer) = some false)
    (kk_NoFlow_NoBoard : PySem.W.kitOne K (.ref c_NoFlow) (.ref c_NoBoard) = some false)
    (kk_NoFlow_NoText : PySem.W.kitOne K (.ref c_NoFlow) (.ref c_NoText) = some false)
    (kk_NoFlow_Nothing : PySem.W.kitOne K (.ref c_NoFlow) (.ref c_Nothing) = some false)
    (kk_NoFlow_NoSaying : PySem.W.kitOne K (.ref c_NoFlow) (.ref c_NoSaying) = some false)
    (kb_NoFlow_ArithmeticError : PySem.W.kitOne K (.ref c_NoFlow) (.type "ArithmeticError") = some true)
    (x1_NoFlow : PySem.W.findIn K (.ref c_NoFlow) "__getattribute__" = some (some (.builtin "BaseException.__getattribute__")))
    (x2_NoFlow : PySem.W.findIn K (.ref c_NoFlow) "__getattr__" = some none)
    (x5_NoFlow : PySem.W.findIn K (.ref c_NoFlow) "__class__" = some (some (.builtin "object.__class__")))
    (x8_NoFlow : PySem.W.mroIn K c_NoFlow (.type "object") = some true)
    (gC_Line : PySem.W.nsIn K mainGlobals "Line" = some (some (.ref c_Line)))
    (pg_Line : PySem.W.plainGet K c_Line Str.empty = true)
    (hdC_Line : PySem.W.hasDictIn K c_Line = true)
    (po_Line : PySem.W.plainOver K c_Line = true)
    (sa_Line : PySem.W.findIn K (.ref c_Line) "__setattr__" = some (some (.builtin "object.__setattr__")))
    (na_Line_source : PySem.W.findIn K (.ref c_Line) "source" = some none)
    (na_Line_parts : PySem.W.findIn K (.ref c_Line) "parts" = some none)
    (mk_Line : PySem.W.makesIn K c_Line = true)
    (in_Line : PySem.W.findIn K (.ref c_Line) "__init__" = some (some (.ref f_Line__init_)))
    (if_Line : PySem.W.isFn K (.ref f_Line__init_) = true)
    (kp_Line : PySem.W.keepIn K (.ref c_Line) = true)
    (a_law_bag : PySem.W.nsIn K mainGlobals "_law_bag" = some (some (.ref f_law_bag)))
    (D_law_bag : FunD K "_law_bag" "_law_bag" (defArgs s_law_bag) (defBody s_law_bag) (defScope s_law_bag) [] [] f_law_bag fd_law_bag)
    (a_is_whole : PySem.W.nsIn K mainGlobals "is_whole" = some (some (.ref f_is_whole)))
    (D_is_whole : FunD K "is_whole" "is_whole" (defArgs s_is_whole) (defBody s_is_whole) (defScope s_is_whole) [] [] f_is_whole fd_is_whole)
    (a_is_whole_within : PySem.W.nsIn K mainGlobals "is_whole_within" = some (some (.ref f_is_whole_within)))
    (D_is_whole_within : FunD K "is_whole_within" "is_whole_within" (defArgs s_is_whole_within) (defBody s_is_whole_within) (defScope s_is_whole_within) [] [] f_is_whole_within fd_is_whole_within)
    (a_are_within : PySem.W.nsIn K mainGlobals "are_within" = some (some (.ref f_are_within)))
    (D_are_within : FunD K "are_within" "are_within" (defArgs s_are_within) (defBody s_are_within) (defScope s_are_within) [] [] f_are_within fd_are_within)
    (a_is_among : PySem.W.nsIn K mainGlobals "is_among" = some (some (.ref f_is_among)))
    (D_is_among : FunD K "is_among" "is_among" (defArgs s_is_among) (defBody s_is_among) (defScope s_is_among) [] [] f_is_among fd_is_among)
    (a_is_tuple_within : PySem.W.nsIn K mainGlobals "is_tuple_within" = some (some (.ref f_is_tuple_within)))
    (D_is_tuple_within : FunD K "is_tuple_within" "is_tuple_within" (defArgs s_is_tuple_within) (defBody s_is_tuple_within) (defScope s_is_tuple_within) [] [] f_is_tuple_within fd_is_tuple_within)
    (a_is_part : PySem.W.nsIn K mainGlobals "is_part" = some (some (.ref f_is_part)))
    (D_is_part : FunD K "is_part" "is_part" (defArgs s_is_part) (defBody s_is_part) (defScope s_is_part) [] [] f_is_part fd_is_part)
    (a_are_parts : PySem.W.nsIn K mainGlobals "are_parts" = some (some (.ref f_are_parts)))
    (D_are_parts : FunD K "are_parts" "are_parts" (defArgs s_are_parts) (defBody s_are_parts) (defScope s_are_parts) [] [] f_are_parts fd_are_parts)
    (D_Line__init_ : FunD K "__init__" "Line.__init__" (defArgs s_Line__init_) (defBody s_Line__init_) (defScope s_Line__init_) [] [] f_Line__init_ fd_Line__init_)
    (a_law_take : PySem.W.nsIn K mainGlobals "_law_take" = some (some (.ref f_law_take)))
    (D_law_take : FunD K "_law_take" "_law_take" (defArgs s_law_take) (defBody s_law_take) (defScope s_law_take) [] [] f_law_take fd_law_take)
    (a_law_which : PySem.W.nsIn K mainGlobals "_law_which" = some (some (.ref f_law_which)))
    (D_law_which : FunD K "_law_which" "_law_which" (defArgs s_law_which) (defBody s_law_which) (defScope s_law_which) [] [] f_law_which fd_law_which)
    (a_law_said : PySem.W.nsIn K mainGlobals "_law_said" = some (some (.ref f_law_said)))
    (D_law_said : FunD K "_law_said" "_law_said" (defArgs s_law_said) (defBody s_law_said) (defScope s_law_said) [] [] f_law_said fd_law_said)
    (a_joins_of : PySem.W.nsIn K mainGlobals "joins_of" = some (some (.ref f_joins_of)))
    (D_joins_of : FunD K "joins_of" "joins_of" (defArgs s_joins_of) (defBody s_joins_of) (defScope s_joins_of) [] [] f_joins_of fd_joins_of)
    (a_taken : PySem.W.nsIn K mainGlobals "taken" = some (some (.ref f_taken)))
    (D_taken : FunD K "taken" "taken" (defArgs s_taken) (defBody s_taken) (defScope s_taken) [] [] f_taken fd_taken)
    (a_pressure_behind : PySem.W.nsIn K mainGlobals "pressure_behind" = some (some (.ref f_pressure_behind)))
    (D_pressure_behind : FunD K "pressure_behind" "pressure_behind" (defArgs s_pressure_behind) (defBody s_pressure_behind) (defScope s_pressure_behind) [] [] f_pressure_behind fd_pressure_behind)
    (a_why_failing : PySem.W.nsIn K mainGlobals "why_failing" = some (some (.ref f_why_failing)))
    (D_why_failing : FunD K "why_failing" "why_failing" (defArgs s_why_failing) (defBody s_why_failing) (defScope s_why_failing) [] [] f_why_failing fd_why_failing)
    (a_walked : PySem.W.nsIn K mainGlobals "walked" = some (some (.ref f_walked)))
    (D_walked : FunD K "walked" "walked" (defArgs s_walked) (defBody s_walked) (defScope s_walked) [] [] f_walked fd_walked)
    (me_Line_pressures : PySem.W.findIn K (.ref c_Line) "pressures" = some (some (.ref f_Line_pressures)))
    (D_Line_pressures : FunD K "pressures" "Line.pressures" (defArgs s_Line_pressures) (defBody s_Line_pressures) (defScope s_Line_pressures) [.int 100] [] f_Line_pressures fd_Line_pressures)
    (mi_Line_pressures : PySem.W.isFn K (.ref f_Line_pressures) = true)
    (a_law_not_more : PySem.W.nsIn K mainGlobals "_law_not_more" = some (some (.ref f_law_not_more)))
    (D_law_not_more : FunD K "_law_not_more" "_law_not_more" (defArgs s_law_not_more) (defBody s_law_not_more) (defScope s_law_not_more) [] [] f_law_not_more fd_law_not_more)
    (a_law_ways : PySem.W.nsIn K mainGlobals "_law_ways" = some (some (.ref f_law_ways)))
    (D_law_ways : FunD K "_law_ways" "_law_ways" (defArgs s_law_ways) (defBody s_law_ways) (defScope s_law_ways) [] [] f_law_ways fd_law_ways)
    (a_law_plan : PySem.W.nsIn K mainGlobals "_law_plan" = some (some (.ref f_law_plan)))
    (D_law_plan : FunD K "_law_plan" "_law_plan" (defArgs s_law_plan) (defBody s_law_plan) (defScope s_law_plan) [] [] f_law_plan fd_law_plan)
    (a_parts_without : PySem.W.nsIn K mainGlobals "parts_without" = some (some (.ref f_parts_without)))
    (D_parts_without : FunD K "parts_without" "parts_without" (defArgs s_parts_without) (defBody s_parts_without) (defScope s_parts_without) [] [] f_parts_without fd_parts_without)
    (me_Line_without : PySem.W.findIn K (.ref c_Line) "without" = some (some (.ref f_Line_without)))
    (D_Line_without : FunD K "without" "Line.without" (defArgs s_Line_without) (defBody s_Line_without) (defScope s_Line_without) [] [] f_Line_without fd_Line_without)
    (mi_Line_without : PySem.W.isFn K (.ref f_Line_without) = true)
    (a_law_less : PySem.W.nsIn K mainGlobals "_law_less" = some (some (.ref f_law_less)))
    (D_law_less : FunD K "_law_less" "_law_less" (defArgs s_law_less) (defBody s_law_less) (defScope s_law_less) [] [] f_law_less fd_law_less)
    (a_law_walked : PySem.W.nsIn K mainGlobals "_law_walked" = some (some (.ref f_law_walked)))
    (D_law_walked : FunD K "_law_walked" "_law_walked" (defArgs s_law_walked) (defBody s_law_walked) (defScope s_law_walked) [] [] f_law_walked fd_law_walked)
    (me_Line_holds : PySem.W.findIn K (.ref c_Line) "holds" = some (some (.ref f_Line_holds)))
    (D_Line_holds : FunD K "holds" "Line.holds" (defArgs s_Line_holds) (defBody s_Line_holds) (defScope s_Line_holds) [] [] f_Line_holds fd_Line_holds)
    (mi_Line_holds : PySem.W.isFn K (.ref f_Line_holds) = true)
    (me_Line_greatest : PySem.W.findIn K (.ref c_Line) "greatest" = some (some (.ref f_Line_greatest)))
    (D_Line_greatest : FunD K "greatest" "Line.greatest" (defArgs s_Line_greatest) (defBody s_Line_greatest) (defScope s_Line_greatest) [] [] f_Line_greatest fd_Line_greatest)
    (mi_Line_greatest : PySem.W.isFn K (.ref f_Line_greatest) = true)
    (a_law_share : PySem.W.nsIn K mainGlobals "_law_share" = some (some (.ref f_law_share)))
    (D_law_share : FunD K "_law_share" "_law_share" (defArgs s_law_share) (defBody s_law_share) (defScope s_law_share) [] [] f_law_share fd_law_share)
    (me_Line__len_ : PySem.W.findIn K (.ref c_Line) "__len__" = some (some (.ref f_Line__len_)))
    (D_Line__len_ : FunD K "__len__" "Line.__len__" (defArgs s_Line__len_) (defBody s_Line__len_) (defScope s_Line__len_) [] [] f_Line__len_ fd_Line__len_)
    (mi_Line__len_ : PySem.W.isFn K (.ref f_Line__len_) = true)
    (a_law_one_out : PySem.W.nsIn K mainGlobals "_law_one_out" = some (some (.ref f_law_one_out)))
    (D_law_one_out : FunD K "_law_one_out" "_law_one_out" (defArgs s_law_one_out) (defBody s_law_one_out) (defScope s_law_one_out) [] [] f_law_one_out fd_law_one_out)
    (tk_law_one_out : PySem.W.tabIn K "_law_one_out" = some (cc_law_one_out, tt_law_one_out))
    (tr_law_one_out : (recsOf prg).find? (fun e => e.name == ("_law_one_out" : Str)) = some dr_law_one_out)
    (tn_law_one_out : K.lookup tt_law_one_out = none)
    (a_law_small : PySem.W.nsIn K mainGlobals "_law_small" = some (some (.ref f_law_small)))
    (D_law_small : FunD K "_law_small" "_law_small" (defArgs s_law_small) (defBody s_law_small) (defScope s_law_small) [] [] f_law_small fd_law_small)
    (a_law_more : PySem.W.nsIn K mainGlobals "_law_more" = some (some (.ref f_law_more)))
    (D_law_more : FunD K "_law_more" "_law_more" (defArgs s_law_more) (defBody s_law_more) (defScope s_law_more) [] [] f_law_more fd_law_more)
    (me_Line__eq_ : PySem.W.findIn K (.ref c_Line) "__eq__" = some (some (.ref f_Line__eq_)))
    (D_Line__eq_ : FunD K "__eq__" "Line.__eq__" (defArgs s_Line__eq_) (defBody s_Line__eq_) (defScope s_Line__eq_) [] [] f_Line__eq_ fd_Line__eq_)
    (mi_Line__eq_ : PySem.W.isFn K (.ref f_Line__eq_) = true)
    (a_law_right : PySem.W.nsIn K mainGlobals "_law_right" = some (some (.ref f_law_right)))
    (D_law_right : FunD K "_law_right" "_law_right" (defArgs s_law_right) (defBody s_law_right) (defScope s_law_right) [] [] f_law_right fd_law_right)
    (tk_law_right : PySem.W.tabIn K "_law_right" = some (cc_law_right, tt_law_right))
    (tr_law_right : (recsOf prg).find? (fun e => e.name == ("_law_right" : Str)) = some dr_law_right)
    (tn_law_right : K.lookup tt_law_right = none)
    (tne_law_right_law_one_out : tt_law_right ≠ tt_law_one_out)
    (a_law_source : PySem.W.nsIn K mainGlobals "_law_source" = some (some (.ref f_law_source)))
    (D_law_source : FunD K "_law_source" "_law_source" (defArgs s_law_source) (defBody s_law_source) (defScope s_law_source) [] [] f_law_source fd_law_source)
    (a_law_parts : PySem.W.nsIn K mainGlobals "_law_parts" = some (some (.ref f_law_parts)))
    (D_law_parts : FunD K "_law_parts" "_law_parts" (defArgs s_law_parts) (defBody s_law_parts) (defScope s_law_parts) [] [] f_law_parts fd_law_parts)
    (a_law : PySem.W.nsIn K mainGlobals "law" = some (some (.ref f_law)))
    (D_law : FunD K "law" "law" (defArgs s_law) (defBody s_law) (defScope s_law) [] [] f_law fd_law)
    (e6 : PySem.W.specialIn K (.builtin "object.__class__") "__get__" = some (some (.builtin "getset_descriptor.__get__")))
    (e7 : PySem.W.takesIn K (.builtin "object.__class__") = some true)
    (e5_Line : PySem.W.findIn K (.ref c_Line) "__class__" = some (some (.builtin "object.__class__")))
    (e8_Line : PySem.W.mroIn K c_Line (.type "object") = some true)
    (kt_Line : PySem.W.kitOne K (.ref c_Line) (.ref c_Line) = some true)
    (ne_Line : PySem.W.findIn K (.ref c_Line) "__ne__" = some (some (.builtin "object.__ne__")))
    (kf_Line_NoneType : PySem.W.kitOne K (.type "NoneType") (.ref c_Line) = some false)
    (nf_Line_NoneType : PySem.W.notFirst K c_Line (.type "NoneType") = true)
    (kf_Line_bool : PySem.W.kitOne K (.type "bool") (.ref c_Line) = some false)
    (nf_Line_bool : PySem.W.notFirst K c_Line (.type "bool") = true)
    (kf_Line_tuple : PySem.W.kitOne K (.type "tuple") (.ref c_Line) = some false)
    (nf_Line_tuple : PySem.W.notFirst K c_Line (.type "tuple") = true)
    (kf_Line_str : PySem.W.kitOne K (.type "str") (.ref c_Line) = some false)
    (nf_Line_str : PySem.W.notFirst K c_Line (.type "str") = true)
    (kf_Line_int : PySem.W.kitOne K (.type "int") (.ref c_Line) = some false)
    (nf_Line_int : PySem.W.notFirst K c_Line (.type "int") = true)
    (kf_Line_list : PySem.W.kitOne K (.type "list") (.ref c_Line) = some false)
    (nf_Line_list : PySem.W.notFirst K c_Line (.type "list") = true)
    (z_len : PySem.W.nsIn K mainGlobals "len" = some none)
    (z_abs : PySem.W.nsIn K mainGlobals "abs" = some none)
    (z_all : PySem.W.nsIn K mainGlobals "all" = some none)
    (z_str : PySem.W.nsIn K mainGlobals "str" = some none)
    (z_int : PySem.W.nsIn K mainGlobals "int" = some none)
    (z_isinstance : PySem.W.nsIn K mainGlobals "isinstance" = some none)
    (z_range : PySem.W.nsIn K mainGlobals "range" = some none)
    (z_max : PySem.W.nsIn K mainGlobals "max" = some none)
    (z_min : PySem.W.nsIn K mainGlobals "min" = some none)
    (z_bool : PySem.W.nsIn K mainGlobals "bool" = some none)
    (z_list : PySem.W.nsIn K mainGlobals "list" = some none)
    (z_tuple : PySem.W.nsIn K mainGlobals "tuple" = some none)
    (z_zip : PySem.W.nsIn K mainGlobals "zip" = some none)
    (z_enumerate : PySem.W.nsIn K mainGlobals "enumerate" = some none)
    (z_sum : PySem.W.nsIn K mainGlobals "sum" = some none)
    (z_ArithmeticError : PySem.W.nsIn K mainGlobals "ArithmeticError" = some none)
    (z_IndexError : PySem.W.nsIn K mainGlobals "IndexError" = some none)
    (gw_SOURCES : GW K mg "SOURCES" (CvX.w (.tup [.tup [.str "hydrant", .tup [.tup [.int 0, .int 150], .tup [.int 1, .int 5000]]], .tup [.str "pond", .tup [.tup [.int 0, .int 8]]]])))
    (gw_JOINS : GW K mg "JOINS" (CvX.w (.tup [.tup [.str "hose", .tup [.tup [.int 1, .int 20], .tup [.int (-60), .int 60]]], .tup [.str "pump", .tup [.tup [.int 0, .int 120], .tup [.int 1, .int 5000]]], .tup [.str "leak", .tup [.tup [.int 0, .int 1000]]], .tup [.str "nozzle", .tup [.tup [.int 0, .int 2000], .tup [.int 0, .int 100]]]])))
    (gw_MOST_PARTS : GW K mg "MOST_PARTS" (CvX.w (.int 8)))
    (gw_MOST_FORKS : GW K mg "MOST_FORKS" (CvX.w (.int 3)))
    (gw_WHOLE_SHARE : GW K mg "WHOLE_SHARE" (CvX.w (.int 100)))
    (gw_LEAST_IN_HOSE : GW K mg "LEAST_IN_HOSE" (CvX.w (.int (-70))))
    (gw_MOST_BEHIND_PUMP : GW K mg "MOST_BEHIND_PUMP" (CvX.w (.int 120)))
    (gw_HOSE_DIVISOR : GW K mg "HOSE_DIVISOR" (CvX.w (.int 40000))) :
    LamX.LawAtS l w K CX0 18 63 "_law_script" mg fa h := by
  have e := hfa.symm.trans (PySem.W.mg_of X G a_law)
  cases e
  have gx_NoFlow := PySem.W.mg_of X G gC_NoFlow
  have GX_NoFlow : My.Gx_ae K c_NoFlow := ⟨clsXB_ok cl_NoFlow, ov_NoFlow, se_NoFlow, be_NoFlow, te_NoFlow, ke_NoFlow⟩
  have ex_NoFlow := PySem.W.exm_ref be_NoFlow hx_NoFlow te_NoFlow sx_NoFlow
  have F_NoFlow__init_ : Fun K "__init__" "NoFlow.__init__" s_NoFlow__init_ _ _ := fun_of D_NoFlow__init_
  have k_NoFlow__init_ := D_NoFlow__init_.kp
  have b_NoFlow__init_ := F_NoFlow__init_.binds (ps := ["self", "join", "why"]) fun _ _ _ _ _ _ us hl => match us, hl with | [_, _, _], _ => rfl
  have gx_BadTime := PySem.W.mg_of X G gC_BadTime
  have gx_NoGround := PySem.W.mg_of X G gC_NoGround
  have gx_NoPlace := PySem.W.mg_of X G gC_NoPlace
  have gx_NoProof := PySem.W.mg_of X G gC_NoProof
  have gx_NoKind := PySem.W.mg_of X G gC_NoKind
  have gx_BadText := PySem.W.mg_of X G gC_BadText
  have gx_NoDeed := PySem.W.mg_of X G gC_NoDeed
  have gx_NoRow := PySem.W.mg_of X G gC_NoRow
  have gx_TooMany := PySem.W.mg_of X G gC_TooMany
  have gx_NotDone := PySem.W.mg_of X G gC_NotDone
  have gx_NoBook := PySem.W.mg_of X G gC_NoBook
  have gx_NoCall := PySem.W.mg_of X G gC_NoCall
  have gx_NoEngine := PySem.W.mg_of X G gC_NoEngine
  have gx_NoEngines := PySem.W.mg_of X G gC_NoEngines
  have gx_NoLine := PySem.W.mg_of X G gC_NoLine
  have gx_NoJoin := PySem.W.mg_of X G gC_NoJoin
  have gx_Late := PySem.W.mg_of X G gC_Late
  have gx_Inside := PySem.W.mg_of X G gC_Inside
  have gx_Dead := PySem.W.mg_of X G gC_Dead
  have gx_NoTeam := PySem.W.mg_of X G gC_NoTeam
  have gx_NoWearer := PySem.W.mg_of X G gC_NoWearer
  have gx_NoBoard := PySem.W.mg_of X G gC_NoBoard
  have gx_NoText := PySem.W.mg_of X G gC_NoText
  have gx_Nothing := PySem.W.mg_of X G gC_Nothing
  have gx_NoSaying := PySem.W.mg_of X G gC_NoSaying
  have G_Line := PySem.W.mg_of X G gC_Line
  have Mk_Line : Mk K c_Line f_Line__init_ := ⟨mk_Line, in_Line, if_Line, kp_Line⟩
  have F_law_bag : Fun K "_law_bag" "_law_bag" s_law_bag _ _ := fun_of D_law_bag
  have k_law_bag := D_law_bag.kp
  have b_law_bag := F_law_bag.binds (ps := ["_law_script", "_law_at"]) fun _ _ _ _ _ _ us hl => match us, hl with | [_, _], _ => rfl
  have g_law_bag := PySem.W.mg_of X G a_law_bag
  have F_is_whole : Fun K "is_whole" "is_whole" s_is_whole _ _ := fun_of D_is_whole
  have k_is_whole := D_is_whole.kp
  have b_is_whole := F_is_whole.binds (ps := ["thing"]) fun _ _ _ _ _ _ us hl => match us, hl with | [_], _ => rfl
  have g_is_whole := PySem.W.mg_of X G a_is_whole
  have F_is_whole_within : Fun K "is_whole_within" "is_whole_within" s_is_whole_within _ _ := fun_of D_is_whole_within
  have k_is_whole_within := D_is_whole_within.kp
  have b_is_whole_within := F_is_whole_within.binds (ps := ["thing", "least", "most"]) fun _ _ _ _ _ _ us hl => match us, hl with | [_, _, _], _ => rfl
  have g_is_whole_within := PySem.W.mg_of X G a_is_whole_within
  have F_are_within : Fun K "are_within" "are_within" s_are_within _ _ := fun_of D_are_within
  have k_are_within := D_are_within.kp
  have b_are_within := F_are_within.binds (ps := ["bounds", "numbers"]) fun _ _ _ _ _ _ us hl => match us, hl with | [_, _], _ => rfl
  have g_are_within := PySem.W.mg_of X G a_are_within
  have F_is_among : Fun K "is_among" "is_among" s_is_among _ _ := fun_of D_is_among
  have k_is_among := D_is_among.kp
  have b_is_among := F_is_among.binds (ps := ["sorts", "thing"]) fun _ _ _ _ _ _ us hl => match us, hl with | [_, _], _ => rfl
  have g_is_among := PySem.W.mg_of X G a_is_among
  have F_is_tuple_within : Fun K "is_tuple_within" "is_tuple_within" s_is_tuple_within _ _ := fun_of D_is_tuple_within
  have k_is_tuple_within := D_is_tuple_within.kp
  have b_is_tuple_within := F_is_tuple_within.binds (ps := ["thing", "least", "most"]) fun _ _ _ _ _ _ us hl => match us, hl with | [_, _, _], _ => rfl
  have g_is_tuple_within := PySem.W.mg_of X G a_is_tuple_within
  have F_is_part : Fun K "is_part" "is_part" s_is_part _ _ := fun_of D_is_part
  have k_is_part := D_is_part.kp
  have b_is_part := F_is_part.binds (ps := ["thing", "is_last", "forks"]) fun _ _ _ _ _ _ us hl => match us, hl with | [_, _, _], _ => rfl
  have g_is_part := PySem.W.mg_of X G a_is_part
  have F_are_parts : Fun K "are_parts" "are_parts" s_are_parts _ _ := fun_of D_are_parts
  have k_are_parts := D_are_parts.kp
  have b_are_parts := F_are_parts.binds (ps := ["thing", "forks"]) fun _ _ _ _ _ _ us hl => match us, hl with | [_, _], _ => rfl
  have g_are_parts := PySem.W.mg_of X G a_are_parts
  have F_Line__init_ : Fun K "__init__" "Line.__init__" s_Line__init_ _ _ := fun_of D_Line__init_
  have k_Line__init_ := D_Line__init_.kp
  have b_Line__init_ := F_Line__init_.binds (ps := ["self", "source", "parts"]) fun _ _ _ _ _ _ us hl => match us, hl with | [_, _, _], _ => rfl
  have F_law_take : Fun K "_law_take" "_law_take" s_law_take _ _ := fun_of D_law_take
  have k_law_take := D_law_take.kp
  have b_law_take := F_law_take.binds (ps := ["_law_bag_here", "_law_many"]) fun _ _ _ _ _ _ us hl => match us, hl with | [_, _], _ => rfl
  have g_law_take := PySem.W.mg_of X G a_law_take
  have F_law_which : Fun K "_law_which" "_law_which" s_law_which _ _ := fun_of D_law_which
  have k_law_which := D_law_which.kp
  have b_law_which := F_law_which.binds (ps := ["_law_e"]) fun _ _ _ _ _ _ us hl => match us, hl with | [_], _ => rfl
  have g_law_which := PySem.W.mg_of X G a_law_which
  have F_law_said : Fun K "_law_said" "_law_said" s_law_said _ _ := fun_of D_law_said
  have k_law_said := D_law_said.kp
  have b_law_said := F_law_said.binds (ps := ["_law_deed"]) fun _ _ _ _ _ _ us hl => match us, hl with | [_], _ => rfl
  have g_law_said := PySem.W.mg_of X G a_law_said
  have F_joins_of : Fun K "joins_of" "joins_of" s_joins_of _ _ := fun_of D_joins_of
  have k_joins_of := D_joins_of.kp
  have b_joins_of := F_joins_of.binds (ps := ["parts"]) fun _ _ _ _ _ _ us hl => match us, hl with | [_], _ => rfl
  have g_joins_of := PySem.W.mg_of X G a_joins_of
  have F_taken : Fun K "taken" "taken" s_taken _ _ := fun_of D_taken
  have k_taken := D_taken.kp
  have b_taken := F_taken.binds (ps := ["parts", "share"]) fun _ _ _ _ _ _ us hl => match us, hl with | [_, _], _ => rfl
  have g_taken := PySem.W.mg_of X G a_taken
  have F_pressure_behind : Fun K "pressure_behind" "pressure_behind" s_pressure_behind _ _ := fun_of D_pressure_behind
  have k_pressure_behind := D_pressure_behind.kp
  have b_pressure_behind := F_pressure_behind.binds (ps := ["join", "pressure", "flow"]) fun _ _ _ _ _ _ us hl => match us, hl with | [_, _, _], _ => rfl
  have g_pressure_behind := PySem.W.mg_of X G a_pressure_behind
  have F_why_failing : Fun K "why_failing" "why_failing" s_why_failing _ _ := fun_of D_why_failing
  have k_why_failing := D_why_failing.kp
  have b_why_failing := F_why_failing.binds (ps := ["join", "pressure", "flow"]) fun _ _ _ _ _ _ us hl => match us, hl with | [_, _, _], _ => rfl
  have g_why_failing := PySem.W.mg_of X G a_why_failing
  have F_walked : Fun K "walked" "walked" s_walked _ _ := fun_of D_walked
  have k_walked := D_walked.kp
  have b_walked := F_walked.binds (ps := ["parts", "pressure", "share", "passed"]) fun _ _ _ _ _ _ us hl => match us, hl with | [_, _, _, _], _ => rfl
  have g_walked := PySem.W.mg_of X G a_walked
  have F_Line_pressures := D_Line_pressures
  have k_Line_pressures := D_Line_pressures.kp
  have Me_Line_pressures : Meth K c_Line "pressures" f_Line_pressures := ⟨me_Line_pressures, mi_Line_pressures, k_Line_pressures⟩
  have F_law_not_more : Fun K "_law_not_more" "_law_not_more" s_law_not_more _ _ := fun_of D_law_not_more
  have k_law_not_more := D_law_not_more.kp
  have b_law_not_more := F_law_not_more.binds (ps := ["_law_one", "_law_other"]) fun _ _ _ _ _ _ us hl => match us, hl with | [_, _], _ => rfl
  have g_law_not_more := PySem.W.mg_of X G a_law_not_more
  have F_law_ways : Fun K "_law_ways" "_law_ways" s_law_ways _ _ := fun_of D_law_ways
  have k_law_ways := D_law_ways.kp
  have b_law_ways := F_law_ways.binds (ps := ["_law_tail", "_law_margin"]) fun _ _ _ _ _ _ us hl => match us, hl with | [_, _], _ => rfl
  have g_law_ways := PySem.W.mg_of X G a_law_ways
  have F_law_plan : Fun K "_law_plan" "_law_plan" s_law_plan _ _ := fun_of D_law_plan
  have k_law_plan := D_law_plan.kp
  have b_law_plan := F_law_plan.binds (ps := ["_law_tail"]) fun _ _ _ _ _ _ us hl => match us, hl with | [_], _ => rfl
  have g_law_plan := PySem.W.mg_of X G a_law_plan
  have F_parts_without : Fun K "parts_without" "parts_without" s_parts_without _ _ := fun_of D_parts_without
  have k_parts_without := D_parts_without.kp
  have b_parts_without := F_parts_without.binds (ps := ["parts", "join"]) fun _ _ _ _ _ _ us hl => match us, hl with | [_, _], _ => rfl
  have g_parts_without := PySem.W.mg_of X G a_parts_without
  have F_Line_without : Fun K "without" "Line.without" s_Line_without _ _ := fun_of D_Line_without
  have k_Line_without := D_Line_without.kp
  have b_Line_without := F_Line_without.binds (ps := ["self", "join"]) fun _ _ _ _ _ _ us hl => match us, hl with | [_, _], _ => rfl
  have Me_Line_without : Meth K c_Line "without" f_Line_without := ⟨me_Line_without, mi_Line_without, k_Line_without⟩
  have F_law_less : Fun K "_law_less" "_law_less" s_law_less _ _ := fun_of D_law_less
  have k_law_less := D_law_less.kp
  have b_law_less := F_law_less.binds (ps := ["_law_tail", "_law_number"]) fun _ _ _ _ _ _ us hl => match us, hl with | [_, _], _ => rfl
  have g_law_less := PySem.W.mg_of X G a_law_less
  have F_law_walked : Fun K "_law_walked" "_law_walked" s_law_walked _ _ := fun_of D_law_walked
  have k_law_walked := D_law_walked.kp
  have b_law_walked := F_law_walked.binds (ps := ["_law_head", "_law_plan_here", "_law_part_of"]) fun _ _ _ _ _ _ us hl => match us, hl with | [_, _, _], _ => rfl
  have g_law_walked := PySem.W.mg_of X G a_law_walked
  have F_Line_holds : Fun K "holds" "Line.holds" s_Line_holds _ _ := fun_of D_Line_holds
  have k_Line_holds := D_Line_holds.kp
  have b_Line_holds := F_Line_holds.binds (ps := ["self", "share"]) fun _ _ _ _ _ _ us hl => match us, hl with | [_, _], _ => rfl
  have Me_Line_holds : Meth K c_Line "holds" f_Line_holds := ⟨me_Line_holds, mi_Line_holds, k_Line_holds⟩
  have F_Line_greatest : Fun K "greatest" "Line.greatest" s_Line_greatest _ _ := fun_of D_Line_greatest
  have k_Line_greatest := D_Line_greatest.kp
  have b_Line_greatest := F_Line_greatest.binds (ps := ["self"]) fun _ _ _ _ _ _ us hl => match us, hl with | [_], _ => rfl
  have Me_Line_greatest : Meth K c_Line "greatest" f_Line_greatest := ⟨me_Line_greatest, mi_Line_greatest, k_Line_greatest⟩
  have F_law_share : Fun K "_law_share" "_law_share" s_law_share _ _ := fun_of D_law_share
  have k_law_share := D_law_share.kp
  have b_law_share := F_law_share.binds (ps := ["_law_line"]) fun _ _ _ _ _ _ us hl => match us, hl with | [_], _ => rfl
  have g_law_share := PySem.W.mg_of X G a_law_share
  have F_Line__len_ : Fun K "__len__" "Line.__len__" s_Line__len_ _ _ := fun_of D_Line__len_
  have k_Line__len_ := D_Line__len_.kp
  have b_Line__len_ := F_Line__len_.binds (ps := ["self"]) fun _ _ _ _ _ _ us hl => match us, hl with | [_], _ => rfl
  have Me_Line__len_ : Meth K c_Line "__len__" f_Line__len_ := ⟨me_Line__len_, mi_Line__len_, k_Line__len_⟩
  have F_law_one_out : Fun K "_law_one_out" "_law_one_out" s_law_one_out _ _ := fun_of D_law_one_out
  have k_law_one_out := D_law_one_out.kp
  have b_law_one_out := F_law_one_out.binds (ps := ["_law_bag_here", "_law_line", "_law_head", "_law_tail", "_law_part_of"]) fun _ _ _ _ _ _ us hl => match us, hl with | [_, _, _, _, _], _ => rfl
  have g_law_one_out := PySem.W.mg_of X G a_law_one_out
  have hcode_law_one_out := code_of X G tk_law_one_out g_law_one_out F_law_one_out
  have F_law_small : Fun K "_law_small" "_law_small" s_law_small _ _ := fun_of D_law_small
  have k_law_small := D_law_small.kp
  have b_law_small := F_law_small.binds (ps := ["_law_tail"]) fun _ _ _ _ _ _ us hl => match us, hl with | [_], _ => rfl
  have g_law_small := PySem.W.mg_of X G a_law_small
  have F_law_more : Fun K "_law_more" "_law_more" s_law_more _ _ := fun_of D_law_more
  have k_law_more := D_law_more.kp
  have b_law_more := F_law_more.binds (ps := ["_law_bag_here", "_law_tail", "_law_new"]) fun _ _ _ _ _ _ us hl => match us, hl with | [_, _, _], _ => rfl
  have g_law_more := PySem.W.mg_of X G a_law_more
  have F_Line__eq_ : Fun K "__eq__" "Line.__eq__" s_Line__eq_ _ _ := fun_of D_Line__eq_
  have k_Line__eq_ := D_Line__eq_.kp
  have b_Line__eq_ := F_Line__eq_.binds (ps := ["self", "other"]) fun _ _ _ _ _ _ us hl => match us, hl with | [_, _], _ => rfl
  have Me_Line__eq_ : Meth K c_Line "__eq__" f_Line__eq_ := ⟨me_Line__eq_, mi_Line__eq_, k_Line__eq_⟩
  have F_law_right : Fun K "_law_right" "_law_right" s_law_right _ _ := fun_of D_law_right
  have k_law_right := D_law_right.kp
  have b_law_right := F_law_right.binds (ps := ["_law_bag_here", "_law_head", "_law_tail", "_law_held"]) fun _ _ _ _ _ _ us hl => match us, hl with | [_, _, _, _], _ => rfl
  have g_law_right := PySem.W.mg_of X G a_law_right
  have hcode_law_right := code_of X G tk_law_right g_law_right F_law_right
  have F_law_source : Fun K "_law_source" "_law_source" s_law_source _ _ := fun_of D_law_source
  have k_law_source := D_law_source.kp
  have b_law_source := F_law_source.binds (ps := ["_law_bag_here"]) fun _ _ _ _ _ _ us hl => match us, hl with | [_], _ => rfl
  have g_law_source := PySem.W.mg_of X G a_law_source
  have F_law_parts : Fun K "_law_parts" "_law_parts" s_law_parts _ _ := fun_of D_law_parts
  have k_law_parts := D_law_parts.kp
  have b_law_parts := F_law_parts.binds (ps := ["_law_bag_here", "_law_forks"]) fun _ _ _ _ _ _ us hl => match us, hl with | [_, _], _ => rfl
  have g_law_parts := PySem.W.mg_of X G a_law_parts
  have F_law : Fun K "law" "law" s_law _ _ := fun_of D_law
  have k_law := D_law.kp
  have b_law := F_law.binds (ps := ["_law_script"]) fun _ _ _ _ _ _ us hl => match us, hl with | [_], _ => rfl
  have g_law := PySem.W.mg_of X G a_law
  have XC_NoFlow : ExcC K c_NoFlow := ⟨x1_NoFlow, x2_NoFlow, be_NoFlow, hx_NoFlow, x5_NoFlow, e6, e7, x8_NoFlow⟩
  have NF_Line : NotFst K c_Line := fun T hT => by
    simp only [oth, List.mem_cons, List.not_mem_nil, or_false] at hT
    rcases hT with rfl | rfl | rfl | rfl | rfl | rfl
    · exact nf_Line_NoneType
    · exact nf_Line_bool
    · exact nf_Line_tuple
    · exact nf_Line_str
    · exact nf_Line_int
    · exact nf_Line_list
  have KF_Line : ∀ T ∈ oth, PySem.W.kitOne K (.type T) (.ref c_Line) = some false := fun T hT => by
    simp only [oth, List.mem_cons, List.not_mem_nil, or_false] at hT
    rcases hT with rfl | rfl | rfl | rfl | rfl | rfl
    · exact kf_Line_NoneType
    · exact kf_Line_bool
    · exact kf_Line_tuple
    · exact kf_Line_str
    · exact kf_Line_int
    · exact kf_Line_list
  have T : Txt K w mg c_Line c_BadTime c_NoGround c_NoPlace c_NoProof c_NoKind c_BadText c_NoDeed c_NoRow c_TooMany c_NotDone c_NoBook c_NoCall c_NoEngine c_NoEngines c_NoLine c_NoJoin c_NoFlow c_Late c_Inside c_Dead c_NoTeam c_NoWearer c_NoBoard c_NoText c_Nothing c_NoSaying := { z_len := PySem.W.mg_none_of X G z_len, z_abs := PySem.W.mg_none_of X G z_abs, z_all := PySem.W.mg_none_of X G z_all, z_str := PySem.W.mg_none_of X G z_str, z_int := PySem.W.mg_none_of X G z_int, z_isinstance := PySem.W.mg_none_of X G z_isinstance, z_range := PySem.W.mg_none_of X G z_range, z_max := PySem.W.mg_none_of X G z_max, z_min := PySem.W.mg_none_of X G z_min, z_bool := PySem.W.mg_none_of X G z_bool, z_list := PySem.W.mg_none_of X G z_list, z_tuple := PySem.W.mg_none_of X G z_tuple, z_zip := PySem.W.mg_none_of X G z_zip, z_enumerate := PySem.W.mg_none_of X G z_enumerate, z_sum := PySem.W.mg_none_of X G z_sum, z_ArithmeticError := PySem.W.mg_none_of X G z_ArithmeticError, z_IndexError := PySem.W.mg_none_of X G z_IndexError, g_SOURCES := gw_SOURCES, g_JOINS := gw_JOINS, g_MOST_PARTS := gw_MOST_PARTS, g_MOST_FORKS := gw_MOST_FORKS, g_WHOLE_SHARE := gw_WHOLE_SHARE, g_LEAST_IN_HOSE := gw_LEAST_IN_HOSE, g_MOST_BEHIND_PUMP := gw_MOST_BEHIND_PUMP, g_HOSE_DIVISOR := gw_HOSE_DIVISOR, gk_BadTime := ⟨.ref c_BadTime, .ref c_BadTime, gx_BadTime, rfl, fun _ _ => .ref _⟩, gk_NoGround := ⟨.ref c_NoGround, .ref c_NoGround, gx_NoGround, rfl, fun _ _ => .ref _⟩, gk_NoPlace := ⟨.ref c_NoPlace, .ref c_NoPlace, gx_NoPlace, rfl, fun _ _ => .ref _⟩, gk_NoProof := ⟨.ref c_NoProof, .ref c_NoProof, gx_NoProof, rfl, fun _ _ => .ref _⟩, gk_NoKind := ⟨.ref c_NoKind, .ref c_NoKind, gx_NoKind, rfl, fun _ _ => .ref _⟩, gk_BadText := ⟨.ref c_BadText, .ref c_BadText, gx_BadText, rfl, fun _ _ => .ref _⟩, gk_NoDeed := ⟨.ref c_NoDeed, .ref c_NoDeed, gx_NoDeed, rfl, fun _ _ => .ref _⟩, gk_NoRow := ⟨.ref c_NoRow, .ref c_NoRow, gx_NoRow, rfl, fun _ _ => .ref _⟩, gk_TooMany := ⟨.ref c_TooMany, .ref c_TooMany, gx_TooMany, rfl, fun _ _ => .ref _⟩, gk_NotDone := ⟨.ref c_NotDone, .ref c_NotDone, gx_NotDone, rfl, fun _ _ => .ref _⟩, gk_NoBook := ⟨.ref c_NoBook, .ref c_NoBook, gx_NoBook, rfl, fun _ _ => .ref _⟩, gk_NoCall := ⟨.ref c_NoCall, .ref c_NoCall, gx_NoCall, rfl, fun _ _ => .ref _⟩, gk_NoEngine := ⟨.ref c_NoEngine, .ref c_NoEngine, gx_NoEngine, rfl, fun _ _ => .ref _⟩, gk_NoEngines := ⟨.ref c_NoEngines, .ref c_NoEngines, gx_NoEngines, rfl, fun _ _ => .ref _⟩, gk_NoLine := ⟨.ref c_NoLine, .ref c_NoLine, gx_NoLine, rfl, fun _ _ => .ref _⟩, gk_NoJoin := ⟨.ref c_NoJoin, .ref c_NoJoin, gx_NoJoin, rfl, fun _ _ => .ref _⟩, gk_NoFlow := ⟨.ref c_NoFlow, .ref c_NoFlow, gx_NoFlow, rfl, fun _ _ => .ref _⟩, gk_Late := ⟨.ref c_Late, .ref c_Late, gx_Late, rfl, fun _ _ => .ref _⟩, gk_Inside := ⟨.ref c_Inside, .ref c_Inside, gx_Inside, rfl, fun _ _ => .ref _⟩, gk_Dead := ⟨.ref c_Dead, .ref c_Dead, gx_Dead, rfl, fun _ _ => .ref _⟩, gk_NoTeam := ⟨.ref c_NoTeam, .ref c_NoTeam, gx_NoTeam, rfl, fun _ _ => .ref _⟩, gk_NoWearer := ⟨.ref c_NoWearer, .ref c_NoWearer, gx_NoWearer, rfl, fun _ _ => .ref _⟩, gk_NoBoard := ⟨.ref c_NoBoard, .ref c_NoBoard, gx_NoBoard, rfl, fun _ _ => .ref _⟩, gk_NoText := ⟨.ref c_NoText, .ref c_NoText, gx_NoText, rfl, fun _ _ => .ref _⟩, gk_Nothing := ⟨.ref c_Nothing, .ref c_Nothing, gx_Nothing, rfl, fun _ _ => .ref _⟩, gk_NoSaying := ⟨.ref c_NoSaying, .ref c_NoSaying, gx_NoSaying, rfl, fun _ _ => .ref _⟩, kk_NoFlow_BadTime := kk_NoFlow_BadTime, kk_NoFlow_NoGround := kk_NoFlow_NoGround, kk_NoFlow_NoPlace := kk_NoFlow_NoPlace, kk_NoFlow_NoProof := kk_NoFlow_NoProof, kk_NoFlow_NoKind := kk_NoFlow_NoKind, kk_NoFlow_BadText := kk_NoFlow_BadText, kk_NoFlow_NoDeed := kk_NoFlow_NoDeed, kk_NoFlow_NoRow := kk_NoFlow_NoRow, kk_NoFlow_TooMany := kk_NoFlow_TooMany, kk_NoFlow_NotDone := kk_NoFlow_NotDone, kk_NoFlow_NoBook := kk_NoFlow_NoBook, kk_NoFlow_NoCall := kk_NoFlow_NoCall, kk_NoFlow_NoEngine := kk_NoFlow_NoEngine, kk_NoFlow_NoEngines := kk_NoFlow_NoEngines, kk_NoFlow_NoLine := kk_NoFlow_NoLine, kk_NoFlow_NoJoin := kk_NoFlow_NoJoin, kk_NoFlow_NoFlow := kk_NoFlow_NoFlow, kk_NoFlow_Late := kk_NoFlow_Late, kk_NoFlow_Inside := kk_NoFlow_Inside, kk_NoFlow_Dead := kk_NoFlow_Dead, kk_NoFlow_NoTeam := kk_NoFlow_NoTeam, kk_NoFlow_NoWearer := kk_NoFlow_NoWearer, kk_NoFlow_NoBoard := kk_NoFlow_NoBoard, kk_NoFlow_NoText := kk_NoFlow_NoText, kk_NoFlow_Nothing := kk_NoFlow_Nothing, kk_NoFlow_NoSaying := kk_NoFlow_NoSaying, kb_NoFlow_ArithmeticError := kb_NoFlow_ArithmeticError, xc_NoFlow := ⟨x1_NoFlow, x2_NoFlow, be_NoFlow, hx_NoFlow, x5_NoFlow, e6, e7, x8_NoFlow⟩, xf_NoFlow_join := nx_NoFlow_join, xf_NoFlow_why := nx_NoFlow_why, xall_NoFlow := (fun D h => by rw [List.mem_singleton.mp h]; exact XC_NoFlow), xfld_NoFlow_join := (fun D h => by rw [List.mem_singleton.mp h]; exact ⟨XC_NoFlow, nx_NoFlow_join⟩), xfld_NoFlow_why := (fun D h => by rw [List.mem_singleton.mp h]; exact ⟨XC_NoFlow, nx_NoFlow_why⟩), nf_Line := NF_Line, ow_Line := ⟨⟨pg_Line, hdC_Line, po_Line, sa_Line⟩, e5_Line, e6, e7, e8_Line, kt_Line, KF_Line⟩, ne_Line := ne_Line, gc_Line := G_Line, cl_Line := ⟨pg_Line, hdC_Line, po_Line, sa_Line⟩, n_Line_source := na_Line_source, n_Line_parts := na_Line_parts }
  refine ⟨fd_law, [(cc_law_one_out, tt_law_one_out), (cc_law_right, tt_law_right)], _, (fun p hp => by
    simp only [List.mem_cons, List.not_mem_nil, or_false] at hp
    rcases hp with rfl | rfl
    · exact (TF _ _ _ _ tr_law_one_out tk_law_one_out).2
    · exact (TF _ _ _ _ tr_law_right tk_law_right).2), (fun p hp => by
    simp only [List.mem_cons, List.not_mem_nil, or_false] at hp
    rcases hp with rfl | rfl
    · exact tn_law_one_out
    · exact tn_law_right), (fun p hp => by
    simp only [List.mem_cons, List.not_mem_nil, or_false] at hp
    rcases hp with rfl | rfl
    · exact (TF _ _ _ _ tr_law_one_out tk_law_one_out).1
    · exact (TF _ _ _ _ tr_law_right tk_law_right).1), fun s v => FunD.bindsA (ps := ["_law_script"]) D_law (fun _ _ _ _ _ _ us hl => match us, hl with | [_], _ => rfl) s [v] rfl, fun H a ns hl hbits hT hS => law_spT [(tt_law_one_out, ("_law_one_out.<locals>.<lambda>" : Str)), (tt_law_right, ("_law_right.<locals>.<lambda>" : Str))] (fun p hp => by
    simp only [List.mem_cons, List.not_mem_nil, or_false] at hp
    rcases hp with rfl | rfl
    · exact hT (cc_law_one_out, tt_law_one_out) (by simp)
    · exact hT (cc_law_right, tt_law_right) (by simp)) hS (show (sp_law c_Line c_NoFlow tt_law_one_out tt_law_right) [.scr ns] _ _ _ from ⟨ns, rfl, hl, (by exact up_same), (by rw [stoT, up_ne tne_law_right_law_one_out]; exact up_same), fun _ => rfl⟩), fun base _ _ hTB => ?_⟩
  have tb_law_one_out := hTB (cc_law_one_out, tt_law_one_out) (by simp)
  have tb_law_right := hTB (cc_law_right, tt_law_right) (by simp)
  have R_law_bag : FnOk l.prog w K mg base CX0 1 f_law_bag _ _ (uSp K (sp_law_bag)) := ok_law_bag F_law_bag T
  have R_is_whole : FnOk l.prog w K mg base CX0 1 f_is_whole _ _ (uSp K (sp_is_whole)) := ok_is_whole F_is_whole T
  have R_is_whole_within : FnOk l.prog w K mg base CX0 2 f_is_whole_within _ _ (uSp K (sp_is_whole_within)) := ok_is_whole_within F_is_whole_within T ⟨_, _, _, R_is_whole, g_is_whole, k_is_whole, b_is_whole⟩
  have R_are_within : FnOk l.prog w K mg base CX0 3 f_are_within _ _ (uSp K (sp_are_within)) := ok_are_within F_are_within T ⟨_, _, _, R_is_whole_within, g_is_whole_within, k_is_whole_within, b_is_whole_within⟩
  have R_is_among : FnOk l.prog w K mg base CX0 4 f_is_among _ _ (uSp K (sp_is_among)) := ok_is_among F_is_among T ⟨_, _, _, R_are_within, g_are_within, k_are_within, b_are_within⟩
  have R_is_tuple_within : FnOk l.prog w K mg base CX0 1 f_is_tuple_within _ _ (uSp K (sp_is_tuple_within)) := ok_is_tuple_within F_is_tuple_within T
  have S_is_part_0 : FnOk l.prog w K mg base CX0 5 f_is_part _ _ (uSp K (sp_is_part 0)) := okS_is_part_0 F_is_part T ⟨_, _, _, R_is_tuple_within, g_is_tuple_within, k_is_tuple_within, b_is_tuple_within⟩ ⟨_, _, _, (fn_false (k := 4) (f := f_are_parts) (ps := ["thing", "forks"]) (CX := CX0) fun _ _ _ _ z => z), g_are_parts, k_are_parts, b_are_parts⟩ ⟨_, _, _, R_is_among, g_is_among, k_is_among, b_is_among⟩
  have S_are_parts_0 : FnOk l.prog w K mg base CX0 6 f_are_parts _ _ (uSp K (sp_are_parts 1)) := okS_are_parts_0 F_are_parts T ⟨_, _, _, R_is_tuple_within, g_is_tuple_within, k_is_tuple_within, b_is_tuple_within⟩ ⟨_, _, _, S_is_part_0, g_is_part, k_is_part, b_is_part⟩
  have S_is_part_1 : FnOk l.prog w K mg base CX0 7 f_is_part _ _ (uSp K (sp_is_part 1)) := okS_is_part_1 F_is_part T ⟨_, _, _, R_is_tuple_within, g_is_tuple_within, k_is_tuple_within, b_is_tuple_within⟩ ⟨_, _, _, S_are_parts_0, g_are_parts, k_are_parts, b_are_parts⟩ ⟨_, _, _, R_is_among, g_is_among, k_is_among, b_is_among⟩
  have S_are_parts_1 : FnOk l.prog w K mg base CX0 8 f_are_parts _ _ (uSp K (sp_are_parts 2)) := okS_are_parts_1 F_are_parts T ⟨_, _, _, R_is_tuple_within, g_is_tuple_within, k_is_tuple_within, b_is_tuple_within⟩ ⟨_, _, _, S_is_part_1, g_is_part, k_is_part, b_is_part⟩
  have S_is_part_2 : FnOk l.prog w K mg base CX0 9 f_is_part _ _ (uSp K (sp_is_part 2)) := okS_is_part_2 F_is_part T ⟨_, _, _, R_is_tuple_within, g_is_tuple_within, k_is_tuple_within, b_is_tuple_within⟩ ⟨_, _, _, S_are_parts_1, g_are_parts, k_are_parts, b_are_parts⟩ ⟨_, _, _, R_is_among, g_is_among, k_is_among, b_is_among⟩
  have S_are_parts_2 : FnOk l.prog w K mg base CX0 10 f_are_parts _ _ (uSp K (sp_are_parts 3)) := okS_are_parts_2 F_are_parts T ⟨_, _, _, R_is_tuple_within, g_is_tuple_within, k_is_tuple_within, b_is_tuple_within⟩ ⟨_, _, _, S_is_part_2, g_is_part, k_is_part, b_is_part⟩
  have S_is_part_3 : FnOk l.prog w K mg base CX0 11 f_is_part _ _ (uSp K (sp_is_part 3)) := okS_is_part_3 F_is_part T ⟨_, _, _, R_is_tuple_within, g_is_tuple_within, k_is_tuple_within, b_is_tuple_within⟩ ⟨_, _, _, S_are_parts_2, g_are_parts, k_are_parts, b_are_parts⟩ ⟨_, _, _, R_is_among, g_is_among, k_is_among, b_is_among⟩
  have R_is_part := S_is_part_3
  have R_are_parts := S_are_parts_2
  have R_Line__init_ : FnOk l.prog w K mg base CX0 12 f_Line__init_ _ _ (uSp K (sp_Line__init_ c_Line)) := ok_Line__init_ F_Line__init_ T ⟨_, _, _, R_is_among, g_is_among, k_is_among, b_is_among⟩ ⟨_, _, _, R_is_tuple_within, g_is_tuple_within, k_is_tuple_within, b_is_tuple_within⟩ ⟨_, _, _, R_is_part, g_is_part, k_is_part, b_is_part⟩
  have R_law_take : FnOk l.prog w K mg base CX0 1 f_law_take _ _ (uSp K (sp_law_take)) := ok_law_take F_law_take T
  have R_law_which := okP_law_which (P := l.prog) (w := w) (mg := mg) (base := base) F_law_which T
  have R_law_said := okL_law_said (P := l.prog) (w := w) (mg := mg) (base := base) F_law_said T ⟨_, _, _, R_law_which, g_law_which, k_law_which, b_law_which⟩ gx_NoFlow ex_NoFlow g_law_said k_law_said b_law_said
  have S_joins_of_0 : FnOk l.prog w K mg base CX0 2 f_joins_of _ _ (uSp K (sp_joins_of 1)) := okS_joins_of_0 F_joins_of T ⟨_, _, _, (fn_false (k := 1) (f := f_joins_of) (ps := ["parts"]) (CX := CX0) fun _ _ _ _ z => z), g_joins_of, k_joins_of, b_joins_of⟩
  have S_joins_of_1 : FnOk l.prog w K mg base CX0 3 f_joins_of _ _ (uSp K (sp_joins_of 2)) := okS_joins_of_1 F_joins_of T ⟨_, _, _, S_joins_of_0, g_joins_of, k_joins_of, b_joins_of⟩
  have S_joins_of_2 : FnOk l.prog w K mg base CX0 4 f_joins_of _ _ (uSp K (sp_joins_of 3)) := okS_joins_of_2 F_joins_of T ⟨_, _, _, S_joins_of_1, g_joins_of, k_joins_of, b_joins_of⟩
  have S_joins_of_3 : FnOk l.prog w K mg base CX0 5 f_joins_of _ _ (uSp K (sp_joins_of 4)) := okS_joins_of_3 F_joins_of T ⟨_, _, _, S_joins_of_2, g_joins_of, k_joins_of, b_joins_of⟩
  have R_joins_of := S_joins_of_3
  have R_taken : FnOk l.prog w K mg base CX0 6 f_taken _ _ (uSp K (sp_taken)) := ok_taken F_taken T ⟨_, _, _, R_joins_of, g_joins_of, k_joins_of, b_joins_of⟩
  have R_pressure_behind : FnOk l.prog w K mg base CX0 1 f_pressure_behind _ _ (uSp K (sp_pressure_behind)) := ok_pressure_behind F_pressure_behind T
  have R_why_failing : FnOk l.prog w K mg base CX0 1 f_why_failing _ _ (uSp K (sp_why_failing)) := ok_why_failing F_why_failing T
  have S_walked_0 : FnOk l.prog w K mg base (L2.CX l.prog w) 8 f_walked _ _ (uSp K (sp_walked c_NoFlow 1)) := okS_walked_0 F_walked T ⟨_, _, _, _, _, (fn_false (k := 7) (f := f_walked) (ps := ["parts", "pressure", "share", "passed"]) (CX := (L2.CX l.prog w)) fun _ _ _ _ z => z), g_walked, k_walked, b_walked, .nil, Flat.nil⟩ ⟨_, _, _, R_taken, g_taken, k_taken, b_taken⟩ ⟨_, _, _, R_pressure_behind, g_pressure_behind, k_pressure_behind, b_pressure_behind⟩ ⟨_, _, _, R_why_failing, g_why_failing, k_why_failing, b_why_failing⟩ ⟨_, _, _, GX_NoFlow, ix_NoFlow, ti_NoFlow, ok_NFi F_NoFlow__init_ (PySem.W.mg_none_of X G z_ArithmeticError) GX_NoFlow nx_NoFlow_join nx_NoFlow_why vV_NoFlow, b_NoFlow__init_, gx_NoFlow⟩
  have S_walked_1 : FnOk l.prog w K mg base (L2.CX l.prog w) 9 f_walked _ _ (uSp K (sp_walked c_NoFlow 2)) := okS_walked_1 F_walked T ⟨_, _, _, _, _, S_walked_0, g_walked, k_walked, b_walked, .nil, Flat.nil⟩ ⟨_, _, _, R_taken, g_taken, k_taken, b_taken⟩ ⟨_, _, _, R_pressure_behind, g_pressure_behind, k_pressure_behind, b_pressure_behind⟩ ⟨_, _, _, R_why_failing, g_why_failing, k_why_failing, b_why_failing⟩ ⟨_, _, _, GX_NoFlow, ix_NoFlow, ti_NoFlow, ok_NFi F_NoFlow__init_ (PySem.W.mg_none_of X G z_ArithmeticError) GX_NoFlow nx_NoFlow_join nx_NoFlow_why vV_NoFlow, b_NoFlow__init_, gx_NoFlow⟩
  have S_walked_2 : FnOk l.prog w K mg base (L2.CX l.prog w) 10 f_walked _ _ (uSp K (sp_walked c_NoFlow 3)) := okS_walked_2 F_walked T ⟨_, _, _, _, _, S_walked_1, g_walked, k_walked, b_walked, .nil, Flat.nil⟩ ⟨_, _, _, R_taken, g_taken, k_taken, b_taken⟩ ⟨_, _, _, R_pressure_behind, g_pressure_behind, k_pressure_behind, b_pressure_behind⟩ ⟨_, _, _, R_why_failing, g_why_failing, k_why_failing, b_why_failing⟩ ⟨_, _, _, GX_NoFlow, ix_NoFlow, ti_NoFlow, ok_NFi F_NoFlow__init_ (PySem.W.mg_none_of X G z_ArithmeticError) GX_NoFlow nx_NoFlow_join nx_NoFlow_why vV_NoFlow, b_NoFlow__init_, gx_NoFlow⟩
  have S_walked_3 : FnOk l.prog w K mg base (L2.CX l.prog w) 11 f_walked _ _ (uSp K (sp_walked c_NoFlow 4)) := okS_walked_3 F_walked T ⟨_, _, _, _, _, S_walked_2, g_walked, k_walked, b_walked, .nil, Flat.nil⟩ ⟨_, _, _, R_taken, g_taken, k_taken, b_taken⟩ ⟨_, _, _, R_pressure_behind, g_pressure_behind, k_pressure_behind, b_pressure_behind⟩ ⟨_, _, _, R_why_failing, g_why_failing, k_why_failing, b_why_failing⟩ ⟨_, _, _, GX_NoFlow, ix_NoFlow, ti_NoFlow, ok_NFi F_NoFlow__init_ (PySem.W.mg_none_of X G z_ArithmeticError) GX_NoFlow nx_NoFlow_join nx_NoFlow_why vV_NoFlow, b_NoFlow__init_, gx_NoFlow⟩
  have R_walked := S_walked_3
  have R_Line_pressures : FnOk l.prog w K mg base (L2.CX l.prog w) 12 f_Line_pressures _ _ (uSp K (sp_Line_pressures c_Line c_NoFlow)) := ok_Line_pressures F_Line_pressures T ⟨_, _, _, R_taken, g_taken, k_taken, b_taken⟩ ⟨_, _, _, GX_NoFlow, ix_NoFlow, ti_NoFlow, ok_NFi F_NoFlow__init_ (PySem.W.mg_none_of X G z_ArithmeticError) GX_NoFlow nx_NoFlow_join nx_NoFlow_why vV_NoFlow, b_NoFlow__init_, gx_NoFlow⟩ ⟨_, _, _, _, _, R_walked, g_walked, k_walked, b_walked, .nil, Flat.nil⟩
  have R_law_not_more : FnOk l.prog w K mg base CX0 1 f_law_not_more _ _ (uSp K (sp_law_not_more)) := ok_law_not_more F_law_not_more T
  have S_law_ways_0 : FnOk l.prog w K mg base CX0 4 f_law_ways _ _ (uSp K (sp_law_ways 1)) := okS_law_ways_0 F_law_ways T ⟨_, _, _, (fn_false (k := 3) (f := f_law_ways) (ps := ["_law_tail", "_law_margin"]) (CX := CX0) fun _ _ _ _ z => z), g_law_ways, k_law_ways, b_law_ways⟩
  have S_law_ways_1 : FnOk l.prog w K mg base CX0 5 f_law_ways _ _ (uSp K (sp_law_ways 2)) := okS_law_ways_1 F_law_ways T ⟨_, _, _, S_law_ways_0, g_law_ways, k_law_ways, b_law_ways⟩
  have S_law_ways_2 : FnOk l.prog w K mg base CX0 6 f_law_ways _ _ (uSp K (sp_law_ways 3)) := okS_law_ways_2 F_law_ways T ⟨_, _, _, S_law_ways_1, g_law_ways, k_law_ways, b_law_ways⟩
  have S_law_ways_3 : FnOk l.prog w K mg base CX0 7 f_law_ways _ _ (uSp K (sp_law_ways 4)) := okS_law_ways_3 F_law_ways T ⟨_, _, _, S_law_ways_2, g_law_ways, k_law_ways, b_law_ways⟩
  have R_law_ways := S_law_ways_3
  have R_law_plan : FnOk l.prog w K mg base CX0 8 f_law_plan _ _ (uSp K (sp_law_plan)) := ok_law_plan F_law_plan T ⟨_, _, _, R_law_ways, g_law_ways, k_law_ways, b_law_ways⟩
  have S_parts_without_0 : FnOk l.prog w K mg base CX0 6 f_parts_without _ _ (uSp K (sp_parts_without 1)) := okS_parts_without_0 F_parts_without T ⟨_, _, _, (fn_false (k := 5) (f := f_parts_without) (ps := ["parts", "join"]) (CX := CX0) fun _ _ _ _ z => z), g_parts_without, k_parts_without, b_parts_without⟩ ⟨_, _, _, R_joins_of, g_joins_of, k_joins_of, b_joins_of⟩
  have S_parts_without_1 : FnOk l.prog w K mg base CX0 7 f_parts_without _ _ (uSp K (sp_parts_without 2)) := okS_parts_without_1 F_parts_without T ⟨_, _, _, S_parts_without_0, g_parts_without, k_parts_without, b_parts_without⟩ ⟨_, _, _, R_joins_of, g_joins_of, k_joins_of, b_joins_of⟩
  have S_parts_without_2 : FnOk l.prog w K mg base CX0 8 f_parts_without _ _ (uSp K (sp_parts_without 3)) := okS_parts_without_2 F_parts_without T ⟨_, _, _, S_parts_without_1, g_parts_without, k_parts_without, b_parts_without⟩ ⟨_, _, _, R_joins_of, g_joins_of, k_joins_of, b_joins_of⟩
  have S_parts_without_3 : FnOk l.prog w K mg base CX0 9 f_parts_without _ _ (uSp K (sp_parts_without 4)) := okS_parts_without_3 F_parts_without T ⟨_, _, _, S_parts_without_2, g_parts_without, k_parts_without, b_parts_without⟩ ⟨_, _, _, R_joins_of, g_joins_of, k_joins_of, b_joins_of⟩
  have R_parts_without := S_parts_without_3
  have R_Line_without : FnOk l.prog w K mg base CX0 14 f_Line_without _ _ (uSp K (sp_Line_without c_Line)) := ok_Line_without F_Line_without T ⟨_, _, _, R_joins_of, g_joins_of, k_joins_of, b_joins_of⟩ ⟨_, _, _, R_is_whole_within, g_is_whole_within, k_is_whole_within, b_is_whole_within⟩ ⟨_, _, _, _, _, Mk_Line, R_Line__init_, G_Line, b_Line__init_, .nil, Flat.nil⟩ ⟨_, _, _, R_parts_without, g_parts_without, k_parts_without, b_parts_without⟩
  have S_law_less_0 : FnOk l.prog w K mg base CX0 1 f_law_less _ _ (uSp K (sp_law_less 1)) := okS_law_less_0 F_law_less T ⟨_, _, _, (fn_false (k := 0) (f := f_law_less) (ps := ["_law_tail", "_law_number"]) (CX := CX0) fun _ _ _ _ z => z), g_law_less, k_law_less, b_law_less⟩
  have S_law_less_1 : FnOk l.prog w K mg base CX0 2 f_law_less _ _ (uSp K (sp_law_less 2)) := okS_law_less_1 F_law_less T ⟨_, _, _, S_law_less_0, g_law_less, k_law_less, b_law_less⟩
  have S_law_less_2 : FnOk l.prog w K mg base CX0 3 f_law_less _ _ (uSp K (sp_law_less 3)) := okS_law_less_2 F_law_less T ⟨_, _, _, S_law_less_1, g_law_less, k_law_less, b_law_less⟩
  have S_law_less_3 : FnOk l.prog w K mg base CX0 4 f_law_less _ _ (uSp K (sp_law_less 4)) := okS_law_less_3 F_law_less T ⟨_, _, _, S_law_less_2, g_law_less, k_law_less, b_law_less⟩
  have R_law_less := S_law_less_3
  have R_law_walked : FnOk l.prog w K mg base CX0 1 f_law_walked _ _ (uSp K (sp_law_walked)) := ok_law_walked F_law_walked T
  obtain ⟨ds2_Line_pressures, h2_Line_pressures, b2_Line_pressures⟩ := F_Line_pressures.binds1 (ps := ["self", "share"]) 2 1 (fun z => nomatch z) rfl fun _ _ _ _ _ _ _ us its h1 h2 => match us, its, h1, h2 with | [_, _], [_], _, _ => ⟨_, rfl, rfl⟩
  have e2_Line_pressures : ds2_Line_pressures = [] := by cases h2_Line_pressures; rfl
  subst e2_Line_pressures
  have R_Line_holds : FnOk l.prog w K mg base CX0 13 f_Line_holds _ _ (uSp K (sp_Line_holds c_Line)) := ok_Line_holds F_Line_holds T ⟨_, _, _, _, _, R_Line_pressures, Me_Line_pressures, b2_Line_pressures, .nil, Flat.nil⟩ gx_NoFlow ex_NoFlow
  have R_Line_greatest : FnOk l.prog w K mg base CX0 14 f_Line_greatest _ _ (uSp K (sp_Line_greatest c_Line)) := ok_Line_greatest F_Line_greatest T ⟨_, _, _, _, _, R_Line_holds, Me_Line_holds, b_Line_holds, .nil, Flat.nil⟩
  have R_law_share : FnOk l.prog w K mg base CX0 15 f_law_share _ _ (uSp K (sp_law_share c_Line)) := ok_law_share F_law_share T ⟨_, _, _, _, _, R_Line_greatest, Me_Line_greatest, b_Line_greatest, .nil, Flat.nil⟩
  have R_Line__len_ : FnOk l.prog w K mg base CX0 6 f_Line__len_ _ _ (uSp K (sp_Line__len_ c_Line)) := ok_Line__len_ F_Line__len_ T ⟨_, _, _, R_joins_of, g_joins_of, k_joins_of, b_joins_of⟩
  have R_law_one_out : FnOk l.prog w K mg base CX0 16 f_law_one_out _ _ (uSp K (sp_law_one_out c_Line c_NoFlow tt_law_one_out)) := ok_law_one_out F_law_one_out T ⟨_, _, _, R_law_plan, g_law_plan, k_law_plan, b_law_plan⟩ ⟨_, _, _, R_law_take, g_law_take, k_law_take, b_law_take⟩ ⟨_, _, _, _, _, R_Line_without, Me_Line_without, b_Line_without, .nil, Flat.nil⟩ ⟨_, _, _, R_law_less, g_law_less, k_law_less, b_law_less⟩ R_law_said ⟨_, _, _, _, _, R_Line_pressures, Me_Line_pressures, b2_Line_pressures, .nil, Flat.nil⟩ ⟨_, _, _, R_law_walked, g_law_walked, k_law_walked, b_law_walked⟩ ⟨_, _, _, R_law_share, g_law_share, k_law_share, b_law_share⟩ ⟨_, _, _, _, _, R_Line__len_, Me_Line__len_, b_Line__len_, .nil, Flat.nil⟩ hcode_law_one_out tb_law_one_out
  have S_law_small_0 : FnOk l.prog w K mg base CX0 6 f_law_small _ _ (uSp K (sp_law_small 1)) := okS_law_small_0 F_law_small T ⟨_, _, _, (fn_false (k := 5) (f := f_law_small) (ps := ["_law_tail"]) (CX := CX0) fun _ _ _ _ z => z), g_law_small, k_law_small, b_law_small⟩
  have S_law_small_1 : FnOk l.prog w K mg base CX0 7 f_law_small _ _ (uSp K (sp_law_small 2)) := okS_law_small_1 F_law_small T ⟨_, _, _, S_law_small_0, g_law_small, k_law_small, b_law_small⟩
  have S_law_small_2 : FnOk l.prog w K mg base CX0 8 f_law_small _ _ (uSp K (sp_law_small 3)) := okS_law_small_2 F_law_small T ⟨_, _, _, S_law_small_1, g_law_small, k_law_small, b_law_small⟩
  have S_law_small_3 : FnOk l.prog w K mg base CX0 9 f_law_small _ _ (uSp K (sp_law_small 4)) := okS_law_small_3 F_law_small T ⟨_, _, _, S_law_small_2, g_law_small, k_law_small, b_law_small⟩
  have R_law_small := S_law_small_3
  have S_law_more_0 : FnOk l.prog w K mg base CX0 9 f_law_more _ _ (uSp K (sp_law_more 1)) := okS_law_more_0 F_law_more T ⟨_, _, _, R_law_take, g_law_take, k_law_take, b_law_take⟩ ⟨_, _, _, (fn_false (k := 8) (f := f_law_more) (ps := ["_law_bag_here", "_law_tail", "_law_new"]) (CX := CX0) fun _ _ _ _ z => z), g_law_more, k_law_more, b_law_more⟩ ⟨_, _, _, R_law_ways, g_law_ways, k_law_ways, b_law_ways⟩
  have S_law_more_1 : FnOk l.prog w K mg base CX0 10 f_law_more _ _ (uSp K (sp_law_more 2)) := okS_law_more_1 F_law_more T ⟨_, _, _, R_law_take, g_law_take, k_law_take, b_law_take⟩ ⟨_, _, _, S_law_more_0, g_law_more, k_law_more, b_law_more⟩ ⟨_, _, _, R_law_ways, g_law_ways, k_law_ways, b_law_ways⟩
  have S_law_more_2 : FnOk l.prog w K mg base CX0 11 f_law_more _ _ (uSp K (sp_law_more 3)) := okS_law_more_2 F_law_more T ⟨_, _, _, R_law_take, g_law_take, k_law_take, b_law_take⟩ ⟨_, _, _, S_law_more_1, g_law_more, k_law_more, b_law_more⟩ ⟨_, _, _, R_law_ways, g_law_ways, k_law_ways, b_law_ways⟩
  have S_law_more_3 : FnOk l.prog w K mg base CX0 12 f_law_more _ _ (uSp K (sp_law_more 4)) := okS_law_more_3 F_law_more T ⟨_, _, _, R_law_take, g_law_take, k_law_take, b_law_take⟩ ⟨_, _, _, S_law_more_2, g_law_more, k_law_more, b_law_more⟩ ⟨_, _, _, R_law_ways, g_law_ways, k_law_ways, b_law_ways⟩
  have R_law_more := S_law_more_3
  have R_Line__eq_ : FnOk l.prog w K mg base CX0 1 f_Line__eq_ _ _ (uSp K (sp_Line__eq_ c_Line)) := ok_Line__eq_ F_Line__eq_ T
  have R_law_right : FnOk l.prog w K mg base CX0 17 f_law_right _ _ (uSp K (sp_law_right c_Line c_NoFlow tt_law_one_out tt_law_right)) := ok_law_right F_law_right T ⟨_, _, _, _, _, Mk_Line, R_Line__init_, G_Line, b_Line__init_, .nil, Flat.nil⟩ ⟨_, _, _, R_law_take, g_law_take, k_law_take, b_law_take⟩ R_law_said ⟨_, _, _, _, _, R_Line_pressures, Me_Line_pressures, b2_Line_pressures, .nil, Flat.nil⟩ ⟨_, _, _, R_law_not_more, g_law_not_more, k_law_not_more, b_law_not_more⟩ ⟨_, _, _, R_law_one_out, g_law_one_out, k_law_one_out, b_law_one_out⟩ ⟨_, _, _, R_law_small, g_law_small, k_law_small, b_law_small⟩ ⟨_, _, _, R_law_share, g_law_share, k_law_share, b_law_share⟩ ⟨_, _, _, R_law_more, g_law_more, k_law_more, b_law_more⟩ ⟨_, _, _, _, _, R_Line__eq_, Me_Line__eq_, b_Line__eq_, .nil, Flat.nil⟩ ⟨_, _, _, _, _, R_Line_without, Me_Line_without, b_Line_without, .nil, Flat.nil⟩ ⟨_, _, _, _, _, R_Line__len_, Me_Line__len_, b_Line__len_, .nil, Flat.nil⟩ hcode_law_right tb_law_right
  have R_law_source : FnOk l.prog w K mg base CX0 2 f_law_source _ _ (uSp K (sp_law_source)) := ok_law_source F_law_source T ⟨_, _, _, R_law_take, g_law_take, k_law_take, b_law_take⟩
  have S_law_parts_0 : FnOk l.prog w K mg base CX0 4 f_law_parts _ _ (uSp K (sp_law_parts 1)) := okS_law_parts_0 F_law_parts T ⟨_, _, _, R_law_take, g_law_take, k_law_take, b_law_take⟩ ⟨_, _, _, (fn_false (k := 3) (f := f_law_parts) (ps := ["_law_bag_here", "_law_forks"]) (CX := CX0) fun _ _ _ _ z => z), g_law_parts, k_law_parts, b_law_parts⟩
  have S_law_parts_1 : FnOk l.prog w K mg base CX0 5 f_law_parts _ _ (uSp K (sp_law_parts 2)) := okS_law_parts_1 F_law_parts T ⟨_, _, _, R_law_take, g_law_take, k_law_take, b_law_take⟩ ⟨_, _, _, S_law_parts_0, g_law_parts, k_law_parts, b_law_parts⟩
  have S_law_parts_2 : FnOk l.prog w K mg base CX0 6 f_law_parts _ _ (uSp K (sp_law_parts 3)) := okS_law_parts_2 F_law_parts T ⟨_, _, _, R_law_take, g_law_take, k_law_take, b_law_take⟩ ⟨_, _, _, S_law_parts_1, g_law_parts, k_law_parts, b_law_parts⟩
  have S_law_parts_3 : FnOk l.prog w K mg base CX0 7 f_law_parts _ _ (uSp K (sp_law_parts 4)) := okS_law_parts_3 F_law_parts T ⟨_, _, _, R_law_take, g_law_take, k_law_take, b_law_take⟩ ⟨_, _, _, S_law_parts_2, g_law_parts, k_law_parts, b_law_parts⟩
  have R_law_parts := S_law_parts_3
  have r : FnOk l.prog w K mg base CX0 18 fa _ _ (uSp K (sp_law c_Line c_NoFlow tt_law_one_out tt_law_right)) := ok_law F_law T ⟨_, _, _, R_law_bag, g_law_bag, k_law_bag, b_law_bag⟩ ⟨_, _, _, R_law_right, g_law_right, k_law_right, b_law_right⟩ ⟨_, _, _, R_law_source, g_law_source, k_law_source, b_law_source⟩ ⟨_, _, _, R_law_parts, g_law_parts, k_law_parts, b_law_parts⟩
  exact r
end DL
set_option maxHeartbeats 0
namespace DL
open PySem PySem.Spec PyProof.Rows L2
theorem facts {l : PySem.W.OpenLaw} {w : World} {K : PySem.W.Frag} {h : Heap} {mg : Str → Option Value} {f : Addr} (TF : TabFacts qv K h) (KX : K.In h) (G : h.Ns mainGlobals mg) (hfa : mg ("law" : Str) = some (.ref f)) (c : SaysX fa fn ds w K) : LamX.LawAtS l w K CX0 18 63 "_law_script" mg f h := by
  obtain ⟨fd_NoFlow__init_, D_NoFlow__init_⟩ := c.def_ 0
  obtain ⟨fd_law_bag, D_law_bag⟩ := c.def_ 1
  obtain ⟨fd_is_whole, D_is_whole⟩ := c.def_ 2
  obtain ⟨fd_is_whole_within, D_is_whole_within⟩ := c.def_ 3
  obtain ⟨fd_are_within, D_are_within⟩ := c.def_ 4
  obtain ⟨fd_is_among, D_is_among⟩ := c.def_ 5
  obtain ⟨fd_is_tuple_within, D_is_tuple_within⟩ := c.def_ 6
  obtain ⟨fd_is_part, D_is_part⟩ := c.def_ 7
  obtain ⟨fd_are_parts, D_are_parts⟩ := c.def_ 8
  obtain ⟨fd_Line__init_, D_Line__init_⟩ := c.def_ 9
  obtain ⟨fd_law_take, D_law_take⟩ := c.def_ 10
  obtain ⟨fd_law_which, D_law_which⟩ := c.def_ 11
  obtain ⟨fd_law_said, D_law_said⟩ := c.def_ 12
  obtain ⟨fd_joins_of, D_joins_of⟩ := c.def_ 13
  obtain ⟨fd_taken, D_taken⟩ := c.def_ 14
  obtain ⟨fd_pressure_behind, D_pressure_behind⟩ := c.def_ 15
  obtain ⟨fd_why_failing, D_why_failing⟩ := c.def_ 16
  obtain ⟨fd_walked, D_walked⟩ := c.def_ 17
  obtain ⟨fd_Line_pressures, D_Line_pressures⟩ := c.def_ 18
  obtain ⟨fd_law_not_more, D_law_not_more⟩ := c.def_ 19
  obtain ⟨fd_law_ways, D_law_ways⟩ := c.def_ 20
  obtain ⟨fd_law_plan, D_law_plan⟩ := c.def_ 21
  obtain ⟨fd_parts_without, D_parts_without⟩ := c.def_ 22
  obtain ⟨fd_Line_without, D_Line_without⟩ := c.def_ 23
  obtain ⟨fd_law_less, D_law_less⟩ := c.def_ 24
  obtain ⟨fd_law_walked, D_law_walked⟩ := c.def_ 25
  obtain ⟨fd_Line_holds, D_Line_holds⟩ := c.def_ 26
  obtain ⟨fd_Line_greatest, D_Line_greatest⟩ := c.def_ 27
  obtain ⟨fd_law_share, D_law_share⟩ := c.def_ 28
  obtain ⟨fd_Line__len_, D_Line__len_⟩ := c.def_ 29
  obtain ⟨fd_law_one_out, D_law_one_out⟩ := c.def_ 30
  obtain ⟨fd_law_small, D_law_small⟩ := c.def_ 31
  obtain ⟨fd_law_more, D_law_more⟩ := c.def_ 32
  obtain ⟨fd_Line__eq_, D_Line__eq_⟩ := c.def_ 33
  obtain ⟨fd_law_right, D_law_right⟩ := c.def_ 34
  obtain ⟨fd_law_source, D_law_source⟩ := c.def_ 35
  obtain ⟨fd_law_parts, D_law_parts⟩ := c.def_ 36
  obtain ⟨fd_law, D_law⟩ := c.def_ 37
  exact all_mk TF KX G hfa (c_NoFlow := (He.ga K "NoFlow")) (f_NoFlow__init_ := (He.fAd K ("NoFlow", some "__init__"))) (c_BadTime := (He.ga K "BadTime")) (c_NoGround := (He.ga K "NoGround")) (c_NoPlace := (He.ga K "NoPlace")) (c_NoProof := (He.ga K "NoProof")) (c_NoKind := (He.ga K "NoKind")) (c_BadText := (He.ga K "BadText")) (c_NoDeed := (He.ga K "NoDeed")) (c_NoRow := (He.ga K "NoRow")) (c_TooMany := (He.ga K "TooMany")) (c_NotDone := (He.ga K "NotDone")) (c_NoBook := (He.ga K "NoBook")) (c_NoCall := (He.ga K "NoCall")) (c_NoEngine := (He.ga K "NoEngine")) (c_NoEngines := (He.ga K "NoEngines")) (c_NoLine := (He.ga K "NoLine")) (c_NoJoin := (He.ga K "NoJoin")) (c_Late := (He.ga K "Late")) (c_Inside := (He.ga K "Inside")) (c_Dead := (He.ga K "Dead")) (c_NoTeam := (He.ga K "NoTeam")) (c_NoWearer := (He.ga K "NoWearer")) (c_NoBoard := (He.ga K "NoBoard")) (c_NoText := (He.ga K "NoText")) (c_Nothing := (He.ga K "Nothing")) (c_NoSaying := (He.ga K "NoSaying")) (c_Line := (He.ga K "Line")) (f_law_bag := (He.fAd K ("_law_bag", none))) (f_is_whole := (He.fAd K ("is_whole", none))) (f_is_whole_within := (He.fAd K ("is_whole_within", none))) (f_are_within := (He.fAd K ("are_within", none))) (f_is_among := (He.fAd K ("is_among", none))) (f_is_tuple_within := (He.fAd K ("is_tuple_within", none))) (f_is_part := (He.fAd K ("is_part", none))) (f_are_parts := (He.fAd K ("are_parts", none))) (f_Line__init_ := (He.fAd K ("Line", some "__init__"))) (f_law_take := (He.fAd K ("_law_take", none))) (f_law_which := (He.fAd K ("_law_which", none))) (f_law_said := (He.fAd K ("_law_said", none))) (f_joins_of := (He.fAd K ("joins_of", none))) (f_taken := (He.fAd K ("taken", none))) (f_pressure_behind := (He.fAd K ("pressure_behind", none))) (f_why_failing := (He.fAd K ("why_failing", none))) (f_walked := (He.fAd K ("walked", none))) (f_Line_pressures := (He.fAd K ("Line", some "pressures"))) (f_law_not_more := (He.fAd K ("_law_not_more", none))) (f_law_ways := (He.fAd K ("_law_ways", none))) (f_law_plan := (He.fAd K ("_law_plan", none))) (f_parts_without := (He.fAd K ("parts_without", none))) (f_Line_without := (He.fAd K ("Line", some "without"))) (f_law_less := (He.fAd K ("_law_less", none))) (f_law_walked := (He.fAd K ("_law_walked", none))) (f_Line_holds := (He.fAd K ("Line", some "holds"))) (f_Line_greatest := (He.fAd K ("Line", some "greatest"))) (f_law_share := (He.fAd K ("_law_share", none))) (f_Line__len_ := (He.fAd K ("Line", some "__len__"))) (f_law_one_out := (He.fAd K ("_law_one_out", none))) (cc_law_one_out := (ccT K "_law_one_out")) (tt_law_one_out := (ttT K "_law_one_out")) (f_law_small := (He.fAd K ("_law_small", none))) (f_law_more := (He.fAd K ("_law_more", none))) (f_Line__eq_ := (He.fAd K ("Line", some "__eq__"))) (f_law_right := (He.fAd K ("_law_right", none))) (cc_law_right := (ccT K "_law_right")) (tt_law_right := (ttT K "_law_right")) (f_law_source := (He.fAd K ("_law_source", none))) (f_law_parts := (He.fAd K ("_law_parts", none))) (f_law := (He.fAd K ("law", none)))
    (decX (c.fact 0))
    (c.fact 1)
    (c.fact 2)
    (decX (c.fact 3))
    (c.fact 4)
    (decX (c.fact 5))
    (decX (c.fact 6))
    (decX (c.fact 7))
    (decX (c.fact 8))
    (c.fact 9)
    (decX (c.fact 10))
    (decX (c.fact 11))
    (decX (c.fact 12))
    (vVB_ok (c.fact 13))
    D_NoFlow__init_
    (decX (c.fact 14))
    (decX (c.fact 15))
    (decX (c.fact 16))
    (decX (c.fact 17))
    (decX (c.fact 18))
    (decX (c.fact 19))
    (decX (c.fact 20))
    (decX (c.fact 21))
    (decX (c.fact 22))
    (decX (c.fact 23))
    (decX (c.fact 24))
    (decX (c.fact 25))
    (decX (c.fact 26))
    (decX (c.fact 27))
    (decX (c.fact 28))
    (decX (c.fact 29))
    (decX (c.fact 30))
    (decX (c.fact 31))
    (decX (c.fact 32))
    (decX (c.fact 33))
    (decX (c.fact 34))
    (decX (c.fact 35))
    (decX (c.fact 36))
    (decX (c.fact 37))
    (decX (c.fact 38))
    (decX (c.fact 39))
    (decX (c.fact 40))
    (decX (c.fact 41))
    (decX (c.fact 42))
    (decX (c.fact 43))
    (decX (c.fact 44))
    (decX (c.fact 45))
    (decX (c.fact 46))
    (decX (c.fact 47))
    (decX (c.fact 48))
    (decX (c.fact 49))
    (decX (c.fact 50))
    (decX (c.fact 51))
    (decX (c.fact 52))
    (decX (c.fact 53))
    (decX (c.fact 54))
    (decX (c.fact 55))
    (decX (c.fact 56))
    (decX (c.fact 57))
    (decX (c.fact 58))
    (decX (c.fact 59))
    (decX (c.fact 60))
    (decX (c.fact 61))
    (decX (c.fact 62))
    (decX (c.fact 63))
    (decX (c.fact 64))
    (decX (c.fact 65))
    (decX (c.fact 66))
    (decX (c.fact 67))
    (decX (c.fact 68))
    (decX (c.fact 69))
    (decX (c.fact 70))
    (c.fact 71)
    (c.fact 72)
    (c.fact 73)
    (decX (c.fact 74))
    (decX (c.fact 75))
    (decX (c.fact 76))
    (c.fact 77)
    (decX (c.fact 78))
    (c.fact 79)
    (c.fact 80)
    (decX (c.fact 81))
    D_law_bag
    (decX (c.fact 82))
    D_is_whole
    (decX (c.fact 83))
    D_is_whole_within
    (decX (c.fact 84))
    D_are_within
    (decX (c.fact 85))
    D_is_among
    (decX (c.fact 86))
    D_is_tuple_within
    (decX (c.fact 87))
    D_is_part
    (decX (c.fact 88))
    D_are_parts
    D_Line__init_
    (decX (c.fact 89))
    D_law_take
    (decX (c.fact 90))
    D_law_which
    (decX (c.fact 91))
    D_law_said
    (decX (c.fact 92))
    D_joins_of
    (decX (c.fact 93))
    D_taken
    (decX (c.fact 94))
    D_pressure_behind
    (decX (c.fact 95))
    D_why_failing
    (decX (c.fact 96))
    D_walked
    (decX (c.fact 97))
    D_Line_pressures
    (c.fact 98)
    (decX (c.fact 99))
    D_law_not_more
    (decX (c.fact 100))
    D_law_ways
    (decX (c.fact 101))
    D_law_plan
    (decX (c.fact 102))
    D_parts_without
    (decX (c.fact 103))
    D_Line_without
    (c.fact 104)
    (decX (c.fact 105))
    D_law_less
    (decX (c.fact 106))
    D_law_walked
    (decX (c.fact 107))
    D_Line_holds
    (c.fact 108)
    (decX (c.fact 109))
    D_Line_greatest
    (c.fact 110)
    (decX (c.fact 111))
    D_law_share
    (decX (c.fact 112))
    D_Line__len_
    (c.fact 113)
    (decX (c.fact 114))
    D_law_one_out
    (decX (c.fact 115))
    (by first | rfl | kernel_rfl)
    (Option.isNone_iff_eq_none.mp (c.fact 116))
    (decX (c.fact 117))
    D_law_small
    (decX (c.fact 118))
    D_law_more
    (decX (c.fact 119))
    D_Line__eq_
    (c.fact 120)
    (decX (c.fact 121))
    D_law_right
    (decX (c.fact 122))
    (by first | rfl | kernel_rfl)
    (Option.isNone_iff_eq_none.mp (c.fact 123))
    (decX (c.fact 124))
    (decX (c.fact 125))
    D_law_source
    (decX (c.fact 126))
    D_law_parts
    (decX (c.fact 127))
    D_law
    (decX (c.fact 128))
    (decX (c.fact 129))
    (decX (c.fact 130))
    (decX (c.fact 131))
    (decX (c.fact 132))
    (decX (c.fact 133))
    (decX (c.fact 134))
    (c.fact 135)
    (decX (c.fact 136))
    (c.fact 137)
    (decX (c.fact 138))
    (c.fact 139)
    (decX (c.fact 140))
    (c.fact 141)
    (decX (c.fact 142))
    (c.fact 143)
    (decX (c.fact 144))
    (c.fact 145)
    (decX (c.fact 146))
    (decX (c.fact 147))
    (decX (c.fact 148))
    (decX (c.fact 149))
    (decX (c.fact 150))
    (decX (c.fact 151))
    (decX (c.fact 152))
    (decX (c.fact 153))
    (decX (c.fact 154))
    (decX (c.fact 155))
    (decX (c.fact 156))
    (decX (c.fact 157))
    (decX (c.fact 158))
    (decX (c.fact 159))
    (decX (c.fact 160))
    (decX (c.fact 161))
    (decX (c.fact 162))
    (gwXB_ok KX G (c.fact 163))
    (gwXB_ok KX G (c.fact 164))
    (gwXB_ok KX G (c.fact 165))
    (gwXB_ok KX G (c.fact 166))
    (gwXB_ok KX G (c.fact 167))
    (gwXB_ok KX G (c.fact 168))
    (gwXB_ok KX G (c.fact 169))
    (gwXB_ok KX G (c.fact 170))
end DL
open PySem PySem.W PySem.Calls PyProof.Rows
theorem PySem.Challenge.cw_whistleboard_k46_whole_lines_holds : PySem.Challenge.rw_whistleboard_k46_whole_lines.Holds := by
  w_on; o_law
  refine HandSHeadRun.head_any (r := OpenLaw.row PySem.Challenge.rw_whistleboard_k46_whole_lines) (q := DL.qv) (H := DL.hk) (ob := DL.ob) (M := 40000) (loose := DL.loose) (d := HandSHeadRun.topDef (OpenLaw.row PySem.Challenge.rw_whistleboard_k46_whole_lines).prog 68) (kwd := []) DL.ob_eq
    (by kernel_rfl) (fun s => by kernel_rfl) DL.run (by kernel_rfl) (by kernel_rfl) (by kernel_rfl) (by rfl) (by first | assumption | decide +kernel) (by decide +kernel) ⟨rfl, rfl, rfl, rfl, rfl, by decide +kernel⟩ ?hw ?hc
  case hw => w_witness2
  case hc =>
    refine DL.walk_tabsE (l := PySem.Challenge.rw_whistleboard_k46_whole_lines) (n := 63) (k := 18) (x := "_law_script") (CX := fun _ => L2.CX0) rfl (by decide) (by kernel_rfl) ⟨rfl, by decide, by decide⟩ ?F (fun _ _ _ _ _ h => h)
    intro w mg fa h Y G hmg0
    obtain ⟨K, KX, c⟩ := Y
    have hmg : mg ("law" : PySem.Str) = some (.ref fa) := by
      have e : (HandSHeadRun.topDef (OpenLaw.row PySem.Challenge.rw_whistleboard_k46_whole_lines).prog 68).name = ("law" : PySem.Str) := by kernel_rfl
      rw [← e]
      exact hmg0
    exact ⟨K, KX, fun TF => DL.facts TF KX G hmg c⟩
