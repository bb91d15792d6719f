import PyProof.Rows.All
import Wide.All
import OpenK.AllK
import Wide.FinOn
import KE.KExcSuper
import HandS.ForExc
import HandS.ExcInit
import HandS.TryMany
import HandS.ExcField
import HandS.ExcIs
import HandS.ExcSuper
import HandS.ForMost
import HandS.ClsMeth
import HandS.Star
import HandS.IsInst
import HandS.TupAny
import HandS.TupMul
import HandS.Style
import HandS.Wide
import HandS.Codes
import KE.KOpsOwn
import KE.GoesNew
import KE.GoesMore
import HandS.Iter
import HandS.Walk
import KE.KOwnIter
import KE.KSuperObj
import KE.KTupSum
import KE.KRevSl
import HandS.HeadNt
import HandS.HeadHook3
import HandS.Head2
import HandS.EndBits
import HandS.CallLocal
import HandS.ExcOwn
import HandS.WordsExc
import HandS.Strs
import HandS.MakeKw
import HandS.Property
import HandS.MakeKwOnly
import HandS.SortKw
import KE.DataMinMax
import KE.KEqSeq
import HandS.Flow
import HandS.Sort
import PyProof.ListRange
import HandS.SortInts
import HandS.SetFor
import KE.GoesEnumKw
import KE.GoesZip
import HandS.Zip
import KE.KBools
import KE.KEqDict
import KE.RegKParD
import KE.KExcLine
import PyProof.MeetsIn
import PyProof.Rows.Range3
import HandS.Keys
import PySem.Challenge.RW_nightsoff_k14_one_after_another
set_option Elab.async false
set_option linter.all false
set_option maxRecDepth 100000
set_option maxHeartbeats 4000000
/-! # Exceptions of the program: every class over NightsError whose __init__ says super().__init__(text) and then stores its parameters. -/
namespace NX
open PySem PySem.W PySem.Calls PyProof.Rows PySem.HandSPX

/-- the stores behind super().__init__: field and parameter -/
inductive Sto : List Stmt → List (Str × Str) → Prop
  | nil : Sto [] []
  | cons {f x : Str} {p1 p2 p3 p4 : Pos} {r : List Stmt} {l : List (Str × Str)} (h : Sto r l) : Sto (.Assign [.Attribute (.Name "self" p1) f p2] (.Name x p3) p4 :: r) ((f, x) :: l)

/-- an exception that is made: its fields, the newest first -/
def Half (h : Heap) (C e : Addr) (d : Option Addr) (fs : List (Str × Value)) : Prop :=
  ∃ t : Addr, h.get? e = some { cls := .ref C, dict := d, data := .fields #[.ref t, .none, .none, .none, .bool false, .none] } ∧
    match d with
    | none => fs = []
    | some dx => dx ≠ e ∧ ∃ m, h.Ns1 dx m ∧ ∀ f, m f = fs.lookup f

structure ClsX (K : Frag) (C : Addr) : Prop where
  cls : ∃ nm q N bs bm sn sub ab col dd k0 k1 k2 k3 k5, K.lookup C = some (excClassObj nm q C N bs bm true sn sub ab col dd k0 k1 k2 k3 k5 "ValueError.__new__") ∧ refsVE bm = true ∧ alongIn K "__init__" bm = some (some (.builtin "ValueError.__init__"))
  sa : findIn K (.ref C) "__setattr__" = some (some (.builtin "object.__setattr__"))
  ve : subIn K (.ref C) (.type "ValueError") = some true

theorem lookup_cons (f g : Str) (y : Value) (fs : List (Str × Value)) : ((f, y) :: fs).lookup g = if g = f then some y else fs.lookup g := by
  by_cases h : g = f
  · subst h
    simp [List.lookup]
  · have e : (g == f) = false := by simpa using h
    rw [if_neg h]
    simp [List.lookup, e]
theorem lookup_mem_keys : ∀ {l : List (Str × Value)} {x : Str} {v : Value}, l.lookup x = some v → x ∈ l.map (·.1)
  | [], _, _, h => by cases h
  | (f, y) :: r, x, v, h => by
    rw [lookup_cons] at h
    by_cases e : x = f
    · rw [e]
      exact List.mem_cons_self ..
    · rw [if_neg e] at h
      exact List.mem_cons_of_mem _ (lookup_mem_keys h)
theorem within_map {fs : List (Str × Value)} {m : Str → Option Value} (r : ∀ f, m f = fs.lookup f) : Within m (fs.map (·.1)) := fun y hy => by
  rw [r y] at hy
  clear r
  induction fs with
  | nil => exact absurd rfl hy
  | cons p l ih =>
    obtain ⟨f, z⟩ := p
    rw [lookup_cons] at hy
    by_cases e : y = f
    · rw [e]
      exact List.mem_cons_self ..
    · rw [if_neg e] at hy
      exact List.mem_cons_of_mem _ (ih hy)

section
variable {prog : Program} {w : World} {A : Around} {E : Value → Shared → Prop} {K : Frag} {C e L : Addr}
/-- one store -/
theorem put_field (T : ClsX K C) {h : Heap} {g : Array GenState} {dr : Drawn} {tk : Nat} {os : OsState} {d : Option Addr} {fs : List (Str × Value)} {f : Str} {v : Value} {Q : Unit → Shared → Prop} (X : K.In h) (I : Half h C e d fs) (hl : fs.length ≤ 900)
    (hno : findIn K (.ref C) f = some none)
    (hq : ∀ h' tk' d', Half h' C e (some d') ((f, v) :: fs) → (∀ b o, b ≠ e → (∀ dx, d = some dx → b ≠ dx) → h.get? b = some o → h'.get? b = some o) → (∀ dx, d = some dx → d' = dx) → (d = none → h.objs.size ≤ d') → Q () ⟨h', g, dr, tk', os⟩) :
    wpAny (model prog w) A (setAttr (.ref e) f v) Q E ⟨h, g, dr, tk, os⟩ := by
  obtain ⟨nm, q, N, bs, bm, sn, sub, ab, col, dd, k0, k1, k2, k3, k5, hC, hbm, _⟩ := T.cls
  have hcl : clsIn K C = some { name := nm, bases := bs, mro := .ref C :: bm, ns := N, qualname := q, hasDict := true, slotNames := sn, subclasses := sub, abstract := ab, collection := col, hasDel := false } := by unfold clsIn; rw [hC] <;> rfl
  obtain ⟨t, ho, hd⟩ := I
  cases d with
  | none =>
    have hfs : fs = [] := hd
    subst hfs
    refine set_plain X (ox := { cls := .ref C, dict := none, data := .fields #[.ref t, .none, .none, .none, .bool false, .none] }) (od := none) ⟨ho, rfl, rfl, trivial⟩ T.sa ?_
    refine exc_osa X ho hcl (show refsVE (.ref C :: bm) = true from hbm) rfl hno (fun h' tk' dx k dn dne hx hn => ?_)
    refine hq h' tk' dx ⟨t, hx, dne, _, hn, fun y => ?_⟩ (fun b o hb _ z => k b o hb z) (fun _ z => nomatch z) fun _ => dn
    rw [lookup_cons]
    rfl
  | some dx =>
    obtain ⟨dne, m, hns, rel⟩ := hd
    have hw := within_map rel
    obtain ⟨oD, _, _, hoD, _, _⟩ := hns.count hw
    refine set_plain X (ox := { cls := .ref C, dict := some dx, data := .fields #[.ref t, .none, .none, .none, .bool false, .none] }) (od := some oD) ⟨ho, rfl, rfl, hoD⟩ T.sa ?_
    refine PySem.OEX.osa_old X ho hns hw (by rw [List.length_map]; omega) hcl (show refsVE (.ref C :: bm) = true from hbm) rfl hno (fun h' tk' k hn => ?_)
    refine hq h' tk' dx ⟨t, k _ _ (Ne.symm dne) ho, dne, _, hn, fun y => ?_⟩ (fun b o _ hb z => k b o (hb dx rfl) z) (fun _ z => Option.some.inj z) fun z => nomatch z
    rw [lookup_cons, rel y]
/-- the stores, one after the other -/
theorem sto_run (T : ClsX K C) {env : Env} {m : Str → Option Value} (hLv : env.locals = L) (hk : env.scope.kind = .function) (hs : env.kindOf "self" = some .local) (hm : m "self" = some (.ref e)) :
    ∀ {r : List Stmt} {l : List (Str × Str)}, Sto r l → (∀ p ∈ l, env.kindOf p.2 = some .local ∧ (m p.2).isSome = true ∧ (p.2 == ("__debug__" : Str)) = false ∧ findIn K (.ref C) p.1 = some none) →
    ∀ {h : Heap} {g : Array GenState} {dr : Drawn} {tk : Nat} {os : OsState} {d : Option Addr} {fs : List (Str × Value)} {Q : Flow → Shared → Prop}, K.In h → K.lookup e = none → (∀ dx, d = some dx → K.lookup dx = none) → Half h C e d fs → L ≠ e → (∀ dx, d = some dx → L ≠ dx) → h.Ns L m → fs.length + l.length ≤ 900 →
      (∀ h' tk' d', Half h' C e d' ((l.map fun p => (p.1, (m p.2).getD .none)).reverse ++ fs) → (∀ b o, b ≠ e → (∀ dx, d = some dx → b ≠ dx) → h.get? b = some o → h'.get? b = some o) → (∀ dx, d = some dx → d' = some dx) →
        (d = none → ∀ dx, d' = some dx → h.objs.size ≤ dx) → Q .next ⟨h', g, dr, tk', os⟩) →
      wpAny (model prog w) A (execs r env) Q E ⟨h, g, dr, tk, os⟩ := by
  intro r l S
  induction S with
  | nil =>
    intro _ h g dr tk os d fs Q _ _ _ I _ _ _ _ hq
    exact wpAny_execs_nil (hq h tk d I (fun _ _ _ _ z => z) (fun _ z => z) fun z dx y => by rw [z] at y; cases y)
  | @cons f x p1 p2 p3 p4 r l hS ih =>
    intro hp h g dr tk os d fs Q X he hde I hLe hLd hn hl hq
    obtain ⟨q1, q2, q3, q4⟩ := hp (f, x) (List.mem_cons_self ..)
    obtain ⟨v, hv⟩ := Option.isSome_iff_exists.mp q2
    subst hLv
    refine wpAny_execs_cons (plainObj_wpAny_Assign_Attribute ?_)
    refine PySem.ESX.ldL (v := v) hn hv (PySem.ESX.ldL (v := .ref e) hn hm ?_ hk hs) hk q1 q3
    refine put_field T X I (by simp only [List.length_cons] at hl; omega) q4 fun h' tk' d' I' k' kd kn => ?_
    have nb : ∀ b o, K.lookup b = some o → b ≠ e ∧ ∀ dx, d = some dx → b ≠ dx := fun b o z => ⟨fun y => (by rw [y, he] at z; cases z), fun dx y w => (by rw [w, hde dx y] at z; cases z)⟩
    have X' : K.In h' := fun b o z => k' b o (nb b o z).1 (nb b o z).2 (X b o z)
    have hLn : env.locals < h.objs.size := hn.lt
    have hLd' : env.locals ≠ d' := by
      cases d with
      | none => exact Nat.ne_of_lt (Nat.lt_of_lt_of_le hLn (kn rfl))
      | some dx => rw [kd dx rfl]; exact hLd dx rfl
    have hn' : h'.Ns env.locals m := by
      obtain ⟨oL, es, ep, hL, rr⟩ := hn
      exact ⟨oL, es, ep, k' _ _ hLe hLd hL, rr⟩
    have he' : K.lookup d' = none := by
      cases d with
      | none =>
        cases z : K.lookup d' with
        | none => rfl
        | some o => exact absurd (Nat.lt_of_lt_of_le (Heap.lt_size (X _ _ z)) (kn rfl)) (Nat.lt_irrefl _)
      | some dx => rw [kd dx rfl]; exact hde dx rfl
    refine ih (fun p hp' => hp p (List.mem_cons_of_mem _ hp')) X' he (fun dx z => by cases z; exact he') I' hLe (fun dx z => by cases z; exact hLd') hn' (by simp only [List.length_cons] at hl ⊢; omega) fun h2 tk2 d2 I2 k2 kd2 _ => ?_
    have ed2 : d2 = some d' := kd2 d' rfl
    refine hq h2 tk2 d2 ?_ (fun b o hb hd z => k2 b o hb (fun dx y => ?_) (k' b o hb hd z)) (fun dx z => ?_) fun z dx y => ?_
    · rw [List.map_cons, List.reverse_cons, List.append_assoc]
      rw [hv]
      exact I2
    · cases y
      cases d with
      | none => exact Nat.ne_of_lt (Nat.lt_of_lt_of_le (Heap.lt_size z) (kn rfl))
      | some dx => rw [kd dx rfl]; exact hd dx rfl
    · rw [ed2, kd dx z]
    · rw [ed2] at y
      cases y
      exact kn z
end

/-- the statement super().__init__(text) -/
def supS (msg : Str) (k : Nat) (q1 q2 q3 q4 q5 q6 : Pos) : Stmt := .Expr (.Call (.Attribute (.Call (.Name "super" q1) [] [] q2) "__init__" q3) [.Constant (.str msg) k q4] [] q5) q6
structure InitX (prog : Program) (K : Frag) (C fI : Addr) (qual : Str) (params : Arguments) (scope : Scope) (body : List Stmt) (ar : Arg) (l : List (Str × Str)) : Prop where
  txt : ∃ msg k q1 q2 q3 q4 q5 q6 r, body = supS msg k q1 q2 q3 q4 q5 q6 :: r ∧ Sto r l ∧ (∀ env : Env, env.scope = scope → interactive env = false) ∧
    ∀ env : Env, env.scope = scope → ∃ pl : Sem Bool, eval (.Call (.Attribute (.Call (.Name "super" q1) [] [] q2) "__init__" q3) [.Constant (.str msg) k q4] [] q5) env = (do
      let ov ← attributeBase (.Call (.Name "super" q1) [] [] q2) "__init__" env (eval (.Call (.Name "super" q1) [] [] q2) env)
      standAt q3.atName
      let (f, first) ← holding [ov] (getMethod ov "__init__" pl)
      callWith q5 f first (backTo q5 (starEach [.Constant (.str msg) k q4] env)) [])
  iC : findIn K (.ref C) "__init__" = some (some (.ref fI))
  tC : typeIn K (.ref fI) = some (.type "function")
  fn : ∃ (oc : Value) (od : Option Addr) (kV doc pm : Value) (an : Option Addr) (cda : Addr) (ct : Value) (osl : Array (Option Value)) (cc : Addr) (cl : Value) (cld : Option Addr) (csl : Array (Option Value)) (ccl : Value) (cdd : Option Addr) (vs : Array Value) (ccs : Array (Option Value)) (file : Str) (tf : Tok),
    K.lookup fI = some ⟨oc, od, .func (ksFn "__init__" qual params body scope .none kV doc pm an (.ref cda) ct cc), osl⟩ ∧ codeIn K (.ref cda) qual = true ∧
    K.lookup cc = some ⟨cl, cld, .cell (some (.ref C)), csl⟩ ∧ K.lookup cda = some ⟨ccl, cdd, .fields vs, ccs⟩ ∧ vs[2]? = some (.str file tf) ∧ ((prog.main.file : Str) == file) = true
  par : (params.posonlyargs ++ params.args).head? = some ar
  arN : ar.arg = "self"
  sup : scope.names.lookup ("super" : Str) = some .globalImplicit
  cls : scope.names.lookup ("__class__" : Str) = some .free
  slf : scope.names.lookup ("self" : Str) = some .local
  loc : ∀ p ∈ l, scope.names.lookup p.2 = some .local ∧ (p.2 == ("__debug__" : Str)) = false ∧ findIn K (.ref C) p.1 = some none
  cell : ∀ x ∈ scope.names, x.2 ≠ .cell
  kind : scope.kind = .function
  co : scope.isCoroutine = false
  gen : scope.isGenerator = false
  top : (prog.main.scope.names.lookup ("super" : Str)).isSome = false
  few : l.length ≤ 900

/-- what stands behind the making of an exception -/
structure Made (h h' : Heap) (C e : Addr) (d : Option Addr) (fs : List (Str × Value)) : Prop where
  keep : ∀ b o, h.get? b = some o → h'.get? b = some o
  new : h.objs.size ≤ e
  obj : Half h' C e d fs
  dct : ∀ dx, d = some dx → h.objs.size ≤ dx

/-- a bound wrapper called with one written text -/
theorem mw_call {M : Model} {A : Around} {E : Value → Shared → Prop} {s : Shared} {u x : Addr} {i : String} {pos : Pos} {env : Env} {msg : Str} {kk : Nat} {q4 : Pos} {Q : Value → Shared → Prop} (hu : s.heap.get? u = some (kxs_mw i x))
    (h : ∀ t, wpAny M A (call (.ref u) [.str msg t]) Q E { s with toks := s.toks + 1 }) :
    wpAny M A (callWith pos (.ref u) [] (backTo pos (starEach [.Constant (.str msg) kk q4] env)) []) Q E s := by
  have he : starEach [.Constant (.str msg) kk q4] env = (false, eval (.Constant (.str msg) kk q4) env) :: starEach [] env := by rfl
  have hpl : (backTo pos (starEach [] env)).any (·.1) = false := by rfl
  rw [he]
  refine kxs_callWith (i := i) (x := x) (by show (false || (backTo pos (starEach [] env)).any (·.1)) = false; rw [hpl]; rfl) (evalArgs_plain ?_)
  show wpAny M A (spliced (backTo pos (starEach [.Constant (.str msg) kk q4] env))) _ E s
  exact spliced_more (Calls.Constant_str (spliced_none ⟨hu, h _⟩))

section
variable {prog : Program} {w : World} {A : Around} {R : Result → Shared → Prop} {K : Frag} {C fI : Addr} {qual : Str} {params : Arguments} {scope : Scope} {body : List Stmt} {ar : Arg} {l : List (Str × Str)} {mg mb : Str → Option Value}
theorem exn_made (T : ClsX K C) (I : InitX prog K C fI qual params scope body ar l) {s : Shared} {us : List Value} {binds : List (Str × Value)} (X : K.In s.heap) (hlim : s.heap.NoLimit) (hG : s.heap.Ns mainGlobals mg) (hB : s.heap.Ns builtinsNs mb) (hsup : mg "super" = none) (hmb : mb "super" = some (.type "super"))
    (ho : nsIn K cStatics "thirdparty.any" = some none)
    (hroom : A.depth + 1 < recursionLimit) (hlen : us.length ≤ sizeLine)
    (hbind : ∀ (s' : Shared) (e : Addr) (fd : FuncData), fd.params = params → fd.scope = scope → fd.defaults = .none → BindsTo s' fd ⟨.ref e :: us, []⟩ (("self", .ref e) :: binds))
    (hin : ∀ p ∈ l, (binds.lookup p.2).isSome = true) (hbl : ∀ y ∈ binds, scope.names.lookup y.1 = some .local) (hnd : (binds.map (·.1)).Nodup ∧ ("self" : Str) ∉ binds.map (·.1))
    (hq : ∀ h' tk e d, Made s.heap h' C e d (l.map fun p => (p.1, (binds.lookup p.2).getD .none)).reverse → R (.ok (.ret (.ref e))) { s with heap := h', toks := tk }) :
    codeAny (model prog w) A (.call (.ref C) ⟨us, []⟩) R s := by
  obtain ⟨nm, q, N, bs, bm, sn, sub, ab, col, dd, k0, k1, k2, k3, k5, hC, hbm, hal⟩ := T.cls
  obtain ⟨msg, kk, q1, q2, q3, q4, q5, q6, r, eb, hS, hint, hev⟩ := I.txt
  obtain ⟨oc, od, kV, doc, pm, an, cda, ct, osl, cc, cl, cld, csl, ccl, cdd, vs, ccs, file, tf, hfn, hcd, hcell, hcda, hvs, hfile⟩ := I.fn
  have hcl : clsIn K C = some { name := nm, bases := bs, mro := .ref C :: bm, ns := N, qualname := q, hasDict := true, slotNames := sn, subclasses := sub, abstract := ab, collection := col, hasDel := false } := by unfold clsIn; rw [hC] <;> rfl
  obtain ⟨hp, g, dr, tk, os⟩ := s
  have k : ∀ b o, hp.get? b = some o → ((hp.push (kdv_tup us)).push (excO C hp.objs.size)).get? b = some o := fun b o e => Heap.get?_push_of_some _ (Heap.get?_push_of_some _ e)
  have hget : ((hp.push (kdv_tup us)).push (excO C hp.objs.size)).get? (hp.objs.size + 1) = some (excO C hp.objs.size) := by heap_get
  have hnx : K.lookup (hp.objs.size + 1) = none := by
    cases e : K.lookup (hp.objs.size + 1) with
    | none => rfl
    | some o =>
      have z : hp.get? (hp.objs.size + 1) = some o := X _ _ e
      exact absurd (Nat.lt_of_succ_lt (Heap.lt_size z)) (Nat.lt_irrefl _)
  refine call_own F.excBase_ValueError (fun X => refsVE_contains X bm hbm) (X _ _ hC) (looks_findIn X I.iC) (fun self => bind_fn X self I.tC) hlen ?_
  refine ks_codeAny_call_defAt (binds := ("self", .ref (hp.objs.size + 1)) :: binds) (body := body) (show A.depth + 1 < recursionLimit from hroom) (k _ _ (X _ _ hfn)) rfl (hlim.keeps k) (codeRec_of (X.keeps k) hcd) rfl (hbind _ _ _ rfl rfl rfl) I.cell ?_ (fun h₀ hns hk₀ => ?_) I.co I.gen I.kind
  · intro x hx
    rcases List.mem_cons.mp hx with rfl | hx
    · exact I.slf
    · exact hbl x hx
  · subst eb
    let env : Env := callEnv (ksFn "__init__" qual params (supS msg kk q1 q2 q3 q4 q5 q6 :: r) scope .none kV doc pm an (.ref cda) ct cc) ((hp.push (kdv_tup us)).push (excO C hp.objs.size)).objs.size fI
    have k₀ : ∀ b o, hp.get? b = some o → h₀.get? b = some o := fun b o z => hk₀ b o (k b o z)
    have X₀ : K.In h₀ := X.keeps k₀
    have hx₀ := hk₀ _ _ hget
    obtain ⟨pl, hpl⟩ := hev env rfl
    refine ks_wpAt_execs_cons (ks_wpAt_Expr_any (ks_wpAt_MethodCall (pl := pl) ?_ hpl) (hint env rfl))
    refine ks_wpAt_super_base (f := fI) (cc := cda) I.sup I.cls (by decide) rfl (X₀ _ _ hfn) rfl I.par rfl (X₀ _ _ hcda) rfl hvs hfile I.top ?_
    refine ks_loadName_global I.kind I.sup (loadGlobal_builtin (hG.keeps k₀) hsup (hB.keeps k₀) hmb ⟨rfl, ?_⟩)
    refine wpAny_loadName_free I.kind I.cls rfl ⟨_, X₀ _ _ hcell, rfl⟩ ?_
    refine wpAny_loadName_local I.kind (show env.kindOf ar.arg = some .local by rw [I.arN]; exact I.slf) hns (v := .ref (hp.objs.size + 1)) (by rw [I.arN, lookup_reverse_of_nodup _ (by rw [List.map_cons]; exact List.nodup_cons.mpr ⟨hnd.2, hnd.1⟩)]; simp [List.lookup]) ?_
    refine ks_wpAny_isType_cls (X₀ _ _ hC) rfl ⟨rfl, ?_⟩
    refine ks_wpAny_call_super (X₀ _ _ hC) rfl hx₀ rfl (fun c z => nomatch z) (looks_mroIn X₀ ?_) (fun h1 e1 k1 => ?_)
    · unfold mroIn
      rw [hcl, Option.bind_some, if_neg (show ¬ (List.isEmpty (Value.ref C :: bm) = true) from Bool.false_ne_true)]
      simp
    · have X₁ : K.In h1 := X₀.keeps k1
      have hx₁ := k1 _ _ hx₀
      have Ity : Looks (model prog w) h1 (typeOf (.ref (hp.objs.size + 1))) (.ref C) := (show InstAt h1 (hp.objs.size + 1) (excO C hp.objs.size) C none from ⟨hx₁, rfl, rfl, trivial⟩).type
      have hxC : hp.objs.size + 1 ≠ C := fun z => by
        have y := X _ _ hC
        rw [← z] at y
        exact absurd (Nat.lt_of_succ_lt (Heap.lt_size y)) (Nat.lt_irrefl _)
      refine kxs_getMethod kxs_ValueError e1 (looks_opaque X₁ ho) ((looks_clsIn X₁ hcl).andThen .now) (l := bm) (by simp [List.dropWhile_cons]) X₁ hal (Ity.andThen (looks_subIn X₁ T.ve)) hxC (by decide) ?_
      refine mw_call (u := h1.objs.size) (x := hp.objs.size + 1) (Heap.get?_push_at rfl rfl) fun t => ?_
      have hw : (h1.push (kxs_mw "ValueError.__init__" (hp.objs.size + 1))).get? h1.objs.size = some (kxs_mw "ValueError.__init__" (hp.objs.size + 1)) := Heap.get?_push_at rfl rfl
      have k2 : ∀ b o, h1.get? b = some o → (h1.push (kxs_mw "ValueError.__init__" (hp.objs.size + 1))).get? b = some o := fun b o z => Heap.get?_push_of_some _ z
      have X₂ : K.In _ := X₁.keeps k2
      refine wpAny_call (codeAny_of_tree ?_)
      show wpAny _ _ (callAny (.ref h1.objs.size) ⟨[.str msg t], []⟩) _ _ _
      simp only [callAny]
      refine wpAny_bind (wpAny_load hw ?_)
      simp only [kxs_mw, show (Value.type "method-wrapper" == Value.type "method" || Value.type "method-wrapper" == Value.type "builtin_function_or_method" || Value.type "method-wrapper" == Value.type "method-wrapper") = true by decide, if_true]
      refine KFB.if_so (by decide) ?_
      refine wpAny_bind (check_bound_init F.excBase_ValueError.toExcCallFacts (X₂ _ _ hC) (k2 _ _ hx₁) rfl ?_)
      refine wpAny_bind (wpAny_pure (wpAny_pure ?_))
      refine ⟨plainId_quiet F.excBase_ValueError.init.plain _, codeAny_builtin F.excBase_ValueError.initEntry ?_⟩
      refine exc_init_tree (cls := .ref C) (t0 := hp.objs.size) (dv := none) (c2 := .none) (c3 := .none) (b4 := .bool false) (k2 _ _ hx₁) (by show 1 ≤ sizeLine; decide) fun h3 k3 e3 _ => ?_
      have kk3 : ∀ b o, b ≠ hp.objs.size + 1 → h₀.get? b = some o → h3.get? b = some o := fun b o hb z => k3 b o hb (k2 b o (k1 b o z))
      have notE : ∀ b o, hp.get? b = some o → b ≠ hp.objs.size + 1 := fun b o z => Nat.ne_of_lt (Nat.lt_of_lt_of_le (Heap.lt_size z) (Nat.le_succ _))
      have k4 : ∀ b o, hp.get? b = some o → h3.get? b = some o := fun b o z => kk3 b o (notE b o z) (k₀ b o z)
      have hL : env.locals ≠ hp.objs.size + 1 := by
        show ((hp.push (kdv_tup us)).push (excO C hp.objs.size)).objs.size ≠ hp.objs.size + 1
        rw [Heap.size_push, Heap.size_push]
        omega
      have hn3 : h3.Ns env.locals fun x => List.lookup x ((("self" : Str), Value.ref (hp.objs.size + 1)) :: binds).reverse := by
        obtain ⟨oL, es, ep, hoL, rr⟩ := hns
        exact ⟨oL, es, ep, kk3 _ _ hL hoL, rr⟩
      have nd : (((("self" : Str), Value.ref (hp.objs.size + 1)) :: binds).map (·.1)).Nodup := by
        rw [List.map_cons]
        exact List.nodup_cons.mpr ⟨hnd.2, hnd.1⟩
      have lk : ∀ x : Str, x ≠ "self" → List.lookup x ((("self" : Str), Value.ref (hp.objs.size + 1)) :: binds).reverse = binds.lookup x := fun x hx => by
        rw [lookup_reverse_of_nodup _ nd, lookup_cons, if_neg hx]
      have pne : ∀ p ∈ l, p.2 ≠ ("self" : Str) := fun p hp' e => by
        have q := hin p hp'
        rw [e] at q
        obtain ⟨v, hv⟩ := Option.isSome_iff_exists.mp q
        have : ("self" : Str) ∈ binds.map (·.1) := by
          exact lookup_mem_keys hv
        exact hnd.2 this
      refine wpAt_of_wpAny (sto_run T (env := env) (d := none) rfl I.kind I.slf (by rw [lookup_reverse_of_nodup _ nd, lookup_cons, if_pos rfl]) hS (fun p hp' => ?_) (X.keeps k4) hnx (fun _ z => nomatch z) ⟨_, e3, rfl⟩ hL (fun _ z => nomatch z) hn3 (by have := I.few; simpa using this) fun h4 tk4 d4 I4 k5 _ kn => ?_)
      · obtain ⟨a1, a2, a3⟩ := I.loc p hp'
        exact ⟨a1, by rw [lk _ (pne p hp')]; exact hin p hp', a2, a3⟩
      · refine ⟨rfl, hq h4 tk4 _ d4 ⟨fun b o z => k5 b o (notE b o z) (fun _ y => nomatch y) (k4 b o z), Nat.le_succ _, ?_, fun dx y => ?_⟩⟩
        · have e5 : (l.map fun p => (p.1, (List.lookup p.2 ((("self" : Str), Value.ref (hp.objs.size + 1)) :: binds).reverse).getD Value.none)) = l.map fun p => (p.1, (binds.lookup p.2).getD Value.none) :=
            List.map_congr_left fun p hp' => by rw [lk _ (pne p hp')]
          rw [e5, List.append_nil] at I4
          exact I4
        · have b : hp.objs.size ≤ h3.objs.size := Nat.le_trans (Nat.le_succ _) (Nat.le_of_lt (Heap.lt_size e3))
          exact Nat.le_trans b (kn rfl dx y)
end
end NX

set_option maxRecDepth 100000
set_option maxHeartbeats 4000000
/-! # Raising them, over the layer -/
namespace L2
open PySem PySem.Spec PyProof.Rows

/-- a class of the program's errors: its parameters ps, what it stores (field, parameter) -/
structure Exn (prog : Program) (K : PySem.W.Frag) (mg : Str → Option Value) (x : Str) (C fI : Addr) (ps : List Str) (l : List (Str × Str)) : Prop where
  cls : NX.ClsX K C
  ini : ∃ qual params scope body ar, NX.InitX prog K C fI qual params scope body ar l ∧ (∀ (s' : Shared) (e : Addr) (fd : FuncData) (us : List Value), us.length = ps.length → fd.params = params → fd.scope = scope → fd.defaults = .none → BindsTo s' fd ⟨.ref e :: us, []⟩ (("self", .ref e) :: ps.zip us)) ∧
    ∀ p ∈ ps, scope.names.lookup p = some .local
  loc : ∀ p ∈ l, p.2 ∈ ps
  nod : ps.Nodup ∧ ("self" : Str) ∉ ps
  gC : mg x = some (.ref C)
  sup : mg "super" = none
  any : PySem.W.nsIn K cStatics "thirdparty.any" = some none
  kC : PySem.W.keepIn K (.ref C) = true
  exC : PySem.W.subIn K (.ref C) (.type "BaseException") = some true
  tyC : PySem.W.typeIn K (.ref C) = some (.type "type")

/-- the fields of an error made with vs -/
def fieldsX (ps : List Str) (l : List (Str × Str)) (vs : List V) : List (Str × V) := (l.map fun p => (p.1, ((ps.zip vs).lookup p.2).getD .non)).reverse

theorem look_zip : ∀ {ps : List Str} {vs : List V} {us : List Value} {x : Str}, Vals vs us → RelO ((ps.zip vs).lookup x) ((ps.zip us).lookup x)
  | [], _, _, _, _ => by simp [RelO]
  | _ :: _, [], _, _, .nil => by simp [RelO]
  | p :: ps, v :: vs, _, x, .cons (b := u) r t => by
    rw [List.zip_cons_cons, List.zip_cons_cons]
    by_cases e : x = p
    · subst e
      simpa [List.lookup, RelO] using r
    · have q : (x == p) = false := by simpa using e
      simp only [List.lookup, q]
      exact look_zip t
theorem look_some : ∀ {ps : List Str} {us : List Value} {x : Str}, x ∈ ps → us.length = ps.length → ((ps.zip us).lookup x).isSome = true
  | [], _, _, h, _ => by cases h
  | p :: ps, [], _, _, h => by cases h
  | p :: ps, u :: us, x, h, hl => by
    rw [List.zip_cons_cons, NX.lookup_cons]
    by_cases e : x = p
    · rw [if_pos e]
      rfl
    · rw [if_neg e]
      exact look_some ((List.mem_cons.mp h).resolve_left e) (by simpa using hl)
theorem map_fst_zip : ∀ {ps : List Str} {us : List Value}, us.length = ps.length → (ps.zip us).map (·.1) = ps
  | [], _, _ => rfl
  | p :: ps, [], h => by cases h
  | p :: ps, u :: us, h => by
    rw [List.zip_cons_cons, List.map_cons, map_fst_zip (by simpa using h)]
theorem relO_fields {ps : List Str} {vs : List V} {us : List Value} (r : Vals vs us) (hl : us.length = ps.length) : ∀ {l : List (Str × Str)}, (∀ p ∈ l, p.2 ∈ ps) → ∀ f, RelO ((fieldsX ps l vs).lookup f) (((l.map fun p => (p.1, ((ps.zip us).lookup p.2).getD Value.none)).reverse).lookup f) := by
  intro l hp f
  have key : ∀ {l : List (Str × Str)}, (∀ p ∈ l, p.2 ∈ ps) → RelO ((l.map fun p => (p.1, ((ps.zip vs).lookup p.2).getD V.non)).lookup f) ((l.map fun p => (p.1, ((ps.zip us).lookup p.2).getD Value.none)).lookup f) := by
    intro l
    induction l with
    | nil => intro _; simp [RelO]
    | cons p r' ih =>
      intro hp
      rw [List.map_cons, List.map_cons]
      by_cases e : f = p.1
      · have q : (f == p.1) = true := by simpa using e
        simp only [List.lookup, q]
        have z := look_zip (ps := ps) (x := p.2) r
        obtain ⟨u, hu⟩ := Option.isSome_iff_exists.mp (look_some (us := us) (hp p (List.mem_cons_self ..)) hl)
        rw [hu] at z ⊢
        cases y : List.lookup p.2 (ps.zip vs) with
        | none => rw [y] at z; exact z.elim
        | some v => rw [y] at z; exact z
      · have q : (f == p.1) = false := by simpa using e
        simp only [List.lookup, q]
        exact ih fun p' h' => hp p' (List.mem_cons_of_mem _ h')
  unfold fieldsX
  rw [← List.map_reverse, ← List.map_reverse]
  exact key fun p h => hp p (List.mem_reverse.mp h)

/-- X(e, ..) -/
def tMkX (C : Addr) (ps : List Str) (l : List (Str × Str)) (ta : TA) : St → Hp → XK → Prop := fun σ H Q => ta σ H fun vs H1 => vs.length = ps.length ∧ ∀ d, H1 d = none → Q (.ref C) (some d) (upd H1 d (.xd (fieldsX ps l vs)))
section
variable {X : Cx} {C fI : Addr} {x : Str} {ps : List Str} {l : List (Str × Str)}
theorem mk_made (T : Exn X.prog X.K X.mg x C fI ps l) (hl0 : l ≠ []) {k : Nat} (hr : Room k X.A) {pins : List (Addr × Obj)} {σ : St} {H1 : Hp} {Q : XK} {s1 : Shared} {vs : List V} {us : List Value} (I1 : Inv X pins σ H1 s1) (r1 : Vals vs us) (hlen : vs.length = ps.length) (hps : ps.length ≤ 900)
    (q1 : ∀ d, H1 d = none → Q (.ref C) (some d) (upd H1 d (.xd (fieldsX ps l vs)))) : wpAny (model X.prog X.w) X.A (call (.ref C) us) (MkP X pins σ Q) X.xe s1 := by
  obtain ⟨qual, params, scope, body, ar, hI, hb, hloc⟩ := T.ini
  have hus : us.length = ps.length := by rw [← r1.length]; exact hlen
  obtain ⟨hG, mb, hB, hbb⟩ : s1.heap.Ns mainGlobals X.mg ∧ ∃ mb : Str → Option Value, s1.heap.Ns builtinsNs mb ∧ ∀ x : Str, x ≠ "__name__" → mb x = bootBuiltins x := by
    obtain ⟨_, h1, ⟨mb, h2, h3⟩, _⟩ := I1.mod
    exact ⟨h1.keeps I1.bk, mb, h2.keeps I1.bk, h3⟩
  refine wpAny_call (NX.exn_made (binds := ps.zip us) T.cls hI I1.kIn I1.nolimit hG hB T.sup ((hbb _ (by decide)).trans (by decide +kernel)) T.any (by have := hr.dp; omega) (by rw [hus]; exact Nat.le_trans hps (by decide)) (fun s' e fd h1 h2 h3 => hb s' e fd us hus h1 h2 h3)
    (fun p hp => look_some (T.loc p hp) hus) (fun y hy => hloc _ (by rw [← map_fst_zip hus]; exact List.mem_map_of_mem hy)) (by rw [map_fst_zip hus]; exact T.nod) fun h' tk' e d M => ?_)
  obtain ⟨hp, g, dr, tk, os⟩ := s1
  obtain ⟨t0, hoe, hdd⟩ := M.obj
  cases d with
  | none => exact absurd (by simpa using hdd) hl0
  | some d =>
    obtain ⟨dne, m, hns, hm⟩ := hdd
    show MkP X pins σ Q (.ref e) ⟨h', g, dr, tk', os⟩
    obtain ⟨G', g1, g2⟩ := restrict h' fun b => decide (b ≠ e)
    have gk : ∀ b, b ≠ e → G'.get? b = h'.get? b := fun b hb => g1 b (decide_eq_true hb)
    have ge : G'.get? e = none := g2 e (by simp)
    have old : ∀ b o, hp.get? b = some o → G'.get? b = some o := fun b o q => (gk b (Nat.ne_of_lt (Nat.lt_of_lt_of_le (Heap.lt_size q) M.new))).trans (M.keep b o q)
    have dbig : hp.objs.size ≤ d := M.dct d rfl
    have ob : ObjOk X.prog X.w (upd H1 d (.xd (fieldsX ps l vs))) G' d (.xd (fieldsX ps l vs)) :=
      ⟨m, hns.at (fun o q => (gk d dne).trans q), fun f => by rw [hm f]; exact relO_fields r1 hus T.loc f⟩
    have J : Inv X pins σ (upd H1 d (.xd (fieldsX ps l vs))) ⟨G', g, dr, tk', os⟩ := I1.laid (t' := tk') old dbig ob
    refine ⟨e, _, _, ⟨G', g, dr, tk', os⟩, _, .ref C, some d, rfl, J, fun b o q => ?_, ge, hoe, ⟨rfl, rfl⟩, rfl, rfl, ?_, rfl, I1.bare, raises_own T.exC T.tyC, q1 d (I1.hok.fresh dbig)⟩
    · by_cases hb : b = e
      · have q' : G'.get? b = some o := q
        rw [hb, ge] at q'; cases q'
      · exact (gk b hb).symm.trans q
    · rw [upd_ne (Ne.symm dne)]
      exact I1.hok.fresh M.new
variable {e : Expr} {es : List Expr} {ta : TA} {p pos pos2 : Pos} {W : WX} {k : Nat}
theorem pmk_x (T : Exn X.prog X.K X.mg x C fI ps l) (hl0 : l ≠ []) (hps : ps.length ≤ 900) (hr : Room k X.A) (hg : Gl X x) (ha : PA X (e :: es) ta) (hdb : (x == ("__debug__" : Str)) = false := by decide)
    (he : starEach (e :: es) X.env = (false, eval e X.env) :: starEach es X.env := by rfl) (hpl : (backTo pos (starEach es X.env)).any (·.1) = false := by rfl) :
    PMk X (.Call (.Name x p) (e :: es) [] pos) (tMkX C ps l ta) := by
  intro pins s σ H Q I h
  refine wpAny_Call_Name_kw (ld_glob I hg T.gC ?_ hdb)
  refine PySem.W.callWith_K (h₀ := X.base) I.ok.mod.kin T.kC (thn (ha.run pos pins s σ H _ I h) fun us s1 hh => ?_) he hpl
  obtain ⟨vs, H1, I1, r1, hlen, q1⟩ := hh
  exact ⟨I1.kIn, mk_made T hl0 hr I1 r1 hlen hps q1⟩
/-- raise X(e, ..) -/
def tRaiseX (C : Addr) (ps : List Str) (l : List (Str × Str)) (W : WX) (ta : TA) : TS := fun _ σ H => tMkX C ps l ta σ H fun cls d H' => W cls d σ H'
theorem ps_raiseX (hc : X.calm = true) (T : Exn X.prog X.K X.mg x C fI ps l) (hl0 : l ≠ []) (hps : ps.length ≤ 900) (hr : Room k X.A) (tk : Takes X W) (hg : Gl X x) (ha : PA X (e :: es) ta) (hdb : (x == ("__debug__" : Str)) = false := by decide)
    (he : starEach (e :: es) X.env = (false, eval e X.env) :: starEach es X.env := by rfl) (hpl : (backTo pos (starEach es X.env)).any (·.1) = false := by rfl) :
    PS X (.Raise (some (.Call (.Name x p) (e :: es) [] pos)) none pos2) (tRaiseX C ps l W ta) := ps_raise hc tk (pmk_x T hl0 hps hr hg ha hdb he hpl)
end
end L2

set_option maxRecDepth 100000
set_option maxHeartbeats 4000000
/-! # Further rules over the layer -/
namespace L2
open PySem PySem.Spec PyProof.Rows
/-- x is True, x is False -/
def rIsTF : R2 := fun x y H Q => ∃ b : Bool, y = .bl b ∧ Q (.bl (decide (x = .bl b))) H
theorem op_isTF {X : Cx} : OpR X (compareOp .Is) rIsTF := by
  intro pins s σ H x y v u Q I rx ry h
  obtain ⟨b, rfl, q⟩ := h
  cases ry
  cases x with
  | non => cases rx; exact wpAny_pure (fin_bl I q (by simp))
  | bl c => cases rx; exact wpAny_pure (fin_bl I q (by cases b <;> cases c <;> rfl))
  | int i => obtain ⟨t, rfl⟩ := rx; exact wpAny_pure (fin_bl I q (by simp))
  | str i => obtain ⟨t, rfl⟩ := rx; exact wpAny_pure (fin_bl I q (by simp))
  | byt i => obtain ⟨t, rfl⟩ := rx; exact wpAny_pure (fin_bl I q (by simp))
  | flt i => obtain ⟨t, rfl⟩ := rx; exact wpAny_pure (fin_bl I q (by simp))
  | ref a => cases rx; exact wpAny_pure (fin_bl I q (by simp))
  | ty n => cases rx; exact wpAny_pure (fin_bl I q (by simp))

/-! ### operators that an own class defines -/
/-- what a class says of its own method for the operator op (forward) -/
structure OwnOp (K : PySem.W.Frag) (C : Addr) (op : Operator) (f : Addr) : Prop where
  first : PySem.W.selfFirst K C = true
  at_ : PySem.W.findIn K (.ref C) (PySem.dunder op.info.2) = some (some (.ref f))
  fn : PySem.W.isFn K (.ref f) = true
/-- .. against a value of the built-in class T -/
structure OwnOpT (K : PySem.W.Frag) (C : Addr) (op : Operator) (f : Addr) (T : String) : Prop extends OwnOp K C op f where
  rev : ∃ rc, PySem.W.findIn K (.ref C) (dunderR op.info.2) = some rc ∧ (rc = none ∨ ∃ g : Addr, rc = some (.ref g))
  tf : ∃ fo, PySem.W.findIn K (.type T) (PySem.dunder op.info.2) = some fo
  tr : ∃ ro, PySem.W.findIn K (.type T) (dunderR op.info.2) = some ro
  sub : PySem.W.subIn K (.type T) (.ref C) = some false
theorem inst_of {P : Program} {w : World} {H : Hp} {h : Heap} {a C dx : Addr} {fs : List (Str × V)} (hok : HOk P w H h) (ha : H a = some (.ins C dx fs)) : ∃ od, PySem.W.InstAt h a (PySem.W.instObj C dx) C (some od) := by
  obtain ⟨mA, J, _⟩ := ins_get hok ha
  obtain ⟨od, J, _⟩ := J.look
  exact ⟨od, J⟩
theorem back_of {X : Cx} {pins : List (Addr × Obj)} {σ : St} {Q : VK} {v : Value} {s' : Shared} (h : EP X pins σ Q v s') : PySem.W.CmpBack (fun v s' => EP X pins σ Q v s') v s' := by
  obtain ⟨x, H, I, r, q⟩ := id h
  cases v <;> first
    | exact h
    | (cases x <;> first | (obtain ⟨t, z⟩ := r; cases z; done) | (cases r; done))
/-- a op b, b of the same class -/
def rOwnOp (C : Addr) (sp : Sp) (E : XK) : R2 := fun x y H Q => ∃ a dx fs b dy gs, x = .ref a ∧ y = .ref b ∧ H a = some (.ins C dx fs) ∧ H b = some (.ins C dy gs) ∧ sp [.ref a, .ref b] H Q E
theorem op_own {X : Cx} {CX : CXT} {op : Operator} {C f : Addr} {fd : FuncData} {ps : List Str} {sp : Sp} {E : XK} {k : Nat} (O : OwnOp X.K C op f) (F : FnOk X.prog X.w X.K X.mg X.base CX k f fd ps sp) (hb : Binds X.K fd ps []) (hr : Room k X.A) (hx : Passes CX X E) :
    OpR X (binaryOp op) (rOwnOp C sp E) := by
  intro pins s σ H x y v u Q I rx ry h
  obtain ⟨a, dx, fs, b, dy, gs, rfl, rfl, ha, hb', hsp⟩ := h
  cases rx
  cases ry
  obtain ⟨od, J⟩ := inst_of I.hok ha
  obtain ⟨od', J'⟩ := inst_of I.hok hb'
  obtain ⟨m, hF⟩ := I.fr
  refine PySem.W.binop_K hF I.ok.mod.kin J J'.type O.first O.at_ O.fn (wpAny_mono (run_fn F hr hb .nil hx I (us := [.ref a, .ref b]) (vs := [.ref a, .ref b]) (.cons rfl (.cons rfl .nil)) hsp) (fun r s' q => back_of q) fun _ _ z => z)
/-- a op n, n a number -/
def rOwnOpI (C : Addr) (sp : Sp) (E : XK) : R2 := fun x y H Q => ∃ a dx fs n, x = .ref a ∧ y = .int n ∧ H a = some (.ins C dx fs) ∧ sp [.ref a, .int n] H Q E
theorem op_ownI {X : Cx} {CX : CXT} {op : Operator} {C f : Addr} {fd : FuncData} {ps : List Str} {sp : Sp} {E : XK} {k : Nat} (O : OwnOpT X.K C op f "int") (F : FnOk X.prog X.w X.K X.mg X.base CX k f fd ps sp) (hb : Binds X.K fd ps []) (hr : Room k X.A) (hx : Passes CX X E) :
    OpR X (binaryOp op) (rOwnOpI C sp E) := by
  intro pins s σ H x y v u Q I rx ry h
  obtain ⟨a, dx, fs, n, rfl, rfl, ha, hsp⟩ := h
  cases rx
  obtain ⟨t, rfl⟩ := ry
  obtain ⟨od, J⟩ := inst_of I.hok ha
  obtain ⟨m, hF⟩ := I.fr
  obtain ⟨rc, h1, h2⟩ := O.rev
  obtain ⟨fo, h3⟩ := O.tf
  obtain ⟨ro, h4⟩ := O.tr
  refine PySem.W.ksp_binT (T := "int") hF I.ok.mod.kin J rfl O.first O.at_ O.fn h1 h2 h3 h4 O.sub (wpAny_mono (run_fn F hr hb .nil hx I (us := [.ref a, .int n t]) (vs := [.ref a, .int n]) (.cons rfl (.cons ⟨t, rfl⟩ .nil)) hsp) (fun r s' q => back_of q) fun _ _ z => z)

/-- -a -/
def rOwnNeg (C : Addr) (sp : Sp) (E : XK) : V → Hp → VK → Prop := fun x H Q => ∃ a dx fs, x = .ref a ∧ H a = some (.ins C dx fs) ∧ sp [.ref a] H Q E
theorem un_own {X : Cx} {CX : CXT} {C f : Addr} {fd : FuncData} {ps : List Str} {sp : Sp} {E : XK} {k : Nat} (hs : PySem.W.findIn X.K (.ref C) "__neg__" = some (some (.ref f))) (hf : PySem.W.isFn X.K (.ref f) = true) (F : FnOk X.prog X.w X.K X.mg X.base CX k f fd ps sp) (hb : Binds X.K fd ps []) (hr : Room k X.A) (hx : Passes CX X E) :
    UnR X (unaryOp .USub) (rOwnNeg C sp E) := by
  intro pins s σ H x v Q I rx h
  obtain ⟨a, dx, fs, rfl, ha, hsp⟩ := h
  cases rx
  obtain ⟨od, J⟩ := inst_of I.hok ha
  obtain ⟨m, hF⟩ := I.fr
  exact PySem.W.ksp_neg hF I.ok.mod.kin J hs hf (run_fn F hr hb .nil hx I (us := [.ref a]) (vs := [.ref a]) (.cons rfl .nil) hsp)
end L2

set_option maxRecDepth 100000
set_option maxHeartbeats 4000000
/-! # enumerate(x), x a list or a tuple -/
namespace EN
open PySem PySem.Builtin
set_option maxHeartbeats 1000000 in
theorem meets1 {v : Value} {o : Obj} {H : Heap → Prop} (B : Begins v o H) :
    Meets (Builtin.«enumerate.__new__» ⟨[.type "enumerate", v], []⟩) (fun _ R s => H s.heap ∧
      R (.ok (.ret (.ref (s.heap.push o).objs.size))) { s with heap := (s.heap.push o).push { cls := .type "enumerate", data := .fields #[.none, .bool false, .ref s.heap.objs.size, rawInt 0, .none, .none] } }) :=
  .of_wp fun prog w A R s h => by
    obtain ⟨hp, g, d, tk, os⟩ := s; obtain ⟨h1, h⟩ := h
    have hsub := sub_enumerate
    have q1 : ∀ {A' : Around} {E : Value → Shared → Prop} {Q : Value → Shared → Prop}, Q (.ref hp.objs.size) ⟨hp.push o, g, d, tk, os⟩ → wpAny (model prog w) A' (pyIter v) Q E ⟨hp, g, d, tk, os⟩ :=
      fun q => B.iter prog w _ _ ⟨hp, g, d, tk, os⟩ _ h1 q
    wp_walk using q1
    refine wpAny_stack_any fun st => wpAny_pure ?_
    split
    · rename_i c _ _ _ _ _
      cases (c == Value.type "enumerate")
      · wp_walk using q1
        exact ⟨_, rfl, h⟩
      · wp_walk using q1
        exact ⟨_, rfl, h⟩
    · wp_walk using q1
      exact ⟨_, rfl, h⟩
section
variable {prog : Program} {w : World} {A : Around} {E : Value → Shared → Prop} {s : Shared}
theorem begins1 {v : Value} {o : Obj} {H : Heap → Prop} {Q : Value → Shared → Prop} (B : Begins v o H) (h1 : H s.heap)
    (h : ∀ h', IsEnum h' (s.heap.objs.size + 1) s.heap.objs.size 0 .none → h'.get? s.heap.objs.size = some o → h'.objs.size = s.heap.objs.size + 2 →
      (∀ b o, s.heap.get? b = some o → h'.get? b = some o) → Q (.ref (s.heap.objs.size + 1)) { s with heap := h' })
    (ht : checkTypeCall "enumerate" ⟨[v], []⟩ = pure ()) (hn : checkBuiltinCall "enumerate.__new__" ⟨[.type "enumerate", v], []⟩ = pure ()) (ha : ∀ obj, argsOk "object.__init__" ⟨[obj, v], []⟩) :
    wpAny (model prog w) A (call (.type "enumerate") [v]) Q E s := by
  refine callType_new F.called_enumerate (by decide) ht hn ha F.entry_enumerate_new (meets1 B) ⟨h1, ?_⟩
  have hz : (s.heap.push o).objs.size = s.heap.objs.size + 1 := Heap.size_push ..
  show _ ∧ _
  rw [hz]
  have he : IsEnum ((s.heap.push o).push { cls := .type "enumerate", data := .fields #[.none, .bool false, .ref s.heap.objs.size, rawInt 0, .none, .none] }) (s.heap.objs.size + 1) s.heap.objs.size 0 .none := by
    have := Heap.get?_push_size (s.heap.push o) (o := { cls := .type "enumerate", data := .fields #[.none, .bool false, .ref s.heap.objs.size, rawInt 0, .none, .none] }) rfl
    rw [hz] at this; exact this
  refine ⟨⟨_, he, rfl⟩, h _ he (Heap.get?_push_of_some _ (Heap.get?_push_size _ B.free)) (by rw [Heap.size_push, hz]) fun b o x => Heap.get?_push_of_some _ (Heap.get?_push_of_some _ x)⟩
end
end EN

namespace L2
open PySem PySem.Spec PyProof.Rows
/-- enumerate over the tuple at a, from k on -/
def IteT (K : PySem.W.Frag) (k : Int) (a : Addr) : It :=
  ⟨fun i H => ∃ (xs : List V) (x : V), SqT K H a xs ∧ xs[i]? = some x, fun i H v H' => ∃ T x, v = .ref T ∧ H T = none ∧ H' = upd H T (.tup [.int (k + (i : Int)), x]) ∧ ∀ xs, SqT K H a xs → xs[i]? = some x, fun i H => ∃ xs : List V, SqT K H a xs ∧ xs.length = i⟩
theorem turn_enumT {P : Program} {w : World} {K : PySem.W.Frag} {elts : List Expr} {kk : Nat} {tpos : Pos} (k : Int) (a e it : Addr) (hei : e ≠ it) :
    Turn P w K (.Tuple elts kk tpos) (IteT K k a) [e, it] e (fun i h => (∃ old, IsEnum h e it (k + ((i : Nat) : Int)) old) ∧ h.IsTupleIter it a i) where
  mem := by simp
  obj := fun i h st b hb => by
    obtain ⟨⟨old, he⟩, ⟨o, ho, hc, hd⟩⟩ := st
    have e' : b = e ∨ b = it := by simpa using hb
    rcases e' with z | z
    · rw [z]; exact ⟨_, he, fun v q => nomatch q⟩
    · rw [z]; exact ⟨o, ho, fun v q => by rw [hd] at q; cases q⟩
  keep := fun i h h' st k => let ⟨⟨old, he⟩, hi⟩ := st; ⟨⟨old, k e (by simp) _ he⟩, hi.at fun o q => k it (by simp) o q⟩
  item := by
    intro X hP hw hK hc i pins s σ H E I hf st hg
    subst hP hw hK
    obtain ⟨⟨old, he⟩, hit⟩ := st
    obtain ⟨xs, x, hq, hx⟩ := hg
    obtain ⟨its, rv, p, hz⟩ := I.tuple hq
    obtain ⟨u, hu, ru⟩ := rv.get hx
    have hel : e < s.heap.objs.size := Heap.lt_size he
    have hil : it < s.heap.objs.size := by obtain ⟨_, q, _⟩ := hit; exact Heap.lt_size q
    have hae : e ≠ a := fun z => by
      obtain ⟨o, ho, hcls, _⟩ := p
      rw [← z, he] at ho
      cases ho
      exact absurd (show Value.type "enumerate" = Value.type "tuple" from hcls) (by decide)
    have hai : a ≠ it := fun z => by
      obtain ⟨o, ho, hcls, _⟩ := p
      obtain ⟨o2, ho2, hc2, _⟩ := hit
      rw [z, ho2] at ho
      cases ho
      rw [hc2] at hcls
      exact absurd hcls (by decide)
    have W := GoesN.enumFrom (prog := X.prog) (w := X.w) (A := X.A) (elts := elts) (x1 := kk) (pos := tpos) k (Draws.tuple (prog := X.prog) (w := X.w) (A := X.A.in1) (I.ok.hd hc) it a hai its.toArray) e hei (by simp [hei, hae]) (by simp)
    have hi : i < its.toArray.size := by
      have := (List.getElem?_eq_some_iff.mp hu).1
      simpa using this
    refine wpAny_mono (W.goes i s _ E hi ⟨⟨old, he⟩, hit, p⟩ fun v h' tk hY st' hk htk => ?_) (fun r s1 hr => hr) fun _ _ z => z
    obtain ⟨T, t, y, rfl, hT, hPy, hTup⟩ := hY
    have ey : y = u := by
      have hu' : its.toArray[i]? = some u := by simpa using hu
      rw [hu'] at hPy
      exact (Option.some.inj hPy).symm
    subst ey
    obtain ⟨⟨old2, he2⟩, hit2, _⟩ := st'
    have new : ObjOk X.prog X.w (upd H T (.tup [.int (k + (i : Int)), x])) h' T (.tup [.int (k + (i : Int)), x]) :=
      ⟨by show 2 ≤ sizeLine; decide, [.int (k + (i : Int)) t, y], .cons ⟨_, rfl⟩ (.cons ru .nil), hTup⟩
    have I1 : Inv X pins σ (upd H T (.tup [.int (k + (i : Int)), x])) { s with heap := h', toks := tk } :=
      I.turnedNew (ch := [e, it]) (fun b ob hb q => hk b ob hb q) hf hT new
    refine ⟨.ref T, _, I1, rfl, ⟨_, x, rfl, I.hok.fresh hT, rfl, fun ys hy => by rw [I.tuple_inj hy hq]; exact hx⟩, ⟨⟨old2, he2⟩, hit2⟩, fun b hb => ?_⟩
    have hb' : b < s.heap.objs.size := by
      have e' : b = e ∨ b = it := by simpa using hb
      rcases e' with z | z
      · rw [z]; exact hel
      · rw [z]; exact hil
    rw [upd_ne (Nat.ne_of_lt (Nat.lt_of_lt_of_le hb' hT))]
    exact (hf b hb).1
  done := by
    intro X hP hw hK hc i pins s σ H E I hf st hg
    subst hP hw hK
    obtain ⟨⟨old, he⟩, hit⟩ := st
    obtain ⟨xs, hq, hx⟩ := hg
    obtain ⟨its, rv, p, hz⟩ := I.tuple hq
    have hai : a ≠ it := fun z => by
      obtain ⟨o, ho, hcls, _⟩ := p
      obtain ⟨o2, ho2, hc2, _⟩ := hit
      rw [z, ho2] at ho
      cases ho
      rw [hc2] at hcls
      exact absurd hcls (by decide)
    have hae : e ≠ a := fun z => by
      obtain ⟨o, ho, hcls, _⟩ := p
      rw [← z, he] at ho
      cases ho
      exact absurd (show Value.type "enumerate" = Value.type "tuple" from hcls) (by decide)
    have W := GoesN.enumFrom (prog := X.prog) (w := X.w) (A := X.A) (elts := elts) (x1 := kk) (pos := tpos) k (Draws.tuple (prog := X.prog) (w := X.w) (A := X.A.in1) (I.ok.hd hc) it a hai its.toArray) e hei (by simp [hei, hae]) (by simp)
    have hl := rv.length
    have hn : its.toArray.size = i := by
      rw [List.size_toArray, ← hl, hx]
    refine wpAny_mono (W.stops s (fun s1 => Inv X pins σ H s1) E (by rw [hn]; exact ⟨⟨old, he⟩, hit, p⟩) fun h' tk hk htk => I.turnedL (t' := tk) (ch := [e, it]) (fun b o hb q => hk b o hb q) hf) (fun r s1 hr => hr) fun _ _ z => z
  self := fun A i s Q E st h => let ⟨⟨_, he⟩, _⟩ := st; wpAny_pyIter_enum he h

theorem walk_enumT {K : PySem.W.Frag} {k : Int} {a : Addr} {xs : List V} : Walk (IteT K k a) xs.length (fun H => SqT K H a xs) (YPair (fun i => some (.int (k + (i : Nat)))) (fun i => xs[i]?)) where
  goes := fun i H hi h => ⟨xs, xs[i], h, List.getElem?_eq_getElem hi⟩
  stops := fun H h => ⟨xs, h, rfl⟩
  yields := fun i H v H' hi h y => by
    obtain ⟨T, x, rfl, hT, rfl, hx⟩ := y
    exact ⟨T, .int (k + (i : Nat)), x, rfl, hT, rfl, rfl, hx xs h⟩
/-- enumerate(x), x a list or a tuple -/
def iEnumA (K : PySem.W.Frag) (ta : TA) : TI := fun σ H R => ta σ H fun vs H1 => ∃ a xs, vs = [.ref a] ∧ ((SqL K H1 a xs ∧ R (Ite K a) H1) ∨ (SqT K H1 a xs ∧ R (IteT K 0 a) H1))
theorem pi_enumA {X : Cx} {e : Expr} {ta : TA} {p pos tpos : Pos} {elts : List Expr} {kk : Nat} (hg : Gl X "enumerate") (hm : X.mg "enumerate" = none) (ha : PA X [e] ta) (hs : starEach [e] X.env = [(false, eval e X.env)] := by rfl) :
    PI X (.Tuple elts kk tpos) (.Call (.Name "enumerate" p) [e] [] pos) (iEnumA X.K ta) := by
  refine ⟨fun pins s σ H R I h => ?_⟩
  refine Call_ (ld_blt I hg hm boot_enumerate (PyProof.Rows.callWith_type1 (thn (ha.run pos pins s σ H _ I h) fun us s1 ⟨vs, H1, I1, r1, q1⟩ => ?_) hs rfl))
  obtain ⟨a, xs, ex, q1⟩ := q1
  subst ex
  cases r1 with
  | cons r rr =>
    cases rr
    cases r
    have fresh2 : ∀ b, b ∈ [s1.heap.objs.size + 1, s1.heap.objs.size] → FpOk X pins H1 b := fun b hb => by
      have e' : b = s1.heap.objs.size + 1 ∨ b = s1.heap.objs.size := by simpa using hb
      have hle : s1.heap.objs.size ≤ b := by
        rcases e' with z | z
        · rw [z]; exact Nat.le_add_right _ _
        · rw [z]; exact Nat.le_refl _
      exact I1.fpOk hle (I1.hok.fresh hle)
    rcases q1 with ⟨hq, q⟩ | ⟨hq, q⟩
    · obtain ⟨its, rv, p', hz⟩ := I1.list hq
      refine call_enumerate_list p'.isList fun h' he hit hsz hk => wpAny_pyIter_enum he ?_
      have I2 : Inv X pins σ H1 { s1 with heap := h' } := I1.kept (t' := s1.toks) hk
      exact ⟨s1.heap.objs.size + 1, [s1.heap.objs.size + 1, s1.heap.objs.size], _, _, H1, rfl, I2, turn_enum a (s1.heap.objs.size + 1) s1.heap.objs.size, ⟨⟨.none, he⟩, hit, Nat.succ_ne_self _⟩, fresh2, q⟩
    · obtain ⟨its, rv, p', hz⟩ := I1.tuple hq
      refine EN.begins1 (begins_tuple a its.toArray) p' (fun h' he hit hsz hk => wpAny_pyIter_enum he ?_) (F.typeCall_enumerate_1 _) (F.newCall_enumerate_1 _) (fun obj => F.args_object_init_2 obj _)
      have I2 : Inv X pins σ H1 { s1 with heap := h' } := I1.kept (t' := s1.toks) hk
      exact ⟨s1.heap.objs.size + 1, [s1.heap.objs.size + 1, s1.heap.objs.size], _, _, H1, rfl, I2, turn_enumT 0 a (s1.heap.objs.size + 1) s1.heap.objs.size (Nat.succ_ne_self _), ⟨⟨.none, he⟩, ⟨_, hit, rfl, rfl⟩⟩, fresh2, q⟩
end L2

set_option maxRecDepth 100000
set_option maxHeartbeats 4000000
/-! # for x in an instance whose __iter__ says: return iter(self.field), the field a tuple -/
namespace L2
open PySem PySem.Spec PyProof.Rows PySem.W
structure OwnIt (K : Frag) (mg : Str → Option Value) (C f : Addr) (fld : Str) : Prop where
  cls : Cls K C
  noA : NoAttr K C fld
  at_ : findIn K (.ref C) "__iter__" = some (some (.ref f))
  fn : isFn K (.ref f) = true
  free : mg "iter" = none
  txt : ∃ qual params scope p1 p2 p3 p4 p5, (∃ (oc : Value) (od : Option Addr) (kV doc pm : Value) (an : Option Addr) (cdv ct : Value) (osl : Array (Option Value)),
      K.lookup f = some ⟨oc, od, .func (fnOf "__iter__" qual params [.Return (some (.Call (.Name "iter" p1) [.Attribute (.Name "self" p2) fld p3] [] p4)) p5] scope .none kV doc pm an cdv ct), osl⟩ ∧ codeIn K cdv qual = true) ∧
    scope.names.lookup ("self" : Str) = some .local ∧ scope.names.lookup ("iter" : Str) = some .globalImplicit ∧ (∀ x ∈ scope.names, x.2 ≠ .cell) ∧ scope.kind = .function ∧ scope.isCoroutine = false ∧ scope.isGenerator = false ∧
    (∀ (s : Shared) (fd : FuncData) (v : Value), fd.params = params → fd.scope = scope → fd.defaults = .none → BindsTo s fd ⟨[v], []⟩ [("self", v)]) ∧
    ∀ env : Env, env.scope = scope → attributeBase (.Name "self" p2) fld env (eval (.Name "self" p2) env) = eval (.Name "self" p2) env
abbrev tupIt (t : Addr) : Obj := { cls := .type "tuple_iterator", data := .fields #[.ref t, .int 0 0] }
theorem call_iter_tup {prog : Program} {w : World} {A : Around} {E : Value → Shared → Prop} {s : Shared} {t : Addr} {items : Array Value} {Q : Value → Shared → Prop} (ht : s.heap.IsTuple t items) (h : Q (.ref s.heap.objs.size) { s with heap := s.heap.push (tupIt t) }) :
    wpAny (model prog w) A (call (.builtin "iter") [.ref t]) Q E s := by
  refine Calls.call_function_entry (by decide +kernel) (by decide +kernel) kdk_entry_iter (kdk_args_iter _) ?_
  unfold Builtin.«iter»
  refine wpAny_bind (m := someArgs "iter" 1 2 _) (wpAny_of_eq (a := [Value.ref t]) (by first | rfl | kernel_rfl!) ?_)
  show wpAny _ _ (pyIter (.ref t) >>= _) _ _ _
  refine wpAny_bind (wpAny_pyIter_tuple ht ?_)
  exact wpAny_pure ⟨_, rfl, h⟩
section
variable {X : Cx} {pins : List (Addr × Obj)} {σ : St} {H : Hp} {s : Shared} {a C dx f t : Addr} {fs : List (Str × V)} {fld : Str} {xs : List V} {k : Nat}
theorem own_iter (O : OwnIt X.K X.mg C f fld) (hr : Room k X.A) (I : Inv X pins σ H s) (ha : H a = some (.ins C dx fs)) (hv : fs.lookup fld = some (.ref t)) (hT : SqT X.K H t xs) {Q : Value → Shared → Prop}
    (hq : ∀ h' tk it, (∀ b o, s.heap.get? b = some o → h'.get? b = some o) → s.heap.objs.size ≤ it → h'.get? it = some (tupIt t) → Q (.ref it) { s with heap := h', toks := tk }) :
    wpAny (model X.prog X.w) X.A (pyIter (.ref a)) Q X.xe s := by
  obtain ⟨qual, params, scope, p1, p2, p3, p4, p5, ⟨oc, od, kV, doc, pm, an, cdv, ct, osl, hfn, hcd⟩, sc1, sc2, sc3, sc4, sc5, sc6, hb, hbase⟩ := O.txt
  obtain ⟨mA, J0, rel, _⟩ := ins_get I.hok ha
  obtain ⟨oda, J, _⟩ := J0.look
  obtain ⟨m, hF⟩ := I.fr
  obtain ⟨its, rv, hTup, _⟩ := I.tuple hT
  obtain ⟨u, hu, ru⟩ := RelO.some_of (v := V.ref t) (o := mA fld) (by rw [← hv]; exact rel fld)
  cases ru
  have hG : s.heap.Ns mainGlobals X.mg := I.mod.glob.keeps I.bk
  obtain ⟨mb, hB, hbb⟩ := I.mod.blt
  have X0 := I.kIn
  have hlim := I.nolimit
  obtain ⟨hp, g, dr, tk, os⟩ := s
  refine owit_iter hF I.ok.mod.kin J O.at_ O.fn (wpAny_call ?_)
  refine ks_codeAny_call_defAt (binds := [("self", .ref a)]) (by have := hr.dp; omega) (X0 _ _ hfn) rfl hlim (codeRec_of X0 hcd) rfl (hb _ _ _ rfl rfl rfl) sc3 (fun y hy => ?_) (fun h₀ hns hk₀ => ?_) sc5 sc6 sc4
  · have e : y = (("self" : Str), Value.ref a) := by simpa using hy
    rw [e]
    exact sc1
  · have X1 : X.K.In h₀ := X0.keeps hk₀
    have J1 : ObjM h₀ a dx C mA := ⟨hk₀ _ _ J0.obj, J0.ns.at fun o q => hk₀ _ o q, J0.ne⟩
    refine wpAt_of_wpAny (wpAny_execs_cons (wpAny_Return_some ?_))
    refine wpAny_Call_Name_kw (Calls.Name_function_global sc4 sc2 (Calls.loadGlobal_builtin (hG.keeps hk₀) O.free ((hB.keeps I.bk).keeps hk₀) ((hbb _ (by decide)).trans (by decide +kernel : bootBuiltins "iter" = some (.builtin "iter"))) ?_) (by decide))
    refine PyProof.Rows.callWith_builtin1 (spliced_more (attr_of (hbase _ rfl) (PySem.ESX.ldL (v := .ref a) hns (by simp [List.lookup]) ?_ sc4 sc1))) (by rfl) (by rfl)
    refine get_map X1 J1 (O.cls.get _) O.cls.hd O.noA hu rfl (spliced_none ?_)
    refine call_iter_tup (show h₀.IsTuple t its.toArray from let ⟨o, h1, h2⟩ := hTup; ⟨o, hk₀ _ o h1, h2⟩) ?_
    have hT1 : (⟨h₀.push (tupIt t), g, dr, tk + 1 + 1, os⟩ : Shared).TypeIs (.ref h₀.objs.size) "tuple_iterator" := ⟨_, Heap.get?_push_at rfl rfl, rfl⟩
    refine wpAny_specialOf (hT1) F.slot_tuple_iterator_next.lookup ?_
    exact hq _ _ _ (fun b o q => Heap.get?_push_of_some _ (hk₀ b o q)) (by
      have := hns.lt
      exact Nat.le_of_lt this) (Heap.get?_push_at rfl rfl)
end
end L2

set_option maxRecDepth 100000
set_option maxHeartbeats 4000000
/-! # Words for lists or tuples, heaps that only grow -/
namespace L2
open PySem PySem.Spec PyProof.Rows
/-- a list or a tuple -/
def SqA (K : PySem.W.Frag) (H : Hp) (a : Addr) (xs : List V) : Prop := SqL K H a xs ∨ SqT K H a xs
theorem Same.seqT {K : PySem.W.Frag} {H H' : Hp} {a : Addr} {xs : List V} (e : Same H H') (h : SqT K H a xs) : SqT K H' a xs := by
  rcases h with (h | ⟨o, h⟩) | h
  · exact .inl (.inl (e _ _ h))
  · exact .inl (.inr ⟨o, e _ _ h⟩)
  · exact .inr h
theorem Same.seqA {K : PySem.W.Frag} {H H' : Hp} {a : Addr} {xs : List V} (e : Same H H') (h : SqA K H a xs) : SqA K H' a xs := h.imp e.seq e.seqT
theorem Same.new {H : Hp} {p : Addr} {o : HO} (h : H p = none) : Same H (upd H p o) := fun b u e => by
  rw [upd_ne (fun z => by rw [z, h] at e; cases e)]
  exact e
theorem Same.new' {H H' : Hp} {p : Addr} {o : HO} (s : Same H H') (h : H' p = none) : Same H (upd H' p o) := s.trans (.new h)
theorem passX {X : Cx} {K : Value → Shared → Prop} {E₁ : Value → Shared → Prop} (hx : X.xe = fun e s' => wpAny (model X.prog X.w) X.A (leaving X.env e) (fun _ s'' => K e s'') E₁ s') : PassesOwn (model X.prog X.w) X.A X.env X.xe := passes_of hx
theorem map_get {α : Type} {f : α → V} {ns : List α} {i : Nat} {y : V} (e : (ns.map f)[i]? = some y) : ∃ n, ns[i]? = some n ∧ y = f n := by
  rw [List.getElem?_map] at e
  cases q : ns[i]? with
  | none => rw [q] at e; cases e
  | some n => rw [q] at e; exact ⟨n, rfl, (Option.some.inj e).symm⟩
theorem enumA_of {K : PySem.W.Frag} {H : Hp} {a : Addr} {xs : List V} {R : It → Hp → Prop} (h : SqA K H a xs) (hR : ∀ (J : It) (G : Hp → Prop), (∀ H', Same H H' → G H') → Walk J xs.length G (YPair (fun i => some (.int (i : Nat))) (fun i => xs[i]?)) → R J H) :
    (SqL K H a xs ∧ R (Ite K a) H) ∨ (SqT K H a xs ∧ R (IteT K 0 a) H) := by
  rcases h with h | h
  · exact .inl ⟨h, hR _ _ (fun _ s => s.seq h) walk_enum⟩
  · exact .inr ⟨h, hR _ _ (fun _ s => s.seqT h) ((walk_enumT (k := 0)).mono (fun _ h => h) fun i H x H' _ _ y => by
      obtain ⟨T', x', y', z⟩ := y
      exact ⟨T', x', y', by simpa using z⟩)⟩
/-- enumerate(x), x a list or a tuple, told by its Walk -/
def iEnumW (K : PySem.W.Frag) (ta : TA) : TI := fun σ H R => ta σ H fun vs H1 => ∃ a xs, vs = [.ref a] ∧ SqA K H1 a xs ∧ ∀ (J : It) (G : Hp → Prop), (∀ H', Same H1 H' → G H') → Walk J xs.length G (YPair (fun i => some (.int (i : Nat))) (fun i => xs[i]?)) → R J H1
theorem pi_enumW {X : Cx} {e : Expr} {ta : TA} {p pos tpos : Pos} {elts : List Expr} {kk : Nat} (hg : Gl X "enumerate") (hm : X.mg "enumerate" = none) (ha : PA X [e] ta) (hs : starEach [e] X.env = [(false, eval e X.env)] := by rfl) :
    PI X (.Tuple elts kk tpos) (.Call (.Name "enumerate" p) [e] [] pos) (iEnumW X.K ta) := by
  refine ⟨fun pins s σ H R I h => ?_⟩
  refine Call_ (ld_blt I hg hm boot_enumerate (PyProof.Rows.callWith_type1 (thn (ha.run pos pins s σ H _ I h) fun us s1 ⟨vs, H1, I1, r1, q1⟩ => ?_) hs rfl))
  obtain ⟨a, xs, ex, q1⟩ := q1
  subst ex
  have q1 := enumA_of q1.1 q1.2
  cases r1 with
  | cons r rr =>
    cases rr
    cases r
    have fresh2 : ∀ b, b ∈ [s1.heap.objs.size + 1, s1.heap.objs.size] → FpOk X pins H1 b := fun b hb => by
      have e' : b = s1.heap.objs.size + 1 ∨ b = s1.heap.objs.size := by simpa using hb
      have hle : s1.heap.objs.size ≤ b := by
        rcases e' with z | z
        · rw [z]; exact Nat.le_add_right _ _
        · rw [z]; exact Nat.le_refl _
      exact I1.fpOk hle (I1.hok.fresh hle)
    rcases q1 with ⟨hq, q⟩ | ⟨hq, q⟩
    · obtain ⟨its, rv, p', hz⟩ := I1.list hq
      refine call_enumerate_list p'.isList fun h' he hit hsz hk => wpAny_pyIter_enum he ?_
      have I2 : Inv X pins σ H1 { s1 with heap := h' } := I1.kept (t' := s1.toks) hk
      exact ⟨s1.heap.objs.size + 1, [s1.heap.objs.size + 1, s1.heap.objs.size], _, _, H1, rfl, I2, turn_enum a (s1.heap.objs.size + 1) s1.heap.objs.size, ⟨⟨.none, he⟩, hit, Nat.succ_ne_self _⟩, fresh2, q⟩
    · obtain ⟨its, rv, p', hz⟩ := I1.tuple hq
      refine EN.begins1 (begins_tuple a its.toArray) p' (fun h' he hit hsz hk => wpAny_pyIter_enum he ?_) (F.typeCall_enumerate_1 _) (F.newCall_enumerate_1 _) (fun obj => F.args_object_init_2 obj _)
      have I2 : Inv X pins σ H1 { s1 with heap := h' } := I1.kept (t' := s1.toks) hk
      exact ⟨s1.heap.objs.size + 1, [s1.heap.objs.size + 1, s1.heap.objs.size], _, _, H1, rfl, I2, turn_enumT 0 a (s1.heap.objs.size + 1) s1.heap.objs.size (Nat.succ_ne_self _), ⟨⟨.none, he⟩, ⟨_, hit, rfl, rfl⟩⟩, fresh2, q⟩
end L2

set_option maxRecDepth 100000
set_option maxHeartbeats 4000000
/-! # Tuples: t * 0, t * 1, t[::-1], sum(t) -/
namespace L2
open PySem PySem.Spec PyProof.Rows
theorem tuple_mulS (l : Addr) (items : Array Value) (n : Nat) (dd : Option Addr) (sl : Array (Option Value)) (x : Int) (u : Tok) (c0 : (decide (x < -(2 ^ 63)) || decide (x ≥ 2 ^ 63)) = false) (c1 : (items.isEmpty || x == 1) = true) :
    Meets (Builtin.«tuple.__mul__» ⟨[.ref l, .int x u], []⟩) (fun _ R s => s.heap.get? l = some { cls := .type "tuple", dict := dd, data := .seq items n, slots := sl } ∧
      R (.ok (.ret (Value.ref l))) s) :=
  .of_wp fun prog w A R s h => by
    obtain ⟨hp, g, d, tk, os⟩ := s
    obtain ⟨hl, h⟩ := h
    have f1 := AutoSeq1.idx_int
    wp_walk using wpAny_loadPart' hl
    repeat (first
      | (refine wpAny_ite_false (decide_eq_false (by rw [c0]; exact Bool.false_ne_true)) ?_; wp_walk using wpAny_loadPart' hl)
      | (refine wpAny_ite_true (decide_eq_true c1) ?_; wp_walk using wpAny_loadPart' hl))
    exact ⟨_, rfl, h⟩
theorem tuple_mul0 (l : Addr) (items : Array Value) (n : Nat) (dd : Option Addr) (sl : Array (Option Value)) (x : Int) (u : Tok) (c0 : (decide (x < -(2 ^ 63)) || decide (x ≥ 2 ^ 63)) = false) (c1 : (items.isEmpty || x == 1) = false) (c2 : (decide (x ≤ 0) || items.isEmpty) = true) :
    Meets (Builtin.«tuple.__mul__» ⟨[.ref l, .int x u], []⟩) (fun _ R s => s.heap.get? l = some { cls := .type "tuple", dict := dd, data := .seq items n, slots := sl } ∧
      R (.ok (.ret (Value.ref s.heap.objs.size))) { s with heap := s.heap.push { cls := Value.type "tuple", data := Data.seq #[] }, toks := s.toks }) :=
  .of_wp fun prog w A R s h => by
    obtain ⟨hp, g, d, tk, os⟩ := s
    obtain ⟨hl, h⟩ := h
    have f1 := AutoSeq1.idx_int
    wp_walk using wpAny_loadPart' hl
    repeat (first
      | (refine wpAny_ite_false (decide_eq_false (by rw [c0]; exact Bool.false_ne_true)) ?_; wp_walk using wpAny_loadPart' hl)
      | (refine wpAny_ite_false (decide_eq_false (by rw [c1]; exact Bool.false_ne_true)) ?_; wp_walk using wpAny_loadPart' hl)
      | (refine wpAny_ite_true (decide_eq_true c2) ?_; wp_walk using wpAny_loadPart' hl))
    exact ⟨_, rfl, h⟩
/-- t * k -/
def rRepW (K : PySem.W.Frag) : R2 := fun x y H Q => ∃ l k xs, x = .ref l ∧ y = .int k ∧ SqT K H l xs ∧ -(2 ^ 62) ≤ k ∧ k ≤ 1000 ∧ xs.length ≤ 1000 ∧ ∀ H' p, Same H H' → SqT K H' p (List.replicate k.toNat xs).flatten → Q (.ref p) H'
theorem rep_one {α : Type} (xs : List α) : (List.replicate (1 : Int).toNat xs).flatten = xs := by simp
theorem rep_nil {α : Type} (k : Nat) : (List.replicate k ([] : List α)).flatten = [] := by simp
section
variable {X : Cx}
theorem op_repW : OpR X (binaryOp .Mult) (rRepW X.K) := by
  intro pins s σ H x y v u Q I rx ry h
  obtain ⟨l, k, xs, rfl, rfl, hT, h1, h2, hz, q⟩ := h
  by_cases h3 : xs ≠ [] ∧ 2 ≤ k
  · exact op_repT pins s σ H _ _ v u Q I rx ry ⟨l, k, xs, rfl, rfl, hT, h3.1, h3.2, h2, hz, fun p hp => q _ p (.new hp) (SqT.of upd_same)⟩
  · cases rx
    obtain ⟨t, rfl⟩ := ry
    obtain ⟨its, r, ⟨⟨cls, dd, data, sl⟩, ho, hc, n, hd⟩, hs⟩ := I.tuple hT
    simp only at hc hd
    subst hc hd
    have hle : its.length = xs.length := r.length.symm
    have c0 : (decide (k < -(2 ^ 63)) || decide (k ≥ 2 ^ 63)) = false := by
      rw [decide_eq_false (by omega), decide_eq_false (by omega)] <;> rfl
    by_cases h4 : xs = [] ∨ k = 1
    · have c1 : (its.toArray.isEmpty || k == 1) = true := by
        rcases h4 with h4 | h4
        · subst h4
          have : its = [] := List.eq_nil_of_length_eq_zero (by simpa using hle)
          subst this
          rfl
        · subst h4
          simp
      refine wpAny_binaryOp_repeat_ref (T := "tuple") (U := "int") (by decide) ⟨_, ho, rfl⟩ (fun s' => typeIs_int s' k t) noFill_tuple_mul F.fills_int_mul F.slot_int_rmul repeat_tuple F.slot_int_index.lookup
        (call_meets F.slot_int_rmul (typeIs_int s k t) F.entry_int_rmul (F.args_int_rmul_2 _ _) (int_rmul_tuple k t l its.toArray n dd sl)
          ⟨ho, rfl, ⟨_, ho, rfl⟩, call_meets F.slot_tuple_mul ⟨_, ho, rfl⟩ F.entry_tuple_mul (F.args_tuple_mul_2 _ _) (tuple_mulS l its.toArray n dd sl k t c0 c1) ⟨ho, ?_⟩⟩)
      refine ⟨.ref l, H, I, rfl, q H l (.refl _) ?_⟩
      rcases h4 with h4 | h4
      · subst h4; rw [rep_nil]; exact hT
      · subst h4; rw [rep_one]; exact hT
    · have h5 : xs ≠ [] ∧ k ≤ 0 := ⟨fun z => h4 (.inl z), by
        have : k ≠ 1 := fun z => h4 (.inr z)
        have : ¬ (2 ≤ k) := fun z => h3 ⟨fun z => h4 (.inl z), z⟩
        omega⟩
      have hi : its.toArray.isEmpty = false := by
        cases its with
        | nil => exact absurd (List.eq_nil_of_length_eq_zero hle.symm) h5.1
        | cons a b => rfl
      have c1 : (its.toArray.isEmpty || k == 1) = false := by
        rw [hi, Bool.false_or]
        exact beq_eq_false_iff_ne.mpr (by omega)
      have c2 : (decide (k ≤ 0) || its.toArray.isEmpty) = true := by rw [decide_eq_true h5.2]; rfl
      have e0 : (List.replicate k.toNat xs).flatten = [] := by
        have : k.toNat = 0 := by omega
        rw [this]; rfl
      refine wpAny_binaryOp_repeat_ref (T := "tuple") (U := "int") (by decide) ⟨_, ho, rfl⟩ (fun s' => typeIs_int s' k t) noFill_tuple_mul F.fills_int_mul F.slot_int_rmul repeat_tuple F.slot_int_index.lookup
        (call_meets F.slot_int_rmul (typeIs_int s k t) F.entry_int_rmul (F.args_int_rmul_2 _ _) (int_rmul_tuple k t l its.toArray n dd sl)
          ⟨ho, rfl, ⟨_, ho, rfl⟩, call_meets F.slot_tuple_mul ⟨_, ho, rfl⟩ F.entry_tuple_mul (F.args_tuple_mul_2 _ _) (tuple_mul0 l its.toArray n dd sl k t c0 c1 c2) ⟨ho, ?_⟩⟩)
      refine ⟨.ref s.heap.objs.size, _, I.laid (t' := s.toks) (o := .tup []) (fun b ob q => Heap.get?_push_of_some _ q) (Nat.le_refl _) ?_, rfl, q _ _ (.new (I.hok.fresh (Nat.le_refl _))) (by rw [e0]; exact SqT.of upd_same)⟩
      exact ⟨Nat.zero_le _, [], .nil, IsTup.new _ _⟩
/-- t + u -/
def rCatW (K : PySem.W.Frag) : R2 := fun x y H Q => ∃ a b xs ys, x = .ref a ∧ y = .ref b ∧ SqT K H a xs ∧ SqT K H b ys ∧ xs.length + ys.length ≤ sizeLine ∧ ∀ H' p, Same H H' → SqT K H' p (xs ++ ys) → Q (.ref p) H'
theorem op_catW : OpR X (binaryOp .Add) (rCatW X.K) := by
  intro pins s σ H x y v u Q I rx ry h
  obtain ⟨a, b, xs, ys, rfl, rfl, ha, hb, hz, q⟩ := h
  exact op_catA pins s σ H _ _ v u Q I rx ry ⟨a, b, xs, ys, rfl, rfl, ha, hb, hz, fun e => q H b (.refl _) (by rw [e]; exact hb), fun _ e => q H a (.refl _) (by rw [e, List.append_nil]; exact ha), fun _ _ p hp => q _ p (.new hp) (SqT.of upd_same)⟩
/-- t[lo:hi] -/
def rSlW (K : PySem.W.Frag) : V → Option Int → Option Int → Hp → VK → Prop := fun x lo hi H Q => ∃ a xs, x = .ref a ∧ SqT K H a xs ∧ ∀ H' p, Same H H' → SqT K H' p (cutV xs lo hi) → Q (.ref p) H'
theorem sl_tupW : SlR X (rSlW X.K) := by
  intro pins s σ H x v vl vu lo hi sl Q I rx hs pl pu h
  obtain ⟨a, xs, rfl, hx, q⟩ := h
  refine sl_tupA pins s σ H _ v vl vu lo hi sl Q I rx hs pl pu ⟨a, xs, rfl, hx, fun e => q H a (.refl _) ?_, fun _ p hp => q _ p (.new hp) (SqT.of upd_same)⟩
  unfold cutV
  rw [e.1, e.2, List.drop_zero, Nat.sub_zero, List.take_length]
  exact hx

/-- sum(t), t a tuple of numbers -/
theorem cr_sumT (hc : X.calm = true) : CallR X (.builtin "sum") (fun vs H Q => ∃ (a : Addr) (ns : List Int), vs = [V.ref a] ∧ SqT X.K H a (ns.map V.int) ∧ Q (.int ns.sum) H) := by
  intro pins s σ H xs us Q I r h
  obtain ⟨a, ns, rfl, hq, q⟩ := h
  cases r with
  | cons r rr =>
  cases rr
  cases r
  obtain ⟨its, rv, hT, hz⟩ := I.tuple hq
  have hi := intsAre_of rv
  obtain ⟨ys, hx⟩ := hi.allInts.items
  have hn : numsOf its.toArray.toList = ns := by rw [show its.toArray.toList = its from rfl, hi.numsOf]
  have hT' : s.heap.IsTuple a its.toArray := let ⟨o, h1, h2, h3⟩ := hT; ⟨o, h1, h2, h3⟩
  rw [hx] at hT' hn
  rw [nums_intItems] at hn
  refine PySem.W.ktm_sumG (I.ok.hd hc) hT' fun h' tk t' hk => ?_
  rw [preSum_eq, List.take_of_length_le (by simp), hn]
  exact ⟨.int ns.sum, H, I.kept (t' := tk) hk, ⟨t', rfl⟩, q⟩
theorem cr_sumA (hc : X.calm = true) : CallR X (.builtin "sum") (fun vs H Q => ∃ (a : Addr) (ns : List Int), vs = [V.ref a] ∧ SqA X.K H a (ns.map V.int) ∧ Q (.int ns.sum) H) := by
  intro pins s σ H xs us Q I r h
  obtain ⟨a, ns, rfl, hq, q⟩ := h
  rcases hq with hq | hq
  · exact cr_sum hc pins s σ H _ us Q I r ⟨a, ns, rfl, hq, q⟩
  · exact cr_sumT hc pins s σ H _ us Q I r ⟨a, ns, rfl, hq, q⟩
/-! ### t[::-1] -/
theorem rev_pick (xs : List Value) : ((List.range xs.length).filterMap fun (m : Nat) => xs.toArray[(((xs.length : Nat) : Int) - 1 + (m : Int) * (-1)).toNat]?) = xs.reverse := by
  have key : ∀ n, n ≤ xs.length → ((List.range n).filterMap fun (m : Nat) => xs.toArray[(((xs.length : Nat) : Int) - 1 + (m : Int) * (-1)).toNat]?) = (xs.reverse).take n := by
    intro n
    induction n with
    | zero => intro _; simp
    | succ n ih =>
      intro hn
      rw [List.range_succ, List.filterMap_append, ih (by omega), List.take_succ]
      congr 1
      have e : (((xs.length : Nat) : Int) - 1 + (n : Int) * (-1)).toNat = xs.length - 1 - n := by omega
      have hlt : n < xs.reverse.length := by rw [List.length_reverse]; omega
      rw [List.filterMap_cons, List.filterMap_nil, e, List.getElem?_reverse (by omega)]
      simp only [List.getElem?_toArray]
      cases q : xs[xs.length - 1 - n]? with
      | none => simp
      | some v => simp
  rw [key xs.length (Nat.le_refl _), List.take_of_length_le (by rw [List.length_reverse]; exact Nat.le_refl _)]
theorem adjust_rev (n : Nat) : Builtin.Slice.sliceAdjust none none (-1) (n : Int) = ((n : Int) - 1, -1) := by
  unfold Builtin.Slice.sliceAdjust
  simp
theorem places_rev (n : Nat) : Builtin.Slice.slicePlaces ((n : Int) - 1) (-1) (-1) = n := by
  unfold Builtin.Slice.slicePlaces
  have h1 : ¬ ((-1 : Int) > 0) := by omega
  simp only [h1, if_false]
  split
  · simp only [Int.neg_neg, Int.ediv_one]; omega
  · simp only [Int.toNat_zero]; omega
theorem sliceApplied_rev {prog : Program} {w : World} {A : Around} {E : Value → Shared → Prop} {s : Shared} {sl : Addr} {vl vu vk : Value} {n : Nat} {Q : Int × Int × Nat → Shared → Prop} (hs : s.heap.IsSliceOf sl vl vu vk) (pl : IsPart vl none) (pu : IsPart vu none) (pk : IsPart vk (some (-1)))
    (h : Q ((n : Int) - 1, -1, n) s) : wpAny (model prog w) A (Builtin.Slice.sliceApplied (.ref sl) (pure (n : Int))) Q E s := by
  obtain ⟨os, hos, hcs, hds⟩ := id hs
  unfold Builtin.Slice.sliceApplied Builtin.Slice.sliceFields
  refine wpAny_bind (wpAny_bind (wpAny_field hos hds (x := vl) rfl (wpAny_bind (wpAny_field hos hds (x := vu) rfl (wpAny_bind (wpAny_field hos hds (x := vk) rfl (wpAny_pure ?_)))))))
  refine wpAny_bind (HT.slicePart_ pk ?_)
  show wpAny _ _ (if ((-1 : Int) == 0) = true then _ else _) _ _ s
  rw [if_neg (by decide)]
  refine wpAny_bind (HT.slicePart_ pl (wpAny_bind (HT.slicePart_ pu (wpAny_bind (wpAny_pure ?_)))))
  show wpAny _ _ (match Builtin.Slice.sliceAdjust none none (-1) (n : Int) with | (lo, hi) => pure (lo, (-1 : Int), Builtin.Slice.slicePlaces lo hi (-1))) _ _ s
  rw [adjust_rev n]
  show wpAny _ _ (pure ((n : Int) - 1, (-1 : Int), Builtin.Slice.slicePlaces ((n : Int) - 1) (-1) (-1))) _ _ s
  rw [places_rev]
  exact wpAny_pure h
theorem getItem_tuple_rev {prog : Program} {w : World} {A : Around} {E : Value → Shared → Prop} {s : Shared} {t sl : Addr} {its : List Value} {vl vu vk : Value} {Q : Value → Shared → Prop} (ht : IsTup s.heap t its.toArray) (hs : s.heap.IsSliceOf sl vl vu vk) (pl : IsPart vl none) (pu : IsPart vu none) (pk : IsPart vk (some (-1)))
    (h : Q (.ref s.heap.objs.size) { s with heap := s.heap.push { cls := .type "tuple", data := .seq its.reverse.toArray } })
    (hsz : its.length ≤ sizeLine) : wpAny (model prog w) A (getItem (.ref t) (.ref sl)) Q E s := by
  have htake : sizeOk (.seq its.reverse.toArray) := by
    show its.reverse.toArray.size ≤ sizeLine
    rw [List.size_toArray, List.length_reverse]
    exact hsz
  obtain ⟨os, hos, hcs, hds⟩ := id hs
  have hTs : s.TypeIs (.ref sl) "slice" := ⟨os, hos, hcs⟩
  unfold getItem
  try with_reducible refine wpAny_holding ?_
  first | refine wpAny_bind (wpAny_pure ?_) | skip
  refine wpAny_bind (wpAny_sequenceKey ht.typeIs (by decide) ?_)
  refine wpAny_bind (wpAny_callSpecial?_slot (name := Str.ofString "__getitem__") ht.typeIs PyProof.Rows.slot_tuple_getitem
    (wpAny_call_entry PyProof.Rows.slot_tuple_getitem ht.typeIs entry_tuple_getitem ?_ (args_tuple_getitem _ _)))
  show wpAny _ _ (Builtin.Tuple.tupleItemsOf (.ref t) >>= _) _ _ s
  refine wpAny_bind (tupleItemsOf_ ht ?_)
  refine wpAny_bind (wpAny_typeOf hTs ?_)
  rw [if_pos (by decide)]
  refine wpAny_bind (sliceApplied_rev hs pl pu pk ?_)
  have hno : ¬ ((((its.toArray.size : Int) - 1) == 0 && (-1 : Int) == 1 && its.toArray.size == its.toArray.size) = true) := by
    intro q
    rw [Bool.and_eq_true, Bool.and_eq_true] at q
    exact absurd q.1.2 (by decide)
  show wpAny _ _ (if (((its.toArray.size : Int) - 1) == 0 && (-1 : Int) == 1 && its.toArray.size == its.toArray.size) = true then _ else _) _ _ s
  rw [if_neg hno]
  have ep := rev_pick its
  rw [← List.size_toArray] at ep
  rw [ep]
  first
    | exact wpAny_bind (m := Builtin.Tuple.tupleExact _) (wpAny_newObj_type (wpAny_pure ⟨_, rfl, wpAny_pure h⟩) htake)
    | exact wpAny_bind (m := Builtin.Tuple.tupleExact _) (wpAny_newObj_type (wpAny_bind (wpAny_pure (wpAny_pure ⟨_, rfl, wpAny_pure h⟩))) htake)
    | exact wpAny_bind (wpAny_bind (m := Builtin.Tuple.tupleExact _) (wpAny_newObj_type (wpAny_pure (wpAny_pure ⟨_, rfl, wpAny_pure h⟩)) htake))
    | exact wpAny_bind (wpAny_bind (m := Builtin.Tuple.tupleExact _) (wpAny_newObj_type (wpAny_pure ⟨_, rfl, wpAny_pure h⟩) htake))
def tRevT (K : PySem.W.Frag) (te : TE) : TE := fun σ H Q => te σ H fun x H1 => ∃ a xs, x = .ref a ∧ SqT K H1 a xs ∧ ∀ p, H1 p = none → Q (.ref p) (upd H1 p (.tup xs.reverse))
theorem pe_revT {e : Expr} {te : TE} {k : Nat} {p1 p2 p3 pos : Pos} (he : PE X e te) : PE X (.Subscript e (.Slice none none (some (.UnaryOp .USub (.Constant (.int 1) k p1) p2)) p3) pos) (tRevT X.K te) := by
  refine ⟨fun pins s σ H Q I h => ?_⟩
  refine Subscript_ (thn (he.run pins s σ H _ I h) fun v s1 ⟨x, H1, I1, r1, q1⟩ => ?_)
  obtain ⟨a, xs, ex, hx, q⟩ := q1
  subst ex
  cases r1
  have hst : PO X (some (.UnaryOp .USub (.Constant (.int 1) k p1) p2)) (tPart (tUn (rU fun i => .int (-i)) (tC (.int 1)))) := po_some (pe_un un_neg pe_int)
  refine wpAny_Slice (thn (po_none.run pins s1 σ H1 (fun o H2 => o = none ∧ H2 = H1) I1 ⟨rfl, rfl⟩) fun vl s2 ⟨l, H2, I2, pl, el, e2⟩ => ?_)
  subst el e2
  refine thn (po_none.run pins s2 σ H2 (fun o H3 => o = none ∧ H3 = H2) I2 ⟨rfl, rfl⟩) fun vu s3 ⟨u, H3, I3, pu, eu, e3⟩ => ?_
  subst eu e3
  refine thn (hst.run pins s3 σ H3 (fun o H4 => o = some (-1) ∧ H4 = H3) I3 ⟨1, rfl, -1, rfl, rfl, rfl⟩) fun vs s4 ⟨o, H4, I4, ps, eo, e4⟩ => ?_
  subst eo e4
  have I5 : Inv X pins σ H4 { s4 with heap := s4.heap.push { cls := .type "slice", data := .fields #[vl, vu, vs] } } := I4.kept (t' := s4.toks) fun b ob q => Heap.get?_push_of_some _ q
  obtain ⟨its, r, ht, hz⟩ := I5.tuple hx
  have hlen := r.length
  show wpAny (model X.prog X.w) X.A (subscriptTail e (.Slice none none (some (.UnaryOp .USub (.Constant (.int 1) k p1) p2)) p3) (.ref a) (.ref s4.heap.objs.size)) (EP X pins σ Q) X.xe { s4 with heap := s4.heap.push { cls := .type "slice", data := .fields #[vl, vu, vs] } }
  refine tail_any (ops := [.ref a, .ref s4.heap.objs.size]) ht.typeIs (PyProof.Rows.slot_tuple_getitem.lookup) ?_ (by with_unfolding_all rfl)
  refine getItem_tuple_rev ht (Heap.IsSliceOf.new _ vl vu vs) pl pu ps ?_ (by omega)
  refine ⟨.ref _, _, I5.laid (t' := s4.toks) (o := .tup xs.reverse) (fun b ob q => Heap.get?_push_of_some _ q) (Nat.le_refl _) ?_, rfl, q _ (I5.hok.fresh (Nat.le_refl _))⟩
  exact ⟨by rw [List.length_reverse]; exact hz, _, r.reverse, IsTup.new _ _⟩
end
end L2

set_option maxRecDepth 100000
set_option maxHeartbeats 4000000
/-! # The head: what the program's top has left, as facts that one kernel run decides; the end of a law -/
namespace HX
open PySem PySem.W PySem.Calls PyProof.Rows He He5
open PySem.HandSPX (refsVE)

def clsXB (K : Frag) (C : Addr) : Bool := (match K.lookup C with
  | some ⟨.type ty, _, .cls cd, sl⟩ => (match cd.mro, sl.toList with
    | .ref C' :: bm, [_, _, _, _, some (.builtin n), _] => decide (ty = "type") && (decide (C' = C) && (decide (n = "ValueError.__new__") && (cd.hasDict && (!cd.hasDel && (refsVE bm && eqO (alongIn K "__init__" bm) (some (some (.builtin "ValueError.__init__"))))))))
    | _, _ => false)
  | _ => false) && (eqO (findIn K (.ref C) "__setattr__") (some (some (.builtin "object.__setattr__"))) && decide (subIn K (.ref C) (.type "ValueError") = some true))
theorem clsXB_ok {K : Frag} {C : Addr} (h : clsXB K C = true) : NX.ClsX K C := by
  obtain ⟨h1, h2⟩ := ba h
  obtain ⟨h2, h3⟩ := ba h2
  refine ⟨?_, eqO_ok h2, of_decide_eq_true h3⟩
  clear h2 h3 h
  split at h1
  · rename_i ty dd cd sl e
    split at h1
    · rename_i C' bm a0 a1 a2 a3 n a5 hm hs
      obtain ⟨k1, h1⟩ := ba h1
      obtain ⟨k2, h1⟩ := ba h1
      obtain ⟨k3, h1⟩ := ba h1
      obtain ⟨k4, h1⟩ := ba h1
      obtain ⟨k5, h1⟩ := ba h1
      obtain ⟨k6, k7⟩ := ba h1
      have e1 := of_decide_eq_true k1
      have e2 := of_decide_eq_true k2
      have e3 := of_decide_eq_true k3
      subst e1 e2 e3
      obtain ⟨nm, bs, mro, ns, qn, hd, sn, sub, ab, col, del⟩ := cd
      dsimp only at hm k4 k5
      subst hm
      have e5 : del = false := by simpa using k5
      subst k4 e5
      have hsl : sl = #[a0, a1, a2, a3, some (.builtin "ValueError.__new__"), a5] := by
        obtain ⟨l⟩ := sl
        simp only at hs
        rw [hs]
      subst hsl
      exact ⟨nm, qn, ns, bs, bm, sn, sub, ab, col, dd, a0, a1, a2, a3, a5, e, k6, eqO_ok k7⟩
    · cases h1
  · cases h1

/-- the text of an error's __init__ -/
structure InitTx (prog : Program) (st : Stmt) (qual : Str) (ps : List Str) (l : List (Str × Str)) : Prop where
  txt : ∃ msg k q1 q2 q3 q4 q5 q6 r, L2.defBody st = NX.supS msg k q1 q2 q3 q4 q5 q6 :: r ∧ NX.Sto r l ∧ (∀ env : Env, env.scope = L2.defScope st → interactive env = false) ∧
    ∀ env : Env, env.scope = L2.defScope st → ∃ pl : Sem Bool, eval (.Call (.Attribute (.Call (.Name "super" q1) [] [] q2) "__init__" q3) [.Constant (.str msg) k q4] [] q5) env = (do
      let ov ← attributeBase (.Call (.Name "super" q1) [] [] q2) "__init__" env (eval (.Call (.Name "super" q1) [] [] q2) env)
      standAt q3.atName
      let (f, first) ← holding [ov] (getMethod ov "__init__" pl)
      callWith q5 f first (backTo q5 (starEach [.Constant (.str msg) k q4] env)) [])
  par : ∃ ar, ((L2.defArgs st).posonlyargs ++ (L2.defArgs st).args).head? = some ar ∧ ar.arg = "self"
  sc : ((L2.defScope st).names.lookup ("super" : Str) = some .globalImplicit ∧ (L2.defScope st).names.lookup ("__class__" : Str) = some .free ∧ (L2.defScope st).names.lookup ("self" : Str) = some .local) ∧ (∀ x ∈ (L2.defScope st).names, x.2 ≠ .cell) ∧
    (L2.defScope st).kind = .function ∧ (L2.defScope st).isCoroutine = false ∧ (L2.defScope st).isGenerator = false
  loc : (∀ p ∈ l, (L2.defScope st).names.lookup p.2 = some .local ∧ (p.2 == ("__debug__" : Str)) = false ∧ p.2 ∈ ps) ∧ ∀ p ∈ ps, (L2.defScope st).names.lookup p = some .local
  nod : ps.Nodup ∧ ("self" : Str) ∉ ps
  bind : ∀ (s' : Shared) (e : Addr) (fd : FuncData) (us : List Value), us.length = ps.length → fd.params = L2.defArgs st → fd.scope = L2.defScope st → fd.defaults = .none → BindsTo s' fd ⟨.ref e :: us, []⟩ (("self", .ref e) :: ps.zip us)
  top : (prog.main.scope.names.lookup ("super" : Str)).isSome = false
  few : l.length ≤ 900

/-- a def with its closure's names -/
abbrev FnQ : Type := Option (Str × Str × Arguments × FuncBody × Scope × Addr × List Str × Addr)
def fnQ (K : Frag) (a : Addr) : FnQ := match K.lookup a with
  | some ⟨_, _, .func fd, _⟩ => some (fd.name, fd.qualname, fd.params, fd.body, fd.scope, fd.globals, fd.closure.map (·.1), fd.builtins)
  | _ => none
/-- an error's class: its name, its __init__'s text, its qualified name -/
structure ErrD where
  x : Str
  st : Stmt
  qual : Str
  fs : List Str
def ErrD.at_ (d : ErrD) (K : Frag) : Addr := ma K (ga K d.x) "__init__"
def ErrD.val (d : ErrD) : FnQ := some (("__init__" : Str), d.qual, L2.defArgs d.st, FuncBody.stmts (L2.defBody d.st), L2.defScope d.st, mainGlobals, [("__class__" : Str)], builtinsNs)
def ErrD.ok (file : Str) (d : ErrD) (K : Frag) : Bool := clsXB K (ga K d.x) && (eqO (findIn K (.ref (ga K d.x)) "__init__") (some (some (.ref (d.at_ K)))) && (decide (typeIn K (.ref (d.at_ K)) = some (.type "function")) && ((match K.lookup (d.at_ K) with
  | some ⟨_, _, .func fd, _⟩ => codeIn K fd.code fd.qualname && ((match fd.closure with
    | [(_, cc)] => (match K.lookup cc with
      | some ⟨_, _, .cell (some (.ref D)), _⟩ => decide (D = ga K d.x)
      | _ => false)
    | _ => false) && ((match fd.code with
    | .ref cda => (match K.lookup cda with
      | some ⟨_, _, .fields vs, _⟩ => (match (vs[2]? : Option Value) with
        | some (.str f _) => f == file
        | _ => false)
      | _ => false)
    | _ => false) && (match fd.defaults with
    | .none => true
    | _ => false)))
  | _ => false) && ((d.fs.all fun f => eqO (findIn K (.ref (ga K d.x)) f) (some none)) && (eqO (nsIn K mainGlobals d.x) (some (some (.ref (ga K d.x)))) && (keepIn K (.ref (ga K d.x)) && (decide (subIn K (.ref (ga K d.x)) (.type "BaseException") = some true) && decide (typeIn K (.ref (ga K d.x)) = some (.type "type")))))))))
theorem errD_ok {prog : Program} {K : Frag} {h : Heap} {mg : Str → Option Value} {d : ErrD} {ps : List Str} {l : List (Str × Str)} (X : K.In h) (G : h.Ns mainGlobals mg) (T : InitTx prog d.st d.qual ps l) (hf : l.map (·.1) = d.fs) (hs : mg "super" = none) (hany : nsIn K cStatics "thirdparty.any" = some none)
    (e : fnQ K (d.at_ K) = d.val) (c : d.ok (prog.main.file : Str) K = true) : L2.Exn prog K mg d.x (ga K d.x) (d.at_ K) ps l := by
  obtain ⟨c1, c⟩ := ba c
  obtain ⟨c2, c⟩ := ba c
  obtain ⟨c3, c⟩ := ba c
  obtain ⟨c4, c⟩ := ba c
  obtain ⟨c5, c⟩ := ba c
  obtain ⟨c6, c⟩ := ba c
  obtain ⟨c7, c⟩ := ba c
  obtain ⟨c8, c9⟩ := ba c
  obtain ⟨ar, hp1, hp2⟩ := T.par
  refine ⟨clsXB_ok c1, ⟨d.qual, L2.defArgs d.st, L2.defScope d.st, L2.defBody d.st, ar, ⟨T.txt, eqO_ok c2, of_decide_eq_true c3, ?_, hp1, hp2, T.sc.1.1, T.sc.1.2.1, T.sc.1.2.2, fun p hp => ⟨(T.loc.1 p hp).1, (T.loc.1 p hp).2.1, ?_⟩, T.sc.2.1, T.sc.2.2.1, T.sc.2.2.2.1, T.sc.2.2.2.2, T.top, T.few⟩, T.bind, T.loc.2⟩,
    fun p hp => (T.loc.1 p hp).2.2, T.nod, mg_of X G (eqO_ok c6), hs, hany, c7, of_decide_eq_true c8, of_decide_eq_true c9⟩
  · unfold fnQ at e
    cases q : K.lookup (d.at_ K) with
    | none =>
      rw [q] at c4
      cases c4
    | some o =>
      obtain ⟨oc, od, dt, osl⟩ := o
      rw [q] at c4 e
      cases dt with
      | func fd =>
        obtain ⟨n1, n2, n3, n4, n5, n6, n7, n8, n9, n10, n11, n12, n13, n14, n15⟩ := fd
        have e2 : (some (n1, n2, n3, n4, n5, n6, n7.map (·.1), n15) : FnQ) = some (("__init__" : Str), d.qual, L2.defArgs d.st, FuncBody.stmts (L2.defBody d.st), L2.defScope d.st, mainGlobals, [("__class__" : Str)], builtinsNs) := e
        simp only [Option.some.injEq, Prod.mk.injEq] at e2
        obtain ⟨h1, h2, h3, h4, h5, h6, h7, h8⟩ := e2
        subst h1 h2 h3 h4 h5 h6 h8
        obtain ⟨k1, k2⟩ := ba c4
        obtain ⟨kA, k3⟩ := ba k2
        obtain ⟨k3, k9⟩ := ba k3
        clear k2 c4
        dsimp only at k1 kA k3 k9
        have ed : n8 = .none := by
          cases n8 <;> first | rfl | cases k9
        subst ed
        split at kA
        · rename_i nn cc
          have en : nn = "__class__" := by simpa using h7
          subst en
          split at kA
          · rename_i cl cld D csl qc
            have eD := of_decide_eq_true kA
            subst eD
            split at k3
            · rename_i cda hcd9
              have hcd8 : n13 = .ref cda := hcd9
              subst hcd8
              split at k3
              · rename_i ccl cdd vs ccs qd
                split at k3
                · rename_i f tf qv
                  have ef : f = prog.main.file := by simpa using k3
                  exact ⟨oc, od, n9, n10, n11, n12, cda, n14, osl, cc, cl, cld, csl, ccl, cdd, vs, ccs, f, tf, rfl, k1, qc, qd, qv, by rw [ef]; simp⟩
                · cases k3
              · cases k3
            · cases k3
          · cases kA
        · cases kA
      | _ => cases c4
  · have := List.all_eq_true.mp c5 p.1 (by rw [← hf]; exact List.mem_map_of_mem hp)
    exact eqO_ok this

/-! ### the Hook -/
abbrev AlX : Type := Bool × List He5.FnW × List FnQ
def obsX (bx : Frag → Bool) (fn : List DefA) (er : List ErrD) (file : Str) (K : Frag) : AlX := (bx K && (fn.all (fun d => d.ok K) && er.all fun d => d.ok file K), fn.map fun d => fnA K (d.at_ K), er.map fun d => fnQ K (d.at_ K))
def valX (fn : List DefA) (er : List ErrD) : AlX := (true, fn.map DefA.val, er.map ErrD.val)
def SaysX (bx : Frag → Bool) (fn : List DefA) (er : List ErrD) (file : Str) (K : Frag) : Prop := obsX bx fn er file K = valX fn er
def obsXG (n : Nat) (bx : Frag → Bool) (fn : List DefA) (er : List ErrD) (file : Str) (g : Addr → Option Obj) : AlX := obsX bx fn er file (frG g (asA g n))
def hookX (n : Nat) (bx : Frag → Bool) (fn : List DefA) (er : List ErrD) (file : Str) : PySem.W.Hook where
  α := AlX
  obs := fun s => obsXG n bx fn er file s.heap.get?
  val := fun _ => valX fn er
  says := fun _ h => ∃ K : Frag, K.In h ∧ SaysX bx fn er file K
  of := fun _ _ e => ⟨_, frG_in, e⟩
  keeps := fun _ _ _ ⟨K, hK, c⟩ k => ⟨K, Frag.In.keeps hK k, c⟩
theorem obsXG_eq {n : Nat} {bx : Frag → Bool} {fn : List DefA} {er : List ErrD} {file : Str} {g : Addr → Option Obj} {s : Shared} (h : ∀ a, g a = s.heap.get? a) : obsXG n bx fn er file g = (hookX n bx fn er file).obs s := by
  have e : g = s.heap.get? := funext h
  rw [e] <;> rfl
section
variable {bx : Frag → Bool} {fn : List DefA} {er : List ErrD} {file : Str} {K : Frag}
theorem SaysX.bool (c : SaysX bx fn er file K) : bx K = true := (ba (show (bx K && (fn.all (fun d => d.ok K) && er.all fun d => d.ok file K)) = true from congrArg (fun z : AlX => z.1) c)).1
theorem SaysX.def_ (c : SaysX bx fn er file K) (i : Nat) {d : DefA} (h : fn[i]? = some d := by rfl) : ∃ fd, L2.FunD K d.name d.qual d.params d.body d.scope (d.dvs K) (d.kws K) (d.at_ K) fd := by
  have c2 := (ba (ba (show (bx K && (fn.all (fun d => d.ok K) && er.all fun d => d.ok file K)) = true from congrArg (fun z : AlX => z.1) c)).2).1
  have e : fn.map (fun d => fnA K (d.at_ K)) = fn.map DefA.val := congrArg (fun z : AlX => z.2.1) c
  have e2 : (fn.map fun d => fnA K (d.at_ K))[i]? = (fn.map DefA.val)[i]? := by rw [e]
  rw [List.getElem?_map, List.getElem?_map, h] at e2
  exact DefA.funD (Option.some.inj e2) (List.all_eq_true.mp c2 d (List.mem_of_getElem? h))
theorem SaysX.err_ (c : SaysX bx fn er file K) (i : Nat) {d : ErrD} (h : er[i]? = some d := by rfl) : fnQ K (d.at_ K) = d.val ∧ d.ok file K = true := by
  have c2 := (ba (ba (show (bx K && (fn.all (fun d => d.ok K) && er.all fun d => d.ok file K)) = true from congrArg (fun z : AlX => z.1) c)).2).2
  have e : er.map (fun d => fnQ K (d.at_ K)) = er.map ErrD.val := congrArg (fun z : AlX => z.2.2) c
  have e2 : (er.map fun d => fnQ K (d.at_ K))[i]? = (er.map ErrD.val)[i]? := by rw [e]
  rw [List.getElem?_map, List.getElem?_map, h] at e2
  exact ⟨Option.some.inj e2, List.all_eq_true.mp c2 d (List.mem_of_getElem? h)⟩
end
end HX

namespace L2
open PySem PySem.Spec PyProof.Rows
/-- the end of a law over a head by facts, the script's bits told -/
theorem walk_ofX {l : PySem.W.OpenLaw} {n k : Nat} {q : Program} {loose : List Str} {XP : (Str → Option Value) → Heap → Prop} {YP : World → Heap → Prop} {d : DefRec} {CX : World → CXT} {x : Str}
    (hn : l.most = some n) (hn2 : n ≤ sizeLine) (hdf : d.params.defaults = []) (hr : Room k callerA)
    (F : ∀ (w : World) (mg : Str → Option Value) (fa : Addr) (h : Heap), YP w h → h.Ns mainGlobals mg → mg d.name = some (.ref fa) →
      ∃ (K : PySem.W.Frag) (fd : FuncData) (sp : Sp), K.In h ∧ (∀ (s : Shared) (u : Value), BindsTo s fd ⟨[u], []⟩ [(x, u)]) ∧
        (∀ (H : Hp) (a : Addr) (ns : List Int), ns.length ≤ n → (∀ z ∈ ns, Builtin.Int.intBits z ≤ 1048576) → Only H → SqL K H a (ns.map V.int) → sp [.ref a] H (fun v _ => v = .bl true) fun _ _ _ => False) ∧
        ∀ base : Heap, K.In base → base.Ns mainGlobals mg → FnOk l.prog w K mg base (CX w) k fa fd [x] sp)
    (hCX : ∀ (w : World) (H : Hp) (s : Shared) (e : Value) (s' : Shared), CX w [] H s (fun _ _ _ => False) e s' → False) :
    PySem.W.WalkO q loose XP YP l.row.toRowW d [] (fun f vs => PySem.call f vs) := by
  refine Att.attach_callB hn hdf fun w s₀ s₁ mg mb fa o pm cd doc a vs ns G Y ho hd hcd hmg hobj hints hlen hbits hg => ?_
  obtain ⟨K, fd, sp, KX, hb, hsp, hF⟩ := F w mg fa _ Y G.T.g hmg
  exact law_call KX G.T.g G.T.b G.T.builtins G.T.nolimit hg hobj hints (Nat.le_trans hlen hn2) hr hF hb (fun H hO hS => hsp H a ns hlen hbits hO hS) fun H e s' => hCX w H s₁ e s'
end L2

set_option maxRecDepth 100000
set_option maxHeartbeats 4000000
/-! # n * obj; facts of classes by one Bool -/
namespace L2
open PySem PySem.Spec PyProof.Rows
theorem int_mul_ins (k : Int) (t : Tok) (l : Addr) (C : Value) (dd : Option Addr) (sl : Array (Option Value)) :
    Meets (Builtin.«int.__mul__» ⟨[.int k t, .ref l], []⟩) (fun _ R s => s.heap.get? l = some { cls := C, dict := dd, data := .plain, slots := sl } ∧ R (.ok (.ret Value.notImplemented)) s) :=
  .of_wp fun prog w A R s h => by obtain ⟨hp, g, d, tk, os⟩ := s; obtain ⟨hl, h⟩ := h; wp_walk using wpAny_loadPart' hl; exact ⟨_, rfl, h⟩
/-- n op a, a of a class with the operator and its reflected one -/
structure OwnR (K : PySem.W.Frag) (C : Addr) (op : Operator) (f : Addr) : Prop where
  first : PySem.W.selfFirst K C = true
  mul : ∃ g, PySem.W.findIn K (.ref C) (PySem.dunder op.info.2) = some (some (.ref g))
  at_ : PySem.W.findIn K (.ref C) (dunderR op.info.2) = some (some (.ref f))
  fn : PySem.W.isFn K (.ref f) = true
  sub : PySem.W.subIn K (.ref C) (.type "int") = some false
def rOwnR (C : Addr) (sp : Sp) (E : XK) : R2 := fun x y H Q => ∃ a dx fs n, x = .int n ∧ y = .ref a ∧ H a = some (.ins C dx fs) ∧ sp [.ref a, .int n] H Q E
section
open PySem.W
theorem ksp_rbin {prog : Program} {w : World} {A : Around} {E : Value → Shared → Prop} {s : Shared} {K : Frag} {x C L f : Addr} {h₀ : Heap} {m : Str → Option Value} {od : Option Obj} {dx : Addr} {k : Int} {t : Tok} {op : Operator} {idl : String} {Q : Value → Shared → Prop}
    (Fr0 : Fr h₀ L s.heap m) (X₀ : K.In h₀) (I : InstAt s.heap x (instObj C dx) C od) (O : OwnR K C op f) (hf : fillsNumberSlot (.type "int") op.info.2 = pure true) (hl : Slot "int" (PySem.dunder op.info.2) idl)
    (hd : ∀ {Q' : Value → Shared → Prop}, Q' .notImplemented s → wpAny (model prog w) A (call (.builtin idl) [.int k t, .ref x]) Q' E s)
    (h : wpAny (model prog w) A (call (.ref f) [.ref x, .int k t]) (PySem.W.CmpBack Q) E s) : wpAny (model prog w) A (binaryOp op (.int k t) (.ref x)) Q E s := by
  have X := X₀.keeps Fr0.keep
  obtain ⟨cd, rest, hcd, hm⟩ := ksp_first O.first
  obtain ⟨g0, hg0⟩ := O.mul
  have one := ksp_try X I O.at_ O.fn h
  have two : ∀ {Q' : Option Value → Shared → Prop}, Q' none s → wpAny (model prog w) A (tryMethod (.int k t) (PySem.dunder op.info.2) (.ref x)) Q' E s := fun {Q'} q =>
    wpAny_tryMethod_declines (typeIs_int s k t) hl (hd ⟨rfl, q⟩)
  have oat := O.at_
  rcases hi : op.info with ⟨sym, nm'⟩
  rw [hi] at hg0 hf two one
  dsimp only at hg0 hf two one
  obtain ⟨hh, gg, d, tt, os⟩ := s
  have L1 : Looks (model prog w) hh (typeOf (.ref x)) (.ref C) := I.type
  have L2 : Looks (model prog w) hh (typeOf (.int k t)) (.type "int") := Looks.of_pure rfl
  have L3 : Looks (model prog w) hh (fillsNumberSlot (.ref C) nm') true := fills_K X hcd hm hg0
  have L4 : Looks (model prog w) hh (fillsNumberSlot (.type "int") nm') true := Looks.of_pure hf
  have L5 : Looks (model prog w) hh (isSubtype (.ref C) (.type "int")) false := looks_subIn X O.sub
  have L7 : Looks (model prog w) hh (numberSlotInPython (.type "int") nm') false := Looks.of_pure rfl
  have hne : (Value.type "int" == Value.ref C) = false := Bool.eq_false_iff.mpr fun q => by cases beq_iff_eq.mp q
  simp only [binaryOp, hi]
  refine wpAny_holding (wpAny_bind ?_)
  unfold binaryOp1
  refine wpAny_bind (L2.at (wpAny_bind (L1.at (wpAny_bind (L4.at ?_)))))
  simp only [hne, Bool.false_eq_true, if_false]
  refine wpAny_bind (L3.at ?_)
  simp only [Bool.and_self, if_true]
  refine wpAny_bind (L5.at ?_)
  simp only [Bool.false_eq_true, if_false, pure_bind, Bool.not_false, Bool.and_self, if_true]
  refine wpAny_bind (L7.at ?_)
  simp only [Bool.false_eq_true, if_false, pure_bind, Bool.not_false, Bool.and_self, if_true]
  refine wpAny_bind (two ?_)
  simp only [Bool.false_eq_true, if_false, pure_bind]
  refine wpAny_bind (wpAny_mono one (fun r s' hr' => ?_) fun _ _ e => e)
  obtain ⟨v, rfl, hq⟩ := hr'
  exact wpAny_bind (wpAny_rule (wpAny_pure (wpAny_pure hq)))
end
section
variable {X : Cx} {CX : CXT} {C f : Addr} {fd : FuncData} {ps : List Str} {sp : Sp} {E : XK} {k : Nat}
theorem op_ownR (O : OwnR X.K C .Mult f) (F0 : FnOk X.prog X.w X.K X.mg X.base CX k f fd ps sp) (hb : Binds X.K fd ps []) (hr : Room k X.A) (hx : Passes CX X E) :
    OpR X (binaryOp .Mult) (rOwnR C sp E) := by
  intro pins s σ H x y v u Q I rx ry h
  obtain ⟨a, dx, fs, n, rfl, rfl, ha, hsp⟩ := h
  obtain ⟨t, rfl⟩ := rx
  cases ry
  obtain ⟨mA, J0, rel, _⟩ := ins_get I.hok ha
  obtain ⟨od, J, _⟩ := J0.look
  obtain ⟨m, hF⟩ := I.fr
  refine ksp_rbin hF I.ok.mod.kin J O F.fills_int_mul F.slot_int_mul (fun q => call_meets F.slot_int_mul (typeIs_int s n t) F.entry_int_mul (F.args_int_mul_2 _ _) (int_mul_ins n t a (.ref C) (some dx) #[]) ⟨J0.obj, q⟩) (wpAny_mono (run_fn F0 hr hb .nil hx I (us := [.ref a, .int n t]) (vs := [.ref a, .int n]) (.cons rfl (.cons ⟨t, rfl⟩ .nil)) hsp) (fun r s' q => back_of q) fun _ _ z => z)
/-- a def called within a built-in's call -/
theorem run_fnA {A : Around} {pins : List (Addr × Obj)} {σ : St} {H : Hp} {s : Shared} {Q : VK} {us : List Value} {vs : List V} (F : FnOk X.prog X.w X.K X.mg X.base CX k f fd ps sp) (hb : Binds X.K fd ps []) (hr : Room k A) (e0 : Env0 X.prog X.w X.K X.mg X.base A X.stack s H) (hx : Passes CX X E)
    (I : Inv X pins σ H s) (r : Vals vs us) (h : sp vs H Q E) : wpAny (model X.prog X.w) A (call (.ref f) us) (EP X pins σ Q) X.xe s := by
  have hl : us.length = ps.length := r.length.symm.trans (F.len _ _ _ _ h)
  have B : BindsTo s fd ⟨us, []⟩ (ps.zip us) := by
    have := hb s us I.kIn (by rw [List.append_nil]; exact hl)
    rwa [List.append_nil] at this
  refine wpAny_call (codeAny_mono (F.run A X.stack s H ⟨us, []⟩ us vs Q E hr e0 B r h) fun r s' hq => ?_)
  cases r with
  | error e => exact hx pins σ H s e s' I hq
  | ok fl =>
    cases fl with
    | ret u => exact I.after hq
    | next => exact False.elim hq
    | brk => exact False.elim hq
    | cont => exact False.elim hq
/-- abs(a), a of a class with __abs__ -/
def rOwnAbs (C : Addr) (sp : Sp) (E : XK) : List V → Hp → VK → Prop := fun xs H Q => ∃ a dx fs, xs = [.ref a] ∧ H a = some (.ins C dx fs) ∧ sp [.ref a] H Q E
theorem call_ownAbs (hs : PySem.W.findIn X.K (.ref C) "__abs__" = some (some (.ref f))) (hf : PySem.W.isFn X.K (.ref f) = true) (F : FnOk X.prog X.w X.K X.mg X.base CX k f fd ps sp) (hb : Binds X.K fd ps []) (hr : Room (k + 1) X.A) (hx : Passes CX X E) :
    CallR X (.builtin "abs") (rOwnAbs C sp E) := by
  intro pins s σ H xs us Q I r h
  obtain ⟨a, dx, fs, rfl, ha, hsp⟩ := h
  cases r with
  | cons r rr =>
  cases rr
  cases r
  obtain ⟨od, J⟩ := inst_of I.hok ha
  refine Calls.call_function_entry kind_abs plain_abs entry_abs (args_abs _) ?_
  unfold Builtin.«abs»
  refine wpAny_bind (m := oneArg "abs" _) (wpAny_of_eq (a := Value.ref a) (by first | rfl | kernel_rfl!) ?_)
  refine wpAny_bind (PySem.W.special_fn I.kIn J hs (beq_iff_eq.mp hf) (wpAny_mono (run_fnA F hb hr.in1 I.env0.in1 hx I (us := [.ref a]) (vs := [.ref a]) (.cons rfl .nil) hsp) (fun v s' q => ?_) fun _ _ z => z))
  exact wpAny_pure ⟨_, rfl, q⟩
/-- len(a), a of a class with __len__ -/
def rOwnLen (C : Addr) (sp : Sp) (E : XK) : List V → Hp → VK → Prop := fun xs H Q => ∃ a dx fs, xs = [.ref a] ∧ H a = some (.ins C dx fs) ∧ sp [.ref a] H (fun v H' => ∃ n : Nat, v = .int n ∧ n ≤ sizeLine ∧ Q v H') E
end
end L2

set_option maxRecDepth 100000
set_option maxHeartbeats 4000000
/-! # Facts of a class by one Bool each; walks over own instances, over lists or tuples -/
namespace FB
open PySem PySem.W PySem.Calls PyProof.Rows He He5 HX
abbrev mT : Value := .type "type"
def creadB (K : Frag) (C : Addr) : Bool := readsIn K C mT && eqO (specialIn K (.ref C) "__getattribute__") (some (some (.builtin "type.__getattribute__")))
theorem cread_ok {K : Frag} {C : Addr} (h : creadB K C = true) : ClX.CRead K C mT := by
  obtain ⟨h1, h2⟩ := ba h
  exact ⟨h1, eqO_ok h2⟩
def cintB (K : Frag) (C : Addr) (f : Str) (i : Int) : Bool := match findCls K (.ref C) mT f with
  | some (.val (.int j _)) => decide (j = i)
  | _ => false
theorem cint_ok {K : Frag} {C : Addr} {f : Str} {i : Int} (h : cintB K C f i = true) : ∃ u, ClX.CVal K C mT f (.int i) u := by
  unfold cintB at h
  split at h
  · rename_i j t e
    have := of_decide_eq_true h
    subst this
    exact ⟨_, e, ⟨t, rfl⟩⟩
  · cases h
def addrO : Option (Option Value) → Bool
  | some none => true
  | some (some (.ref _)) => true
  | _ => false
theorem addrO_ok {o : Option (Option Value)} (h : addrO o = true) : ∃ rc, o = some rc ∧ (rc = none ∨ ∃ g : Addr, rc = some (.ref g)) := by
  cases o with
  | none => cases h
  | some o =>
    cases o with
    | none => exact ⟨_, rfl, .inl rfl⟩
    | some v => cases v <;> first | exact ⟨_, rfl, .inr ⟨_, rfl⟩⟩ | (cases h; done)
def opB (K : Frag) (C : Addr) (op : Operator) (f : Addr) : Bool := selfFirst K C && (eqO (findIn K (.ref C) (PySem.dunder op.info.2)) (some (some (.ref f))) && isFn K (.ref f))
theorem op_ok {K : Frag} {C f : Addr} {op : Operator} (h : opB K C op f = true) : L2.OwnOp K C op f := by
  obtain ⟨h1, h⟩ := ba h
  obtain ⟨h2, h3⟩ := ba h
  exact ⟨h1, eqO_ok h2, h3⟩
def opTB (K : Frag) (C : Addr) (op : Operator) (f : Addr) (T : String) : Bool := opB K C op f && (addrO (findIn K (.ref C) (dunderR op.info.2)) && ((findIn K (.type T) (PySem.dunder op.info.2)).isSome && ((findIn K (.type T) (dunderR op.info.2)).isSome && decide (subIn K (.type T) (.ref C) = some false))))
theorem opT_ok {K : Frag} {C f : Addr} {op : Operator} {T : String} (h : opTB K C op f T = true) : L2.OwnOpT K C op f T := by
  obtain ⟨h1, h⟩ := ba h
  obtain ⟨h2, h⟩ := ba h
  obtain ⟨h3, h⟩ := ba h
  obtain ⟨h4, h5⟩ := ba h
  exact { op_ok h1 with rev := addrO_ok h2, tf := Option.isSome_iff_exists.mp h3, tr := Option.isSome_iff_exists.mp h4, sub := of_decide_eq_true h5 }
def opRB (K : Frag) (C : Addr) (op : Operator) (f : Addr) : Bool := selfFirst K C && ((match findIn K (.ref C) (PySem.dunder op.info.2) with | some (some (.ref _)) => true | _ => false) && (eqO (findIn K (.ref C) (dunderR op.info.2)) (some (some (.ref f))) && (isFn K (.ref f) && decide (subIn K (.ref C) (.type "int") = some false))))
theorem opR_ok {K : Frag} {C f : Addr} {op : Operator} (h : opRB K C op f = true) : L2.OwnR K C op f := by
  obtain ⟨h1, h⟩ := ba h
  obtain ⟨h2, h⟩ := ba h
  obtain ⟨h3, h⟩ := ba h
  obtain ⟨h4, h5⟩ := ba h
  refine ⟨h1, ?_, eqO_ok h3, h4, of_decide_eq_true h5⟩
  split at h2
  · rename_i g e
    exact ⟨g, e⟩
  · cases h2
/-- a special method m of C at f -/
def spB (K : Frag) (C : Addr) (m : Str) (f : Addr) : Bool := eqO (findIn K (.ref C) m) (some (some (.ref f))) && isFn K (.ref f)
theorem sp_ok {K : Frag} {C f : Addr} {m : Str} (h : spB K C m f = true) : findIn K (.ref C) m = some (some (.ref f)) ∧ isFn K (.ref f) = true := by
  obtain ⟨h1, h2⟩ := ba h
  exact ⟨eqO_ok h1, h2⟩
/-- a classmethod m of C, its def at g -/
def cmetB (K : Frag) (C : Addr) (m : Str) (g : Addr) : Bool := match findCls K (.ref C) mT m with
  | some (.get (.builtin n) (.ref p) .none (.ref D)) => decide (n = "classmethod.__get__") && (decide (D = C) && ((match recIn K p "classmethod" with
    | some (.ref g' :: _) => decide (g' = g)
    | _ => false) && fnIn K g))
  | _ => false
theorem cmet_ok {K : Frag} {C g : Addr} {m : Str} (h : cmetB K C m g = true) : ∃ p, ClX.CMet K C mT m p g := by
  unfold cmetB at h
  split at h
  · rename_i n p D e
    obtain ⟨h1, h⟩ := ba h
    obtain ⟨h2, h⟩ := ba h
    obtain ⟨h3, h4⟩ := ba h
    have e1 := of_decide_eq_true h1
    have e2 := of_decide_eq_true h2
    subst e1 e2
    split at h3
    · rename_i g' r er
      have e3 := of_decide_eq_true h3
      subst e3
      exact ⟨p, e, ⟨r, er⟩, h4⟩
    · cases h3
  · cases h
end FB
namespace L2
open PySem PySem.Spec PyProof.Rows PySem.W
/-- the facts of __iter__ from its text -/
theorem ownIt_of {K : Frag} {mg : Str → Option Value} {C f : Addr} {fld qual : Str} {fd : FuncData} {st : Stmt} (c : Cls K C) (n : NoAttr K C fld) (a : findIn K (.ref C) "__iter__" = some (some (.ref f))) (hf : isFn K (.ref f) = true) (hm : mg "iter" = none)
    (F : FunD K "__iter__" qual (defArgs st) (defBody st) (defScope st) [] [] f fd)
    (tx : ∃ p1 p2 p3 p4 p5, defBody st = [.Return (some (.Call (.Name "iter" p1) [.Attribute (.Name "self" p2) fld p3] [] p4)) p5] ∧ ∀ env : Env, env.scope = defScope st → attributeBase (.Name "self" p2) fld env (eval (.Name "self" p2) env) = eval (.Name "self" p2) env)
    (sc : (defScope st).names.lookup ("self" : Str) = some .local ∧ (defScope st).names.lookup ("iter" : Str) = some .globalImplicit ∧ (∀ x ∈ (defScope st).names, x.2 ≠ .cell) ∧ (defScope st).kind = .function ∧ (defScope st).isCoroutine = false ∧ (defScope st).isGenerator = false)
    (hb : ∀ (s : Shared) (fd : FuncData) (v : Value), fd.params = defArgs st → fd.scope = defScope st → fd.defaults = .none → BindsTo s fd ⟨[v], []⟩ [("self", v)]) : OwnIt K mg C f fld := by
  obtain ⟨oc, od, dV, kV, doc, pm, an, cdv, ct, osl, rfl, lk, hcd, hD, _⟩ := F.ex
  obtain ⟨p1, p2, p3, p4, p5, hbody, hbase⟩ := tx
  have e : dV = .none := by
    rcases hD with ⟨_, e⟩ | ⟨e, _⟩
    · exact e
    · exact absurd rfl e
  subst e
  rw [hbody] at lk
  exact ⟨c, n, a, hf, hm, qual, defArgs st, defScope st, p1, p2, p3, p4, p5, ⟨oc, od, kV, doc, pm, an, cdv, ct, osl, lk, hcd⟩, sc.1, sc.2.1, sc.2.2.1, sc.2.2.2.1, sc.2.2.2.2.1, sc.2.2.2.2.2, hb, hbase⟩
section
variable {X : Cx} {tg : Expr}
/-- for x in a, a an own instance whose field is a tuple -/
def iOwn (K : Frag) (C : Addr) (fld : Str) (te : TE) : TI := fun σ H R => te σ H fun x H1 => ∃ a dx fs t xs, x = .ref a ∧ H1 a = some (.ins C dx fs) ∧ fs.lookup fld = some (.ref t) ∧ SqT K H1 t xs ∧ R (Itt K t) H1
theorem pi_own {C f : Addr} {fld : Str} {k : Nat} {e : Expr} {te : TE} (O : OwnIt X.K X.mg C f fld) (hr : Room k X.A) (he : PE X e te) : PI X tg e (iOwn X.K C fld te) := by
  refine ⟨fun pins s σ H R I h => ?_⟩
  refine thn (he.run pins s σ H _ I h) fun v s1 ⟨x, H1, I1, r1, q1⟩ => ?_
  obtain ⟨a, dx, fs, t, xs, ex, ha, hl, hT, q⟩ := q1
  subst ex
  cases r1
  refine own_iter O hr I1 ha hl hT fun h' tk it hk hit ho => ?_
  have I2 : Inv X pins σ H1 { s1 with heap := h', toks := tk } := I1.kept (t' := tk) hk
  refine ⟨it, [it], _, _, H1, rfl, I2, turn_tuple t it, ⟨_, ho, rfl, rfl⟩, fun b hb => ?_, q⟩
  have e : b = it := by simpa using hb
  subst e
  exact I1.fpOk hit (I1.hok.fresh hit)
/-- for x in a, a a list or a tuple -/
def iSeqW (K : Frag) (te : TE) : TI := fun σ H R => te σ H fun x H1 => ∃ a xs, x = .ref a ∧ SqA K H1 a xs ∧ ∀ (J : It) (G : Hp → Prop), (∀ H', Same H1 H' → G H') → Walk J xs.length G (YAt xs) → R J H1
theorem pi_seqW {l : Expr} {tl : TE} (hl : PE X l tl) : PI X tg l (iSeqW X.K tl) := by
  refine ⟨fun pins s σ H R I h => ?_⟩
  refine thn (hl.run pins s σ H _ I h) fun v s1 ⟨x, H1, I1, r1, q1⟩ => ?_
  obtain ⟨a, xs, e, hq, q⟩ := q1
  subst e
  cases r1
  rcases hq with hq | hq
  · obtain ⟨its, rv, p, hz⟩ := I1.list hq
    refine wpAny_pyIter_list p.isList ?_
    refine ⟨s1.heap.objs.size, [s1.heap.objs.size], _, _, H1, rfl, I1.kept (t' := s1.toks) fun b o e => Heap.get?_push_of_some _ e, turn_list a _, ⟨_, Heap.get?_push_size _ rfl, rfl, rfl⟩, fun b hb => ?_, q _ _ (fun _ sm => sm.seq hq) walk_list⟩
    have e : b = s1.heap.objs.size := by simpa using hb
    subst e
    exact I1.fpOk (Nat.le_refl _) (I1.hok.fresh (Nat.le_refl _))
  · obtain ⟨its, rv, p, hz⟩ := I1.tuple hq
    refine wpAny_pyIter_tuple (show s1.heap.IsTuple a its.toArray from p) ?_
    refine ⟨s1.heap.objs.size, [s1.heap.objs.size], _, _, H1, rfl, I1.kept (t' := s1.toks) fun b o e => Heap.get?_push_of_some _ e, turn_tuple a _, ⟨_, Heap.get?_push_size _ rfl, rfl, rfl⟩, fun b hb => ?_, q _ _ (fun _ sm => sm.seqT hq) walk_tup⟩
    have e : b = s1.heap.objs.size := by simpa using hb
    subst e
    exact I1.fpOk (Nat.le_refl _) (I1.hok.fresh (Nat.le_refl _))
end
end L2

set_option maxRecDepth 100000
set_option maxHeartbeats 4000000
/-! # A def that keeps its promise, in one word; calls of it -/
namespace L2
open PySem PySem.Spec PyProof.Rows
structure Ok (P : Program) (w : World) (K : PySem.W.Frag) (mg : Str → Option Value) (base : Heap) (CX : CXT) (k : Nat) (f : Addr) (ps : List Str) (sp : Sp) : Prop where
  ex : ∃ fd, FnOk P w K mg base CX k f fd ps sp ∧ Binds K fd ps [] ∧ PySem.W.keepIn K (.ref f) = true
section
variable {P : Program} {w : World} {K : PySem.W.Frag} {mg : Str → Option Value} {base : Heap} {CX : CXT} {k j : Nat} {f : Addr} {ps : List Str} {sp sp' : Sp}
theorem Ok.mono (O : Ok P w K mg base CX k f ps sp) (h : k ≤ j) : Ok P w K mg base CX j f ps sp := let ⟨fd, a, b, c⟩ := O.ex; ⟨fd, a.mono h, b, c⟩
theorem Ok.imp (O : Ok P w K mg base CX k f ps sp) (h : ∀ vs H Q E, sp' vs H Q E → sp vs H Q E) : Ok P w K mg base CX k f ps sp' := let ⟨fd, a, b, c⟩ := O.ex; ⟨fd, a.imp h, b, c⟩
/-- the proof of a def: its names' number, then its body -/
theorem Ok.of {x qual : Str} {params : Arguments} {body : List Stmt} {scope : Scope} {N : List Str} (n : Nat) (hf : ∃ fd, FunD K x qual params body scope [] [] f fd) (S : FnScope N ps scope) (hb : ∀ {fd : FuncData}, FunD K x qual params body scope [] [] f fd → Binds K fd ps []) (hk : n + 1 ≤ k)
    (len : ∀ vs H Q E, sp vs H Q E → vs.length = ps.length)
    (hbody : ∀ (cdv : Value) (A : Around) (outer : List Env) (s : Shared) (H : Hp) (vs : List V) (Q : VK) (E : XK), Room n (A.deeper (envOfC qual scope s.heap.objs.size f cdv)) → sp vs H Q E →
      ∃ t, PSs (cxOf CX P w K mg base N qual scope f cdv A outer s H E) body t ∧ t { nx := fun _ H' => Q .non H', rt := Q } (start N vs) H) : Ok P w K mg base CX k f ps sp := by
  obtain ⟨fd, F⟩ := hf
  exact ⟨fd, (F.ok S len hbody).mono hk, hb F, F.kp⟩
end
section
variable {X : Cx} {CX : CXT} {k : Nat} {f C : Addr} {ps : List Str} {sp : Sp} {E : XK} {x m : Str} {p pos apos : Pos} {e o : Expr} {es : List Expr} {ta : TE} {t : TA}
theorem pc (O : Ok X.prog X.w X.K X.mg X.base CX k f ps sp) (hr : Room k X.A) (hm : X.mg x = some (.ref f)) (hx : Passes CX X E) (ha : PA X (e :: es) t) (hg : Gl X x := by rfl) (hdb : (x == ("__debug__" : Str)) = false := by decide)
    (he : starEach (e :: es) X.env = (false, eval e X.env) :: starEach es X.env := by rfl) (hpl : (backTo pos (starEach es X.env)).any (·.1) = false := by rfl) :
    PE X (.Call (.Name x p) (e :: es) [] pos) (tCall sp [] E t) := let ⟨fd, a, b, c⟩ := O.ex; pe_call a hr hg hm c b .nil hx ha hdb he hpl
theorem pc0 (O : Ok X.prog X.w X.K X.mg X.base CX k f ps sp) (hr : Room k X.A) (hm : X.mg x = some (.ref f)) (hx : Passes CX X E) (hg : Gl X x := by rfl) (hdb : (x == ("__debug__" : Str)) = false := by decide) :
    PE X (.Call (.Name x p) [] [] pos) (tCall sp [] E tNil) := let ⟨fd, a, b, c⟩ := O.ex; pe_call0 a hr hg hm c b .nil hx hdb
theorem pmk (O : Ok X.prog X.w X.K X.mg X.base CX k f ps sp) (M : Mk X.K C f) (hr : Room (k + 1) X.A) (hm : X.mg x = some (.ref C)) (hx : Passes CX X E) (ha : PA X (e :: es) t) (hg : Gl X x := by rfl) (hdb : (x == ("__debug__" : Str)) = false := by decide)
    (he : starEach (e :: es) X.env = (false, eval e X.env) :: starEach es X.env := by rfl) (hpl : (backTo pos (starEach es X.env)).any (·.1) = false := by rfl) :
    PE X (.Call (.Name x p) (e :: es) [] pos) (tMake C sp [] E t) := let ⟨fd, a, b, c⟩ := O.ex; pe_make M a hr hg hm b .nil hx ha hdb he hpl
theorem pmeth {pl : Sem Bool} (O : Ok X.prog X.w X.K X.mg X.base CX k f ps sp) (he : PE X o ta) (c : Cls X.K C) (hm : Meth X.K C m f) (hr : Room k X.A) (hx : Passes CX X E) (ha : PA X (e :: es) t)
    (hst : starEach (e :: es) X.env = (false, eval e X.env) :: starEach es X.env := by rfl) (hpl : (backTo pos (starEach es X.env)).any (·.1) = false := by rfl)
    (ht : eval (.Call (.Attribute o m apos) (e :: es) [] pos) X.env = (do
      let ov ← eval o X.env
      standAt apos.atName
      let (f, first) ← holding [ov] (getMethod ov m pl)
      callWith pos f first (backTo pos (starEach (e :: es) X.env)) (backToKw pos (keywordEach [] X.env))) := by rfl) :
    PE X (.Call (.Attribute o m apos) (e :: es) [] pos) (tMeth C m sp [] E ta t) := let ⟨fd, a, b, d⟩ := O.ex; pe_meth (pl := pl) he c hm a hr b .nil hx ha hst hpl ht
theorem pmeth0 {pl : Sem Bool} (O : Ok X.prog X.w X.K X.mg X.base CX k f ps sp) (he : PE X o ta) (c : Cls X.K C) (hm : Meth X.K C m f) (hr : Room k X.A) (hx : Passes CX X E)
    (ht : eval (.Call (.Attribute o m apos) [] [] pos) X.env = (do
      let ov ← eval o X.env
      standAt apos.atName
      let (f, first) ← holding [ov] (getMethod ov m pl)
      callWith pos f first (backTo pos (starEach [] X.env)) (backToKw pos (keywordEach [] X.env))) := by rfl) :
    PE X (.Call (.Attribute o m apos) [] [] pos) (tMeth C m sp [] E ta tNil) := let ⟨fd, a, b, d⟩ := O.ex; pe_meth0 (pl := pl) he c hm a hr b .nil hx ht
/-- a class or a def of the module by its name -/
theorem pgC (hm : X.mg x = some (.ref C)) (hg : Gl X x := by rfl) (hdb : (x == ("__debug__" : Str)) = false := by decide) : PE X (.Name x p) (tC (.ref C)) := pe_glob (v := .ref C) hg hm rfl hdb
theorem oOwn {op : Operator} (O : Ok X.prog X.w X.K X.mg X.base CX k f ps sp) (W : OwnOp X.K C op f) (hr : Room k X.A) (hx : Passes CX X E) : OpR X (binaryOp op) (rOwnOp C sp E) := let ⟨fd, a, b, c⟩ := O.ex; op_own W a b hr hx
theorem oOwnI {op : Operator} (O : Ok X.prog X.w X.K X.mg X.base CX k f ps sp) (W : OwnOpT X.K C op f "int") (hr : Room k X.A) (hx : Passes CX X E) : OpR X (binaryOp op) (rOwnOpI C sp E) := let ⟨fd, a, b, c⟩ := O.ex; op_ownI W a b hr hx
theorem oOwnR (O : Ok X.prog X.w X.K X.mg X.base CX k f ps sp) (W : OwnR X.K C .Mult f) (hr : Room k X.A) (hx : Passes CX X E) : OpR X (binaryOp .Mult) (rOwnR C sp E) := let ⟨fd, a, b, c⟩ := O.ex; op_ownR W a b hr hx
theorem uOwn (O : Ok X.prog X.w X.K X.mg X.base CX k f ps sp) (W : PySem.W.findIn X.K (.ref C) "__neg__" = some (some (.ref f)) ∧ PySem.W.isFn X.K (.ref f) = true) (hr : Room k X.A) (hx : Passes CX X E) : UnR X (unaryOp .USub) (rOwnNeg C sp E) := let ⟨fd, a, b, c⟩ := O.ex; un_own W.1 W.2 a b hr hx
theorem cAbs (O : Ok X.prog X.w X.K X.mg X.base CX k f ps sp) (W : PySem.W.findIn X.K (.ref C) "__abs__" = some (some (.ref f)) ∧ PySem.W.isFn X.K (.ref f) = true) (hr : Room (k + 1) X.A) (hx : Passes CX X E) : CallR X (.builtin "abs") (rOwnAbs C sp E) := let ⟨fd, a, b, c⟩ := O.ex; call_ownAbs W.1 W.2 a b hr hx
end
/-- a def that may raise: what its callees let out goes on -/
theorem px {X : Cx} {E : XK} {E₁ : Value → Shared → Prop} (hs : X.stack = X.env :: X.outer := by rfl) (hf : X.env.frame = some X.env.locals := by rfl) (hex : X.ex = [] := by rfl)
    (hx : X.xe = fun e s' => wpAny (model X.prog X.w) X.A (leaving X.env e) (fun _ s'' => CX X.prog X.w X.outer X.H_0 X.s_0 E e s'') E₁ s' := by rfl) : Passes (CX X.prog X.w) X E :=
  passes_call (takes_of hs hf hex hx) fun _ _ _ _ h => h
end L2

set_option maxRecDepth 100000
set_option maxHeartbeats 4000000
/-! # try with several clauses, each with or without a name -/
namespace L2
open PySem PySem.Spec PyProof.Rows
abbrev Cls3 : Type := Value × Option Nat × (Addr → Value → Option Addr → TS)
/-- the ends behind a suite whose name is slot i: it is gone -/
def Ends.gone (D : Ends) (i : Nat) : Ends := { nx := fun σ' H' => D.nx (σ'.set i none) H', rt := D.rt, bk := fun σ' H' => D.bk (σ'.set i none) H', ct := fun σ' H' => D.ct (σ'.set i none) H' }
def wAny (K : PySem.W.Frag) (Wo : WX) (D : Ends) : List Cls3 → WX
  | [] => Wo
  | (c, none, ts) :: r => fun cls d σ H => ∃ b, PySem.W.exmOne K cls c = some b ∧ (b = true → ∀ a, H a = none → ts a cls d D σ H) ∧ (b = false → wAny K Wo D r cls d σ H)
  | (c, some i, ts) :: r => fun cls d σ H => ∃ b, PySem.W.exmOne K cls c = some b ∧ (b = true → ∀ a, H a = none → ts a cls d (D.gone i) (σ.set i (some (.ref a))) H) ∧ (b = false → wAny K Wo D r cls d σ H)
inductive HdA (X : Cx) : List ExceptHandler → List Cls3 → Prop
  | nil : HdA X [] []
  | cons {x : Str} {c : Value} {ts : Addr → Value → Option Addr → TS} {b₀ : Stmt} {su : List Stmt} {np p2 : Pos} {hds : List ExceptHandler} {l : List Cls3} (hc : Names X x c)
      (hsu : ∀ (a : Addr) (oe : Obj) (cls : Value) (d : Option Addr) (pn : List (Addr × Obj)), Zc cls d oe → (∃ vs, oe.data = .fields vs) → PSs (X.suite a ((a, oe) :: pn)) (b₀ :: su) (ts a cls d)) (r : HdA X hds l) :
      HdA X (.ExceptHandler (some (.Name x np)) none (b₀ :: su) p2 :: hds) ((c, none, ts) :: l)
  | as {x n : Str} {i : Nat} {c : Value} {ts : Addr → Value → Option Addr → TS} {b₀ : Stmt} {su : List Stmt} {np p2 : Pos} {hds : List ExceptHandler} {l : List Cls3} (hc : Names X x c) (hi : X.N[i]? = some n) (hln : X.env.kindOf n = some .local)
      (hsu : ∀ (a : Addr) (oe : Obj) (cls : Value) (d : Option Addr) (pn : List (Addr × Obj)), Zc cls d oe → (∃ vs, oe.data = .fields vs) → PSs (X.suite a ((a, oe) :: pn)) (b₀ :: su) (ts a cls d)) (r : HdA X hds l) :
      HdA X (.ExceptHandler (some (.Name x np)) (some n) (b₀ :: su) p2 :: hds) ((c, some i, ts) :: l)
section
variable {X : Cx} {body : List Stmt} {h₀ : ExceptHandler} {hds : List ExceptHandler} {l : List Cls3} {pos : Pos} {tb : WX → TS} {Wo : WX}
theorem ps_try_any (hs : X.stack = X.env :: X.outer) (hf : X.env.frame = some X.env.locals) (hN : X.N.Nodup) (tk : Takes X Wo)
    (hb : ∀ (W : WX) (pn : List (Addr × Obj)) (xe : Value → Shared → Prop), Takes (X.tr pn xe) W → PassesOwn (model X.prog X.w) X.A X.env xe → PSs (X.tr pn xe) body (tb W))
    (hh : HdA X (h₀ :: hds) l) : PS X (.Try body (h₀ :: hds) [] [] pos) (fun D σ H => tb (wAny X.K Wo D l) D σ H) := by
  refine ⟨fun pins s σ H D I h => ?_⟩
  have ok := I.ok
  have hfr : X.A.frames = some (X.env :: X.outer) := by rw [ok.frames, hs]
  refine wpAny_Try_except ?_
  refine wpAny_mono ((hb (wAny X.K Wo D l) (X.pn ++ pins) (fun e s₁ => wpAny (model X.prog X.w) X.A (noteFrame e X.env) (fun _ s₂ => wpAny (model X.prog X.w) X.A (setFlight e none) (fun _ s₃ =>
    wpAny (model X.prog X.w) X.A (handleBy e X.env (h₀ :: hds)) (SP X pins D) X.xe s₃) X.xe s₂) X.xe s₁) (fun u s' xx => ?_) PassesOwn.looking).run [] s σ H D (I.toTry _) h) (fun f s1 hsp => ?_) (fun e s1 he => he)
  · obtain ⟨a, B, sI, pins', σ', H', cls, d, rfl, J', nb, up, sky, na, os, ag, w⟩ := xx
    have J : Inv X pins σ' H' sI := J'.ofTry ok
    have sk2 : Sky B (X.env :: X.outer) a (Zc cls d) X.env.locals s'.heap := by rw [← hs]; exact sky
    show wpAny (model X.prog X.w) X.A (noteFrame (.ref a) X.env) _ _ _
    refine Sky.land Zc.steady hfr hf sk2 fun h3 fl3 up3 => ?_
    have J3 : Inv X pins σ' H' { s' with heap := h3 } := J.landed nb fl3.1 (up.trans up3) os ag
    obtain ⟨oe3, vs3, he3, hz3, hd3⟩ := fl3.there
    have nfr : a ∉ frs (X.env :: X.outer) := fun hm => by
      obtain ⟨_, o', e', hnf⟩ := fl3.2.2.1.mem hm
      rw [he3] at e'; cases e'
      exact hnf _ hd3
    have nL : a ≠ X.env.locals := fun z => nfr (List.mem_filterMap.mpr ⟨X.env, List.mem_cons_self, by rw [hf, z]⟩)
    have nF : a ∉ X.fs := fun hm => by
      obtain ⟨e, he, q⟩ := List.mem_filterMap.mp hm
      exact nfr (List.mem_filterMap.mpr ⟨e, List.mem_cons_of_mem _ he, q⟩)
    have S3 := J3.suite he3 hd3 na nL nF
    have LT : PySem.W.Looks (model X.prog X.w) h3 (typeOf (.ref a)) cls := fun A Q E s k q => wpAny_typeOf_ref (k _ _ he3) (by rw [hz3.1]; exact q)
    have test : ∀ {x : Str} {np : Pos} {c : Value} {Q : Value → Shared → Prop} {E : Value → Shared → Prop}, Names X x c → Q c { s' with heap := h3 } → wpAny (model X.prog X.w) (X.A.mark (some (.ref a))) (eval (.Name x np) X.env) Q E { s' with heap := h3 } := fun {x np c Q E} hc q => by
      obtain ⟨hg, hdbg, hm | ⟨hm, hv, hnn⟩⟩ := hc
      · exact ld_glob (X := X.suite a ((a, oe3) :: (X.pn ++ pins))) S3 hg hm q hdbg
      · exact ld_blt (X := X.suite a ((a, oe3) :: (X.pn ++ pins))) S3 hg hm hv q hnn hdbg
    have go : ∀ {hds' : List ExceptHandler} {l' : List Cls3}, HdA X hds' l' → wAny X.K Wo D l' cls d σ' H' →
        wpAny (model X.prog X.w) X.A (handleBy (.ref a) X.env hds') (SP X pins D) X.xe { s' with heap := h3 } := by
      intro hds' l' hk
      induction hk with
      | nil =>
        intro w
        refine wpAny_handleBy_nil ?_
        obtain ⟨k1, k2, k3, oe, vs, T, oT, ts', he, hz, hd, h1, hr⟩ := id fl3
        unfold PySem.passOn
        refine wpAny_bind (wpAny_field he hd h1 ?_)
        rw [if_neg (show ¬ ((Value.ref T == Value.none) = true) from by simp)]
        have fin : wpAny (model X.prog X.w) X.A (setFlight (.ref a) X.env.frame) (fun _ s4 => wpAny (model X.prog X.w) X.A (throw (.ref a) : Sem Flow) (SP X pins D) X.xe s4) X.xe { s' with heap := h3 } := by
          rw [hf]
          refine HandSPX.setFlight_upZ fl3 fun h4 hh4 up4 => wpAny_throw (tk _ _ ?_)
          exact ⟨a, B, sI, pins, σ', H', cls, d, rfl, J, nb, (up.trans up3).trans up4, .inr (.inr (by rw [hs]; exact hh4)), na, os, ag, w⟩
        first
          | exact wpAny_bind (wpAny_pure (wpAny_bind fin))
          | exact wpAny_bind fin
      | @cons x c ts b₀ suite np pos' hds2 l2 hc hsu r ih =>
        intro w
        obtain ⟨b, hb1, hyes, hno⟩ := w
        refine wpAny_handleBy_cons (codeAny_handlers_test ?_) (by intro q; cases q)
        refine test hc ((PySem.W.exm_one (M := model X.prog X.w) (J3.kIn) LT hb1).here ?_)
        cases b with
        | true =>
          refine codeAny_handlers_suite ?_
          refine HandSPX.lands_againZ fl3 fun h4 fl4 up4 => ?_
          have J4 : Inv X pins σ' H' { s' with heap := h4 } := J.landed nb fl4.1 ((up.trans up3).trans up4) os ag
          obtain ⟨oe4, vs4, he4, hz4, hd4⟩ := fl4.there
          have S4 := J4.suite he4 hd4 na nL nF
          refine wpAny_mono ((hsu a oe4 cls d (X.pn ++ pins) hz4 ⟨_, hd4⟩).run [] _ _ H' _ S4 (hyes rfl a na)) (fun f s6 hsp => ?_) (fun _ _ z => False.elim z)
          cases f with
          | next => obtain ⟨σ6, H6, S6, q6⟩ := hsp; exact ⟨_, _, S6.unsuite ok, q6⟩
          | brk => obtain ⟨σ6, H6, S6, q6⟩ := hsp; exact ⟨_, _, S6.unsuite ok, q6⟩
          | cont => obtain ⟨σ6, H6, S6, q6⟩ := hsp; exact ⟨_, _, S6.unsuite ok, q6⟩
          | ret u => obtain ⟨v6, σ6, H6, S6, r6, q6⟩ := hsp; exact ⟨_, _, _, S6.unsuite ok, r6, q6⟩
        | false =>
          show wpAny _ X.A (handleBy (.ref a) X.env hds2) _ _ _
          exact ih (hno rfl)
      | @as x n i c ts b₀ suite np pos' hds2 l2 hc hi hln hsu r ih =>
        intro w
        obtain ⟨b, hb1, hyes, hno⟩ := w
        refine wpAny_handleBy_cons (codeAny_handlers_test ?_) (by intro q; cases q)
        refine test hc ((PySem.W.exm_one (M := model X.prog X.w) (J3.kIn) LT hb1).here ?_)
        cases b with
        | true =>
          refine codeAny_handlers_suite_as ?_
          refine HandSPX.lands_againZ fl3 fun h4 fl4 up4 => ?_
          have J4 : Inv X pins σ' H' { s' with heap := h4 } := J.landed nb fl4.1 ((up.trans up3).trans up4) os ag
          obtain ⟨oe4, vs4, he4, hz4, hd4⟩ := fl4.there
          have S4 := J4.suite he4 hd4 na nL nF
          refine store_ok (X := X.suite a ((a, oe4) :: (X.pn ++ pins))) (v := .ref a) S4 hN hi (.inl hln) rfl (fun s5 S5 => ?_) (.inr hln)
          refine wpAny_mono ((hsu a oe4 cls d (X.pn ++ pins) hz4 ⟨_, hd4⟩).run [] s5 _ H' _ S5 (hyes rfl a na)) (fun f s6 hsp => ?_) (fun _ _ z => False.elim z)
          have end_ : ∀ {σ6 : St} {H6 : Hp} {Q : Shared → Prop}, Inv (X.suite a ((a, oe4) :: (X.pn ++ pins))) [] σ6 H6 s6 → (∀ s7, Inv X pins (σ6.set i none) H6 s7 → Q s7) →
              wpAny (model X.prog X.w) X.A (do bindName X.env n .none; unbindBehindTheSuite X.env n pos') (fun _ s7 => Q s7) X.xe s6 := fun {σ6 H6 Q} S6 hq => gone_ok (S6.unsuite ok) hN hi hln hq
          cases f with
          | next => obtain ⟨σ6, H6, S6, q6⟩ := hsp; exact end_ S6 fun s7 J7 => ⟨_, _, J7, q6⟩
          | brk => obtain ⟨σ6, H6, S6, q6⟩ := hsp; exact end_ S6 fun s7 J7 => ⟨_, _, J7, q6⟩
          | cont => obtain ⟨σ6, H6, S6, q6⟩ := hsp; exact end_ S6 fun s7 J7 => ⟨_, _, J7, q6⟩
          | ret u => obtain ⟨v6, σ6, H6, S6, r6, q6⟩ := hsp; exact end_ S6 fun s7 J7 => ⟨_, _, _, J7, r6, q6⟩
        | false =>
          show wpAny _ X.A (handleBy (.ref a) X.env hds2) _ _ _
          exact ih (hno rfl)
    exact go hh w
  · cases f with
    | next => obtain ⟨σ', H', J', q⟩ := hsp; exact wpAny_execs_nil ⟨σ', H', J'.ofTry ok, q⟩
    | brk => obtain ⟨σ', H', J', q⟩ := hsp; exact ⟨σ', H', J'.ofTry ok, q⟩
    | cont => obtain ⟨σ', H', J', q⟩ := hsp; exact ⟨σ', H', J'.ofTry ok, q⟩
    | ret u => obtain ⟨v, σ', H', J', r, q⟩ := hsp; exact ⟨v, σ', H', J'.ofTry ok, r, q⟩
end
end L2

set_option maxRecDepth 100000
set_option maxHeartbeats 4000000
/-! # isinstance(e, C) in a suite, e an error with a dict -/
namespace EI
open PySem PySem.W PySem.Spec PySem.Calls PyProof.Rows
theorem cls_of_exc {prog : Program} {w : World} {A : Around} {E : Value → Shared → Prop} {s : Shared} {K : Frag} {x D : Addr} {ox od : Obj} {Q : Option Value → Shared → Prop} (C : L2.ExcC K D) (X : K.In s.heap) (I : InstAt s.heap x ox D (some od)) (h : Q (some (.ref D)) { s with toks := s.toks + 1 }) :
    wpAny (model prog w) A (getAttr? (.ref x) "__class__") Q E s := by
  have hf : findObj K D (some od) "__class__" = some (.bind (.builtin "getset_descriptor.__get__") (.builtin "object.__class__")) := findObj_data (by obtain ⟨cd, hc, _⟩ := any_some C.hd; rw [hc]; rfl) C.ha C.hn C.ht
  obtain ⟨hp, g, d, t, os⟩ := s
  have L0 := I.type (M := model prog w)
  have L1 := looks_findIn (M := model prog w) X C.hg
  have L2 := looks_findIn (M := model prog w) X C.hk
  have L3 := looks_find (M := model prog w) X I hf
  have sub : Looks (model prog w) hp (isInstance (.ref x) (.type "BaseException")) true := L0.andThen (looks_subIn X C.hs)
  have n2 : (Value.builtin "BaseException.__getattribute__" == Value.builtin "object.__getattribute__") = false := by decide +kernel
  have n1 : (onTheHeap (Value.ref D) && Value.builtin "BaseException.__getattribute__" == Value.builtin "object.__getattribute__") = false := by rw [n2]; rfl
  unfold getAttr? getAttrBy? getAttrBy
  refine wpAny_bind (wpAny_mkText (wpAny_bind (wpAny_attempt (wpAny_holding (wpAny_bind (L0.at (wpAny_bind (L1.at (by
    show wpAny _ _ (if (onTheHeap (Value.ref D) && Value.builtin "BaseException.__getattribute__" == Value.builtin "object.__getattribute__") = true then _ else _) _ _ _
    rw [n1, if_neg Bool.false_ne_true]
    unfold getAttrByItsOwn hookBefore
    refine wpAny_bind ?_
    rw [if_pos (show onTheHeap (Value.ref D) = true from rfl)]
    refine L2.at (wpAny_bind (wpAny_attempt (wpAny_holding ?_)))
    unfold callGetattribute
    rw [show (false && onTheHeap (Value.builtin "BaseException.__getattribute__")) = false from rfl, if_neg Bool.false_ne_true]
    unfold boundAndCalled
    rw [PySem.F.excAttr_ValueError.ga.bind (.ref x)]
    refine wpAny_bind (wpAny_pure ?_)
    show wpAny _ _ (call (.builtin "BaseException.__getattribute__") [.ref x, .str "__class__" t]) _ _ _
    refine wpAny_call (codeAny_call_builtin PySem.F.excAttr_ValueError.ga.plain PySem.F.entry_bexc_ga (@check_slot (model prog w) _ _ ⟨hp, g, d, t + 1, os⟩ "BaseException.__getattribute__" "BaseException" "__getattribute__" (.ref x) [.str "__class__" t] [] _ (by decide +kernel) (by decide +kernel) sub (PySem.F.args_bexc_ga (.ref x) (.str "__class__" t)) ?_))
    unfold Builtin.«object.__getattribute__»
    refine wpAny_bind (wpAny_of_eq (a := ((Value.ref x : Value), [Value.str "__class__" t])) (by first | rfl | (simp only [slotArgs]; rfl)) ?_)
    refine wpAny_bind (wpAny_pure (wpAny_bind (L0.at (wpAny_bind (L3.at ?_)))))
    show wpAny _ _ (holding [Value.builtin "object.__class__"] (call (.builtin "getset_descriptor.__get__") [.builtin "object.__class__", .ref x, .ref D]) >>= ret) _ _ _
    refine wpAny_bind (wpAny_holding (wpAny_call (class_get (s := ⟨hp, g, d, t + 1, os⟩) (ox := ox) (od := some od) X I C.hm ?_)))
    refine wpAny_pure ?_
    show wpAny _ _ (handedOut (.ref D)) _ _ _
    rw [handedOut_of (v := .ref D) rfl]
    first
      | exact wpAny_pure (wpAny_pure h)
      | exact wpAny_pure h
      | exact wpAny_pure (wpAny_bind (wpAny_pure (wpAny_pure h))))))))))))
theorem kit_exc {K : Frag} {x D : Addr} {ox od : Obj} (C : L2.ExcC K D) : KitX K (.ref x) (.ref D) (fun h => InstAt h x ox D (some od)) where
  ty := fun _ _ _ I => I.type
  it := fun _ _ X _ => by
    obtain ⟨cdD, hcD, _⟩ := any_some C.hd
    unfold clsIn at hcD
    split at hcD
    · rename_i c' d' cd' sl' ho
      intro A' Q' E' s' k q
      unfold isType loadHead
      exact wpAny_bind (wpAny_loadPart (k _ _ (X _ _ ho)) (wpAny_pure q))
    · cases hcD
  ne := fun h tp dd its n sl X htp => by
    obtain ⟨cdD, hcD, _⟩ := any_some C.hd
    refine Bool.eq_false_iff.mpr fun q => ?_
    have e : D = tp := Value.ref.inj (beq_iff_eq.mp q)
    subst e
    unfold clsIn at hcD
    split at hcD
    · rename_i c' d' cd' sl' ho
      cases (X _ _ ho).symm.trans htp
    · cases hcD
  ca := fun X I k => cls_of_exc C X I k
end EI
namespace L2
open PySem PySem.Spec PyProof.Rows
/-- isinstance(e, c), e the suite's error, with a dict -/
def rIsD (K : PySem.W.Frag) (D a : Addr) (d : Option Addr) : List V → Hp → VK → Prop := fun xs H Q => ∃ (c : V) (cv : Value) (b : Bool) (dd : Addr) (fs : List (Str × V)), xs = [.ref a, c] ∧ (∀ u, RelV c u → u = cv) ∧ d = some dd ∧ H dd = some (.xd fs) ∧ PySem.W.kitOne K (.ref D) cv = some b ∧ Q (.bl b) H
theorem call_isD {X : Cx} {a D : Addr} {d : Option Addr} {oe : Obj} {pn : List (Addr × Obj)} {cls : Value} (C : ExcC X.K D) (hz : Zc cls d oe) (hf : ∃ vs, oe.data = .fields vs) :
    CallR (X.suite a ((a, oe) :: pn)) (.builtin "isinstance") (fun xs H Q => cls = .ref D ∧ rIsD X.K D a d xs H Q) := by
  intro pins s σ H xs us Q I r h
  obtain ⟨rfl, c, cv, b, dd, fs, rfl, hcv, rfl, ea, e, q⟩ := h
  cases r with
  | cons rx rr =>
  cases rr with
  | cons rt rr =>
  cases rr
  cases rx
  have ec := hcv _ rt
  subst ec
  obtain ⟨hget, _⟩ := I.pin (a, oe) (List.mem_append.mpr (.inl List.mem_cons_self))
  obtain ⟨vs, hv⟩ := hf
  obtain ⟨mA, hns, hr⟩ := (show ObjOk X.prog X.w H s.heap dd (.xd fs) from I.hok dd _ ea)
  obtain ⟨od, ho, _⟩ := lookIn_ns hns
  have J : PySem.W.InstAt s.heap a oe D (some od) := ⟨hget, hz.1, by unfold PySem.W.notCls; rw [hv] <;> rfl, by rw [hz.2]; exact ho⟩
  exact PySem.W.kia_one (EI.kit_exc C) I.kIn J e (fun z => nomatch z) fun tk => ⟨.bl b, H, I.kept (t' := tk) fun _ _ z => z, rfl, q⟩
end L2

set_option maxRecDepth 100000
set_option maxHeartbeats 4000000
namespace EF
open PySem PySem.W PySem.Calls PyProof.Rows He He5 HX
def clsB (K : Frag) (D : Addr) : Bool := eqO (findIn K (.ref D) "__class__") (some (some (.builtin "object.__class__"))) && (eqO (specialIn K (.builtin "object.__class__") "__get__") (some (some (.builtin "getset_descriptor.__get__"))) && (decide (takesIn K (.builtin "object.__class__") = some true) && decide (mroIn K D (.type "object") = some true)))
structure ClsT (K : Frag) (D : Addr) : Prop where
  ha : findIn K (.ref D) "__class__" = some (some (.builtin "object.__class__"))
  hn : specialIn K (.builtin "object.__class__") "__get__" = some (some (.builtin "getset_descriptor.__get__"))
  ht : takesIn K (.builtin "object.__class__") = some true
  hm : mroIn K D (.type "object") = some true
theorem cls_ok {K : Frag} {D : Addr} (h : clsB K D = true) : ClsT K D := by
  obtain ⟨h1, h⟩ := ba h
  obtain ⟨h2, h⟩ := ba h
  obtain ⟨h3, h4⟩ := ba h
  exact ⟨eqO_ok h1, eqO_ok h2, of_decide_eq_true h3, of_decide_eq_true h4⟩
/-- an error's class: its fields are read, isinstance asks it -/
def excB (K : Frag) (D : Addr) : Bool := L2.xfB K D && clsB K D
theorem exc_ok {K : Frag} {D : Addr} (h : excB K D = true) : L2.XfC K D ∧ L2.ExcC K D := by
  obtain ⟨h1, h2⟩ := ba h
  have x := L2.xfB_ok h1
  have c := cls_ok h2
  exact ⟨x, x.ga, x.gg, x.exC, x.hdC, c.ha, c.hn, c.ht, c.hm⟩
end EF

set_option maxRecDepth 100000
set_option maxHeartbeats 4000000
/-! # A classmethod with *numbers and a keyword: C.m(a, .., k = v) -/
namespace L2
open PySem PySem.Spec PyProof.Rows
abbrev SpS : Type := List V → List V → Hp → VK → XK → Prop
def FnS (P : Program) (w : World) (K : PySem.W.Frag) (mg : Str → Option Value) (base : Heap) (CX : CXT) (k : Nat) (f : Addr) (ks : List Str) (sp : SpS) : Prop :=
  ∀ (A : Around) (outer : List Env) (s : Shared) (H : Hp) (us ws : List Value) (vs zs : List V) (Q : VK) (E : XK), Room k A → Env0 P w K mg base A outer s H → Vals vs us → Vals zs ws → sp vs zs H Q E →
    codeAny (model P w) A (.call (.ref f) ⟨us, ks.zip ws⟩) (CR CX outer P w H s Q E) s
section
variable {X : Cx} {CX : CXT} {k : Nat} {C p g : Addr} {mc : Value} {sp : SpS} {E : XK} {o e : Expr} {es : List Expr} {kws : List Keyword} {ks : List Str} {f m : Str} {pos apos : Pos} {ta : TE} {t tk : TA} {pl : Sem Bool}
theorem run_cms {pins : List (Addr × Obj)} {σ : L2.St} {H : Hp} {s : Shared} {q : Addr} {Q : VK} {us ws : List Value} {vs zs : List V} (F : FnS X.prog X.w X.K X.mg X.base CX k g ks sp) (hr : Room k X.A) (hx : Passes CX X E) (I : Inv X ((q, PySem.W.methodObj (.ref g) (.ref C)) :: pins) σ H s)
    (r : Vals vs us) (rz : Vals zs ws) (h : sp (.ref C :: vs) zs H Q E) : wpAny (model X.prog X.w) X.A (call (.ref q) us (ks.zip ws)) (EP X pins σ Q) X.xe s := by
  have z : wpAny (model X.prog X.w) X.A (call (.ref q) us (ks.zip ws)) (EP X ((q, PySem.W.methodObj (.ref g) (.ref C)) :: pins) σ Q) X.xe s := by
    refine wpAny_call (PySem.W.method_call (ClX.pin_at I) ?_)
    refine codeAny_mono (F X.A X.stack s H (.ref C :: us) ws (.ref C :: vs) zs Q E hr I.env0 (.cons rfl r) rz h) fun r s' hq => ?_
    cases r with
    | error e => exact hx _ σ H s e s' I hq
    | ok fl =>
      cases fl with
      | ret u => exact I.after hq
      | next => exact False.elim hq
      | brk => exact False.elim hq
      | cont => exact False.elim hq
  exact thn z fun _ _ y => ClX.unpinE y
def tCms (C : Addr) (sp : SpS) (E : XK) (ta : TE) (t tk : TA) : TE := fun σ H Q => ta σ H fun x H1 => x = .ref C ∧ t σ H1 fun vs H2 => tk σ H2 fun zs H3 => sp (.ref C :: vs) zs H3 Q E
theorem pe_cms (he : PE X o ta) (r : ClX.CRead X.K C mc) (c : ClX.CMet X.K C mc m p g) (F : FnS X.prog X.w X.K X.mg X.base CX k g ks sp) (hr : Room k X.A) (hx : Passes CX X E) (ha : PA X (e :: es) t) (hk : PK X kws tk)
    (hst : starEach (e :: es) X.env = (false, eval e X.env) :: starEach es X.env := by rfl) (hall : (backToKw pos (keywordEach kws X.env)).all (·.1.isSome) = true := by rfl) (hks : (backToKw pos (keywordEach kws X.env)).filterMap (·.1) = ks := by rfl)
    (hpl : ((backTo pos (starEach (e :: es) X.env)).any (·.1) || (backToKw pos (keywordEach kws X.env)).any (·.1.isNone)) = false := by rfl)
    (ht : eval (.Call (.Attribute o m apos) (e :: es) kws pos) X.env = (do
      let ov ← eval o X.env
      standAt apos.atName
      let (f, first) ← holding [ov] (getMethod ov m pl)
      callWith pos f first (backTo pos (starEach (e :: es) X.env)) (backToKw pos (keywordEach kws X.env))) := by rfl) :
    PE X (.Call (.Attribute o m apos) (e :: es) kws pos) (tCms C sp E ta t tk) := by
  refine ⟨fun pins s σ H Q I h => ?_⟩
  refine PySem.W.methodCall_KW (pl := pl) (thn (he.run pins s σ H _ I h) fun u s1 ⟨x, H1, I1, rx, ex, q⟩ => ?_) ht
  subst ex
  obtain rfl : u = Value.ref C := rx
  refine ClX.getmethcm_ok I1 r c fun s2 I2 => ?_
  refine PySem.W.callWith_of (P := PySem.W.MethP X.K s1.heap.objs.size g (.ref C)) hpl (PySem.W.keeps_M c.fi) (evalArgs_kw2 hall (thn (ha.run pos _ s2 σ H1 _ I2 q) fun us s3 ⟨vs, H2, I3, rv, q2⟩ => ?_) hst)
  refine thn (hk.run pos _ s3 σ H2 _ I3 q2) fun ws s4 ⟨zs, H3, I4, rz, q3⟩ => ⟨⟨ClX.pin_at I4, I4.kIn⟩, ?_⟩
  rw [hks]
  exact run_cms F hr hx I4 rv rz q3
theorem pe_cms0 (he : PE X o ta) (r : ClX.CRead X.K C mc) (c : ClX.CMet X.K C mc m p g) (F : FnS X.prog X.w X.K X.mg X.base CX k g ks sp) (hr : Room k X.A) (hx : Passes CX X E) (hk : PK X kws tk)
    (hall : (backToKw pos (keywordEach kws X.env)).all (·.1.isSome) = true := by rfl) (hks : (backToKw pos (keywordEach kws X.env)).filterMap (·.1) = ks := by rfl)
    (hpl : ((backTo pos (starEach [] X.env)).any (·.1) || (backToKw pos (keywordEach kws X.env)).any (·.1.isNone)) = false := by rfl)
    (ht : eval (.Call (.Attribute o m apos) [] kws pos) X.env = (do
      let ov ← eval o X.env
      standAt apos.atName
      let (f, first) ← holding [ov] (getMethod ov m pl)
      callWith pos f first (backTo pos (starEach [] X.env)) (backToKw pos (keywordEach kws X.env))) := by rfl) :
    PE X (.Call (.Attribute o m apos) [] kws pos) (tCms C sp E ta tNil tk) := by
  refine ⟨fun pins s σ H Q I h => ?_⟩
  refine PySem.W.methodCall_KW (pl := pl) (thn (he.run pins s σ H _ I h) fun u s1 ⟨x, H1, I1, rx, ex, q⟩ => ?_) ht
  subst ex
  obtain rfl : u = Value.ref C := rx
  refine ClX.getmethcm_ok I1 r c fun s2 I2 => ?_
  refine PySem.W.callWith_of (P := PySem.W.MethP X.K s1.heap.objs.size g (.ref C)) hpl (PySem.W.keeps_M c.fi) (evalArgs_kw2_nil hall ?_)
  refine thn (hk.run pos _ s2 σ H1 _ I2 q) fun ws s4 ⟨zs, H3, I4, rz, q3⟩ => ⟨⟨ClX.pin_at I4, I4.kIn⟩, ?_⟩
  rw [hks]
  exact run_cms (us := []) F hr hx I4 .nil rz q3
end
/-! ### def m(cls, *pv, kx=default) -/
section
variable {P : Program} {w : World} {K : PySem.W.Frag} {mg : Str → Option Value} {base : Heap} {CX : CXT} {k : Nat} {f : Addr} {x qual p1 kx pv : Str} {params : Arguments} {body : List Stmt} {scope : Scope} {N : List Str} {fd : FuncData} {dv : V} {sp : Sp}
theorem fnS_star1 (F : FunD K x qual params body scope [] [(kx, dv)] f fd) (S : FnScope N [p1, kx, pv] scope) (hCX : StX.CXUp CX)
    (hb : ∀ (kV doc pm : Value) (an : Option Addr) (cdv ct : Value) (c v : Value) (rest : List Value), bindArgs (PySem.W.fnOf x qual params body scope .none kV doc pm an cdv ct) ⟨c :: rest, [(kx, v)]⟩ = (newTuple rest >>= fun t => pure [(p1, c), (kx, v), (pv, t)]))
    (hbody : ∀ (cdv : Value) (A : Around) (outer : List Env) (s : Shared) (H : Hp) (vs : List V) (Q : VK) (E : XK), Room k (A.deeper (envOfC qual scope s.heap.objs.size f cdv)) → sp vs H Q E →
      ∃ t, PSs (cxOf CX P w K mg base N qual scope f cdv A outer s H E) body t ∧ t { nx := fun _ H' => Q .non H', rt := Q } (start N vs) H) :
    FnS P w K mg base CX (k + 1) f [kx] (fun vs zs H Q E => ∃ c rest v, vs = c :: rest ∧ zs = [v] ∧ rest.length ≤ sizeLine ∧ ∀ p, H p = Option.none → sp [c, v, V.ref p] (upd H p (.tup rest)) Q E) := by
  intro A outer s H us ws vs zs Q E hr e0 r rz hsp
  obtain ⟨c, rest, v, rfl, rfl, hz, hq⟩ := hsp
  obtain ⟨oc, od, dV, kV, doc, pm, an, cdv, ct, osl, rfl, lk, hcd, hD, _⟩ := F.ex
  have e : dV = .none := by
    rcases hD with ⟨_, e⟩ | ⟨e, _⟩
    · exact e
    · exact absurd rfl e
  subst e
  cases r with
  | cons rc rr =>
  rename_i uc ur
  cases rz with
  | cons rv rn =>
  cases rn
  rename_i uv
  have hn : H s.heap.objs.size = Option.none := e0.hok.fresh (Nat.le_refl _)
  have hl2 : ur.length ≤ sizeLine := by rw [← rr.length]; exact hz
  refine StX.run_bnd lk hcd S hr e0 (G := fun xs H2 => ∃ p, H p = Option.none ∧ xs = [c, v, V.ref p] ∧ H2 = upd H p (.tup rest)) (fun A' Ex Q' h => ?_) fun s2 H2 xs ⟨p, hp, ex, eH⟩ hr' => ?_
  · rw [show ([kx].zip [uv] : List (Str × Value)) = [(kx, uv)] from rfl, hb kV doc pm an cdv ct uc uv ur]
    refine wpAny_bind (wpAny_newTuple (wpAny_pure ?_) hl2)
    have new : ObjOk P w (upd H s.heap.objs.size (.tup rest)) (s.heap.push ({ cls := .type "tuple", data := .seq ur.toArray } : Obj)) s.heap.objs.size (.tup rest) := ⟨hz, ur, rr, ⟨_, Heap.get?_push_size _ rfl, rfl, _, rfl⟩⟩
    have un := StX.un_laid (fs := frs outer) (s := s) (o := ({ cls := .type "tuple", data := .seq ur.toArray } : Obj)) (u := .tup rest) hn
    exact h _ _ [c, v, V.ref s.heap.objs.size] [uc, uv, Value.ref s.heap.objs.size] (StX.env0_laid e0 new) un rfl (fun e s' => hCX outer s H _ _ E e s' un (fun b o q => Heap.get?_push_of_some _ q) rfl) (.cons rc (.cons rv (.cons rfl .nil))) rfl ⟨_, hn, rfl, rfl⟩
  · subst ex eH
    exact hbody cdv A outer s2 _ _ Q E hr' (hq p hp)
theorem fnS_star0 (F : FunD K x qual params body scope [] [(kx, dv)] f fd) (S : FnScope N [p1, kx, pv] scope) (hCX : StX.CXUp CX)
    (hb : ∀ (D : Addr) (doc pm : Value) (an : Option Addr) (cdv ct : Value) (c v : Value) (rest : List Value), ∃ (β γ : Type) (k1 : Option Value → Sem β) (k2 : β → Sem γ) (k3 : γ → Sem (List (Str × Value))) (a : β),
      bindArgs (PySem.W.fnOf x qual params body scope .none (.ref D) doc pm an cdv ct) ⟨c :: rest, []⟩ = ((nsGet D kx >>= k1) >>= k2) >>= k3 ∧ k1 (some v) = pure a ∧ (k2 a >>= k3) = (newTuple rest >>= fun t => pure [(p1, c), (kx, v), (pv, t)]))
    (hbody : ∀ (cdv : Value) (A : Around) (outer : List Env) (s : Shared) (H : Hp) (vs : List V) (Q : VK) (E : XK), Room k (A.deeper (envOfC qual scope s.heap.objs.size f cdv)) → sp vs H Q E →
      ∃ t, PSs (cxOf CX P w K mg base N qual scope f cdv A outer s H E) body t ∧ t { nx := fun _ H' => Q .non H', rt := Q } (start N vs) H) :
    FnS P w K mg base CX (k + 1) f [] (fun vs zs H Q E => ∃ c rest, vs = c :: rest ∧ zs = [] ∧ rest.length ≤ sizeLine ∧ ∀ p, H p = Option.none → sp [c, dv, V.ref p] (upd H p (.tup rest)) Q E) := by
  intro A outer s H us ws vs zs Q E hr e0 r rz hsp
  obtain ⟨c, rest, rfl, rfl, hz, hq⟩ := hsp
  obtain ⟨oc, od, dV, kV, doc, pm, an, cdv, ct, osl, rfl, lk, hcd, hD, hK⟩ := F.ex
  have e : dV = .none := by
    rcases hD with ⟨_, e⟩ | ⟨e, _⟩
    · exact e
    · exact absurd rfl e
  subst e
  rcases hK with e | ⟨D, rfl, hq0⟩
  · cases e
  obtain ⟨uv, hns, rv⟩ := hq0 (kx, dv) (List.mem_singleton.mpr rfl)
  cases rz
  cases r with
  | cons rc rr =>
  rename_i uc ur
  have hn : H s.heap.objs.size = Option.none := e0.hok.fresh (Nat.le_refl _)
  have hl2 : ur.length ≤ sizeLine := by rw [← rr.length]; exact hz
  have KX : K.In s.heap := e0.mod.kin.keeps fun b o e => (e0.bs b o e).1
  refine StX.run_bnd lk hcd S hr e0 (G := fun xs H2 => ∃ p, H p = Option.none ∧ xs = [c, dv, V.ref p] ∧ H2 = upd H p (.tup rest)) (fun A' Ex Q' h => ?_) fun s2 H2 xs ⟨p, hp, ex, eH⟩ hr' => ?_
  · obtain ⟨β, γ, k1, k2, k3, a, e1, e2, e3⟩ := hb D doc pm an cdv ct uc uv ur
    rw [show (([] : List Str).zip ([] : List Value)) = [] from rfl, e1, bind_assoc]
    refine wpAny_bind (wpAny_bind ((PySem.W.looks_nsIn KX hns).here ?_))
    rw [e2]
    refine wpAny_pure ?_
    rw [e3]
    refine wpAny_bind (wpAny_newTuple (wpAny_pure ?_) hl2)
    have new : ObjOk P w (upd H s.heap.objs.size (.tup rest)) (s.heap.push ({ cls := .type "tuple", data := .seq ur.toArray } : Obj)) s.heap.objs.size (.tup rest) := ⟨hz, ur, rr, ⟨_, Heap.get?_push_size _ rfl, rfl, _, rfl⟩⟩
    have un := StX.un_laid (fs := frs outer) (s := s) (o := ({ cls := .type "tuple", data := .seq ur.toArray } : Obj)) (u := .tup rest) hn
    exact h _ _ [c, dv, V.ref s.heap.objs.size] [uc, uv, Value.ref s.heap.objs.size] (StX.env0_laid e0 new) un rfl (fun e s' => hCX outer s H _ _ E e s' un (fun b o q => Heap.get?_push_of_some _ q) rfl) (.cons rc (.cons rv (.cons rfl .nil))) rfl ⟨_, hn, rfl, rfl⟩
  · subst ex eH
    exact hbody cdv A outer s2 _ _ Q E hr' (hq p hp)
end
end L2

set_option maxRecDepth 100000
set_option maxHeartbeats 4000000
namespace L2
open PySem PySem.Spec PyProof.Rows
/-- cls(e, ..), cls a local name that holds the class at C -/
def tMakeL (i : Nat) (C : Addr) (sp : Sp) (E : XK) (t : TA) : TE := fun σ H Q => σ[i]? = some (some (.ref C)) ∧ tMake C sp [] E t σ H Q
section
variable {X : Cx} {CX : CXT} {k i : Nat} {f C : Addr} {ps : List Str} {sp : Sp} {E : XK} {x : Str} {p pos : Pos} {e : Expr} {es : List Expr} {t : TA}
theorem pmkL (O : Ok X.prog X.w X.K X.mg X.base CX k f ps sp) (M : Mk X.K C f) (hr : Room (k + 1) X.A) (hN : X.N[i]? = some x) (hv : Vis X.env.scope x) (hx : Passes CX X E) (ha : PA X (e :: es) t) (hdb : (x == ("__debug__" : Str)) = false := by decide)  (hcd : (x == ("__classdict__" : Str)) = false := by decide)
    (he : starEach (e :: es) X.env = (false, eval e X.env) :: starEach es X.env := by rfl) (hpl : (backTo pos (starEach es X.env)).any (·.1) = false := by rfl) :
    PE X (.Call (.Name x p) (e :: es) [] pos) (tMakeL i C sp E t) := by
  obtain ⟨fd, F, hb, _⟩ := O.ex
  refine ⟨fun pins s σ H Q I h => ?_⟩
  obtain ⟨hs, h⟩ := h
  refine wpAny_Call_Name_kw (thn ((pe_var (pos := p) hN hv hdb hcd).run pins s σ H (fun v H1 => v = .ref C ∧ H1 = H) I ⟨.ref C, hs, rfl, rfl⟩) fun u s1 ⟨v, H1, I1, r1, q1⟩ => ?_)
  obtain ⟨rfl, rfl⟩ := q1
  cases r1
  refine PySem.W.callWith_K (h₀ := X.base) I.ok.mod.kin M.kp (thn (ha.run pos pins s1 σ _ _ I1 h) fun us s2 ⟨vs, H2, I2, r, q⟩ => ⟨I2.kIn, ?_⟩) he hpl
  exact run_make M F hr hb .nil hx I2 r q
end
end L2

set_option maxRecDepth 100000
set_option maxHeartbeats 4000000
/-! # calls and own operators in a try's body -/
namespace L2
open PySem PySem.Spec PyProof.Rows
section
variable {X : Cx} {CX : CXT} {k : Nat} {f C : Addr} {ps : List Str} {sp : Sp} {E : St → XK} {x : Str} {p pos : Pos} {e a b : Expr} {es : List Expr} {ta tb : TE} {t : TA} {op : Operator}
theorem pcS (O : Ok X.prog X.w X.K X.mg X.base CX k f ps sp) (hr : Room k X.A) (hm : X.mg x = some (.ref f)) (hx : ∀ σ, PassesAt CX X σ (E σ)) (ha : PA X (e :: es) t) (hg : Gl X x := by rfl) (hdb : (x == ("__debug__" : Str)) = false := by decide)
    (he : starEach (e :: es) X.env = (false, eval e X.env) :: starEach es X.env := by rfl) (hpl : (backTo pos (starEach es X.env)).any (·.1) = false := by rfl) :
    PE X (.Call (.Name x p) (e :: es) [] pos) (tCallS sp E t) := let ⟨fd, a, b, c⟩ := O.ex; pe_callS a hr hg hm c b hx ha hdb he hpl
/-- a op n in a try's body -/
def tOwnIS (C : Addr) (sp : Sp) (E : St → XK) (ta tb : TE) : TE := fun σ H Q => ta σ H fun x H1 => tb σ H1 fun y H2 => rOwnOpI C sp (E σ) x y H2 Q
theorem peOwnIS (O : Ok X.prog X.w X.K X.mg X.base CX k f ps sp) (W : OwnOpT X.K C op f "int") (hr : Room k X.A) (hx : ∀ σ, PassesAt CX X σ (E σ)) (ha : PE X a ta) (hb : PE X b tb) : PE X (.BinOp a op b pos) (tOwnIS C sp E ta tb) := by
  obtain ⟨fd, F, bn, _⟩ := O.ex
  refine ⟨fun pins s σ H Q I h => wpAny_BinOp (binT ha hb I h fun v u s2 x y H2 I2 rx ry q => ?_)⟩
  obtain ⟨a, dx, fs, n, rfl, rfl, ha, hsp⟩ := q
  cases rx
  obtain ⟨t, rfl⟩ := ry
  obtain ⟨od, J⟩ := inst_of I2.hok ha
  obtain ⟨m, hF⟩ := I2.fr
  obtain ⟨rc, h1, h2⟩ := W.rev
  obtain ⟨fo, h3⟩ := W.tf
  obtain ⟨ro, h4⟩ := W.tr
  refine PySem.W.ksp_binT (T := "int") hF I2.ok.mod.kin J rfl W.first W.at_ W.fn h1 h2 h3 h4 W.sub (wpAny_mono (run_fnS F hr bn (hx σ) I2 (us := [.ref a, .int n t]) (vs := [.ref a, .int n]) (.cons rfl (.cons ⟨t, rfl⟩ .nil)) hsp) (fun r s' q => back_of q) fun _ _ z => z)
end
end L2

set_option maxRecDepth 100000
set_option maxHeartbeats 4000000
/-! # Words of every law: all but the pool, data that are alike, errors that are due -/
namespace L2
open PySem PySem.Spec PyProof.Rows
/-- all but p is as it was -/
def But (p : Addr) (H H' : Hp) : Prop := ∀ b o, b ≠ p → H b = some o → H' b = some o
theorem But.refl (p : Addr) (H : Hp) : But p H H := fun _ _ _ h => h
theorem But.trans {p : Addr} {H H1 H2 : Hp} (a : But p H H1) (b : But p H1 H2) : But p H H2 := fun c o n h => b c o n (a c o n h)
theorem But.set {p : Addr} {H : Hp} {o : HO} : But p H (upd H p o) := fun b u n h => by rw [upd_ne n]; exact h
theorem But.of {p : Addr} {H H' : Hp} (s : Same H H') : But p H H' := fun b o _ h => s b o h
theorem But.sqL {K : PySem.W.Frag} {p a : Addr} {H H' : Hp} {xs : List V} (s : But p H H') (n : a ≠ p) (h : SqL K H a xs) : SqL K H' a xs := by
  rcases h with (h | ⟨o, h⟩) | h
  · exact .inl (.inl (s _ _ n h))
  · exact .inl (.inr ⟨o, s _ _ n h⟩)
  · exact .inr h
theorem yesT {A B : Hp → Prop} {σ : St} {H : Hp} (h : A H) : tYes σ H (fun b H3 => if b = true then A H3 else B H3) := by
  show (if true = true then A H else B H)
  exact iteT h
theorem nope {b : Bool} {A B : Prop} (h : b = false) (k : B) : if b = true then A else B := by
  rw [h]; exact iteF k
theorem yep {b : Bool} {A B : Prop} (h : b = true) (k : A) : if b = true then A else B := by
  rw [h]; exact iteT k
theorem SqT.ty {K : PySem.W.Frag} {H : Hp} {a : Addr} {xs : List V} (h : SqT K H a xs) : TyX K H (.ref a) (.type "tuple") := by
  rcases h with (h | ⟨o, h⟩) | ⟨o, its, n, h, c, _⟩
  · exact .base (.tup h)
  · exact .fTuple h
  · exact .kTuple h c
theorem SqL.ty {K : PySem.W.Frag} {H : Hp} {a : Addr} {xs : List V} (h : SqL K H a xs) : TyX K H (.ref a) (.type "list") := by
  rcases h with (h | ⟨o, h⟩) | ⟨o, its, n, h, c, _⟩
  · exact .base (.lst h)
  · exact .base (.frz h)
  · exact .kList h c
/-- None, a bool, a number, a text -/
inductive Atom : V → Prop where
  | non : Atom .non
  | bl (b : Bool) : Atom (.bl b)
  | int (i : Int) : Atom (.int i)
  | str (z : Str) : Atom (.str z)
/-- x and y are the same data, at most n deep -/
def Eqd (K : PySem.W.Frag) : Nat → Hp → V → V → Prop
  | 0, _, x, y => x = y ∧ Atom x
  | n + 1, H, x, y => (x = y ∧ Atom x) ∨ (∃ a b xs ys, x = .ref a ∧ y = .ref b ∧ ((SqT K H a xs ∧ SqT K H b ys) ∨ (SqL K H a xs ∧ SqL K H b ys)) ∧ xs.length = ys.length ∧ xs.length ≤ sizeLine ∧ ∀ (i : Nat) (u v : V), xs[i]? = some u → ys[i]? = some v → Eqd K n H u v)
theorem Eqd.atom {K : PySem.W.Frag} {n : Nat} {H : Hp} {x : V} (h : Atom x) : Eqd K n H x x := by
  cases n with
  | zero => exact ⟨rfl, h⟩
  | succ n => exact .inl ⟨rfl, h⟩
theorem Eqd.same {K : PySem.W.Frag} : ∀ {n : Nat} {H H' : Hp} {x y : V}, Eqd K n H x y → Same H H' → Eqd K n H' x y := by
  intro n
  induction n with
  | zero => intro H H' x y h _; exact h
  | succ n ih =>
    intro H H' x y h s
    rcases h with h | ⟨a, b, xs, ys, e1, e2, h, hl, hz, hi⟩
    · exact .inl h
    · exact .inr ⟨a, b, xs, ys, e1, e2, h.imp (fun z => ⟨s.seqT z.1, s.seqT z.2⟩) (fun z => ⟨s.seq z.1, s.seq z.2⟩), hl, hz, fun i u v h1 h2 => ih (hi i u v h1 h2) s⟩
theorem Eqd.ints {K : PySem.W.Frag} {n : Nat} {H : Hp} {ns : List Int} : ∀ (i : Nat) (u v : V), (ns.map V.int)[i]? = some u → (ns.map V.int)[i]? = some v → Eqd K n H u v := fun i u v h1 h2 => by
  obtain ⟨x, _, rfl⟩ := map_get h1
  rw [h1] at h2
  cases h2
  exact .atom (.int x)
theorem But.fresh {p : Addr} {o : HO} {H H' : Hp} (hn : H p = none) (bt : But p (upd H p o) H') : Same H H' := fun b u e => by
  have nb : b ≠ p := fun z => by rw [z, hn] at e; cases e
  exact bt b u nb (by rw [upd_ne nb]; exact e)
theorem But.seqT {K : PySem.W.Frag} {p a : Addr} {H H' : Hp} {xs ps : List V} (s : But p H H') (hp : H p = some (.lst ps)) (h : SqT K H a xs) : SqT K H' a xs := by
  rcases h with (h | ⟨o, h⟩) | h
  · exact .inl (.inl (s _ _ (fun z => by rw [z, hp] at h; cases h) h))
  · exact .inl (.inr ⟨o, s _ _ (fun z => by rw [z, hp] at h; cases h) h⟩)
  · exact .inr h
/-- an error of class C with the dict o is raised over a heap that has grown -/
def Rs (C : Addr) (o : HO) (H : Hp) (E : XK) : Prop := ∀ H' d, Same H H' → H' d = none → E (.ref C) (some d) (upd H' d o)
theorem Rs.now {C : Addr} {o : HO} {H : Hp} {E : XK} (h : Rs C o H E) (d : Addr) (hd : H d = none) : E (.ref C) (some d) (upd H d o) := h H d (.refl _) hd
theorem Rs.same {C : Addr} {o : HO} {H H' : Hp} {E : XK} (h : Rs C o H E) (s : Same H H') : Rs C o H' E := fun H2 d s2 hd => h H2 d (s.trans s2) hd
theorem passF {X : Cx} : Passes (L2.CX X.prog X.w) X (fun _ _ _ => False) := passes_call takes0 (fun _ _ _ _ h => h)
theorem sL {n : Nat} (h : n ≤ 1000) : n ≤ sizeLine := by rw [sizeLine_eq]; omega
theorem Eqd.row {K : PySem.W.Frag} {n : Nat} {H : Hp} {a b : Addr} {ns : List Int} (h : (SqT K H a (ns.map V.int) ∧ SqT K H b (ns.map V.int)) ∨ (SqL K H a (ns.map V.int) ∧ SqL K H b (ns.map V.int))) (l : ns.length ≤ 1000) : Eqd K (n + 1) H (.ref a) (.ref b) :=
  .inr ⟨a, b, _, _, rfl, rfl, h, rfl, by rw [List.length_map]; exact sL l, Eqd.ints⟩
theorem mod_lt {a m : Int} (h : 0 < m) : 0 ≤ a.fmod m ∧ a.fmod m < m := by
  rw [Int.fmod_eq_emod_of_nonneg a (by omega)]
  exact ⟨Int.emod_nonneg _ (by omega), Int.emod_lt_of_pos _ h⟩
/-- a law's pool of draws -/
def PoolOk (st : List V) : Prop := ∃ a b c : Int, st = [.int a, .int b, .int c] ∧ 0 ≤ b ∧ b < 2147483648
end L2

set_option maxRecDepth 100000
set_option maxHeartbeats 4000000
/-! # len(obj) of an own class -/
namespace L2
open PySem PySem.Spec PyProof.Rows
section
variable {X : Cx} {CX : CXT} {C f : Addr} {ps : List Str} {sp : Sp} {E : XK} {k : Nat}
/-- len(a), a of a class with __len__, which gives a number below 2 ^ 62 -/
def rOwnLenW (C : Addr) (sp : Sp) (E : XK) : List V → Hp → VK → Prop := fun xs H Q => ∃ a dx fs, xs = [.ref a] ∧ H a = some (.ins C dx fs) ∧ sp [.ref a] H (fun v H' => ∃ n : Nat, v = .int (n : Nat) ∧ n < 2 ^ 62 ∧ Q v H') E
theorem cLen (O : Ok X.prog X.w X.K X.mg X.base CX k f ps sp) (W : PySem.W.findIn X.K (.ref C) "__len__" = some (some (.ref f)) ∧ PySem.W.isFn X.K (.ref f) = true) (hr : Room (k + 1) X.A) (hx : Passes CX X E) : CallR X (.builtin "len") (rOwnLenW C sp E) := by
  obtain ⟨fd, F, hb, _⟩ := O.ex
  intro pins s σ H xs us Q I r h
  obtain ⟨a, dx, fs, rfl, ha, hsp⟩ := h
  cases r with
  | cons r rr =>
  cases rr
  cases r
  obtain ⟨od, J⟩ := inst_of I.hok ha
  obtain ⟨m, hF⟩ := I.fr
  refine PySem.W.len_K hF I.ok.mod.kin J W.1 W.2 (wpAny_mono (run_fnA F hb hr.in1 I.env0.in1 hx I (us := [.ref a]) (vs := [.ref a]) (.cons rfl .nil) hsp) (fun v s' q => ?_) fun _ _ z => z)
  obtain ⟨x, H', I', rx, n, rfl, hn, q⟩ := q
  obtain ⟨t, rfl⟩ := rx
  exact ⟨⟨by omega, by omega⟩, .int (n : Nat), H', I'.tok _, ⟨_, rfl⟩, q⟩
/-- a def called within a built-in's call, in a try's body -/
theorem run_fnAS {E : St → XK} {fd : FuncData} {A : Around} {pins : List (Addr × Obj)} {σ : St} {H : Hp} {s : Shared} {Q : VK} {us : List Value} {vs : List V} (F : FnOk X.prog X.w X.K X.mg X.base CX k f fd ps sp) (hb : Binds X.K fd ps []) (hr : Room k A) (e0 : Env0 X.prog X.w X.K X.mg X.base A X.stack s H) (hx : PassesAt CX X σ (E σ))
    (I : Inv X pins σ H s) (r : Vals vs us) (h : sp vs H Q (E σ)) : wpAny (model X.prog X.w) A (call (.ref f) us) (EP X pins σ Q) X.xe s := by
  have hl : us.length = ps.length := r.length.symm.trans (F.len _ _ _ _ h)
  have B : BindsTo s fd ⟨us, []⟩ (ps.zip us) := by
    have := hb s us I.kIn (by rw [List.append_nil]; exact hl)
    rwa [List.append_nil] at this
  refine wpAny_call (codeAny_mono (F.run A X.stack s H ⟨us, []⟩ us vs Q (E σ) hr e0 B r h) fun r s' hq => ?_)
  cases r with
  | error e => exact hx pins H s e s' I hq
  | ok fl =>
    cases fl with
    | ret u => exact I.after hq
    | next => exact hq.elim
    | brk => exact hq.elim
    | cont => exact hq.elim
/-- a[i], a of a class with __getitem__, i a number; E may hang on the slots (a try's body) -/
def tOwnIx (C : Addr) (sp : Sp) (E : St → XK) (ta tb : TE) : TE := fun σ H Q => ta σ H fun x H1 => tb σ H1 fun y H2 => ∃ p dx fs i, x = .ref p ∧ y = .int i ∧ H2 p = some (.ins C dx fs) ∧ sp [.ref p, .int i] H2 Q (E σ)
structure OwnIx (K : PySem.W.Frag) (C f : Addr) : Prop where
  at_ : PySem.W.findIn K (.ref C) "__getitem__" = some (some (.ref f))
  fi : PySem.W.fnIn K f = true
  fn : PySem.W.isFn K (.ref f) = true
theorem peOwnIx {E : St → XK} {a b : Expr} {ta tb : TE} {pos : Pos} (O : Ok X.prog X.w X.K X.mg X.base CX k f ps sp) (W : OwnIx X.K C f) (hr : Room (k + 1) X.A) (hx : ∀ σ, PassesAt CX X σ (E σ)) (ha : PE X a ta) (hb : PE X b tb)
    (hsl : ∀ (p : Addr) (i : Value), subscripted b true (.ref p) i = runValue (.builtin "lifetime.subscript" ⟨[.ref p, i], []⟩) := by intro _ _; with_unfolding_all rfl) : PE X (.Subscript a b pos) (tOwnIx C sp E ta tb) := by
  obtain ⟨fd, F, bn, _⟩ := O.ex
  refine ⟨fun pins s σ H Q I h => Subscript_ (binT ha hb I h fun v u s2 x y H2 I2 rx ry q => ?_)⟩
  obtain ⟨p, dx, fs, i, rfl, rfl, hp, hsp⟩ := q
  cases rx
  obtain ⟨t, rfl⟩ := ry
  obtain ⟨od, J⟩ := inst_of I2.hok hp
  obtain ⟨m, hF⟩ := I2.fr
  exact PySem.W.sub_K hF I2.ok.mod.kin J W.at_ W.fi W.fn (run_fnAS F bn hr.in1 I2.env0.in1 (hx σ) I2 (us := [.ref p, .int i t]) (vs := [.ref p, .int i]) (.cons rfl (.cons ⟨t, rfl⟩ .nil)) hsp) (hsl p _)
/-- outside a try -/
theorem atP {E : XK} (h : Passes CX X E) : ∀ σ : St, PassesAt CX X σ E := fun σ pins H s e s' I c => h pins σ H s e s' I c
end
end L2

set_option maxRecDepth 100000
set_option maxHeartbeats 4000000
/-! # obj == x, obj < x: an own class's comparison with a value of any of four kinds -/
namespace L2
open PySem PySem.Spec PyProof.Rows
/-- what the right side may be, and its type -/
inductive CmpTy (K : PySem.W.Frag) (H : Hp) : V → Value → Prop
  | int (n : Int) : CmpTy K H (.int n) (.type "int")
  | lst {a : Addr} {xs : List V} (h : SqL K H a xs) : CmpTy K H (.ref a) (.type "list")
  | tup {a : Addr} {xs : List V} (h : SqT K H a xs) : CmpTy K H (.ref a) (.type "tuple")
  | own {a C dx : Addr} {fs : List (Str × V)} (h : H a = some (.ins C dx fs)) : CmpTy K H (.ref a) (.ref C)
theorem CmpTy.looks {X : Cx} {pins : List (Addr × Obj)} {σ : St} {H : Hp} {s : Shared} {y : V} {u tb : Value} (I : Inv X pins σ H s) (c : CmpTy X.K H y tb) (r : RelV y u) : PySem.W.Looks (model X.prog X.w) s.heap (typeOf u) tb := by
  cases c with
  | int n => obtain ⟨t, rfl⟩ := r; exact PySem.W.Looks.of_pure rfl
  | lst h =>
    cases r
    obtain ⟨its, _, p, _⟩ := I.list h
    obtain ⟨o, ho, hc, _⟩ := p.isList
    exact fun A Q E s' k q => wpAny_typeOf_ref (k _ _ ho) (by rw [hc]; exact q)
  | tup h =>
    cases r
    obtain ⟨its, _, ⟨o, ho, hc, _⟩, _⟩ := I.tuple h
    exact fun A Q E s' k q => wpAny_typeOf_ref (k _ _ ho) (by rw [hc]; exact q)
  | own h =>
    cases r
    obtain ⟨od, J⟩ := inst_of I.hok h
    exact J.type
/-- a op y, a of the class at C, whose def for op is at f -/
structure OwnCmp (K : PySem.W.Frag) (C : Addr) (op : CmpOp) (f : Addr) (tb : Value) : Prop where
  at_ : PySem.W.findIn K (.ref C) (cmpInfo op).2.1 = some (some (.ref f))
  fn : PySem.W.isFn K (.ref f) = true
  nf : PySem.W.notFirst K C tb = true
def rOwnCmp (K : PySem.W.Frag) (C : Addr) (tb : Value) (sp : Sp) (E : XK) : R2 := fun x y H Q => ∃ a dx fs, x = .ref a ∧ H a = some (.ins C dx fs) ∧ CmpTy K H y tb ∧ sp [.ref a, y] H Q E
section
variable {X : Cx} {CX : CXT} {C f : Addr} {ps : List Str} {sp : Sp} {E : XK} {k : Nat}
theorem oCmp {op : CmpOp} {tb : Value} (hop : ∀ a b, compareOp op a b = richCompare op a b) (O : Ok X.prog X.w X.K X.mg X.base CX k f ps sp) (W : OwnCmp X.K C op f tb) (hr : Room k X.A) (hx : Passes CX X E) : OpR X (compareOp op) (rOwnCmp X.K C tb sp E) := by
  obtain ⟨fd, F, hb, _⟩ := O.ex
  intro pins s σ H x y v u Q I rx ry h
  obtain ⟨a, dx, fs, rfl, ha, ct, hsp⟩ := h
  cases rx
  obtain ⟨od, J⟩ := inst_of I.hok ha
  obtain ⟨m, hF⟩ := I.fr
  rw [hop]
  exact PySem.W.cmp_K (op := op) hr.units0 hF I.ok.mod.kin J (ct.looks I ry) W.nf W.at_ W.fn (wpAny_mono (run_fn F hr hb .nil hx I (us := [.ref a, u]) (vs := [.ref a, y]) (.cons rfl (.cons ry .nil)) hsp) (fun r s' q => back_of q) fun _ _ z => z)
/-- xs[i] as it is read in xs[i] += n, 0 ≤ i -/
def gIxL (K : PySem.W.Frag) : V → V → Hp → VK → Prop := fun o i H Q => ∃ p xs j v, o = .ref p ∧ i = .int ((j : Nat) : Int) ∧ SqL K H p xs ∧ xs[j]? = some v ∧ Q v H
theorem get_list : PGet X (gIxL X.K) := by
  intro pins s σ H o i ov iv Q I ro ri h
  obtain ⟨p, xs, j, v, rfl, rfl, hp, hj, q⟩ := h
  cases ro
  obtain ⟨t, rfl⟩ := ri
  obtain ⟨its, r, pl, hz⟩ := I.list hp
  obtain ⟨w, ew, rw'⟩ := r.get hj
  have hl := r.length
  have lt : j < xs.length := (List.getElem?_eq_some_iff.mp hj).1
  have hn := line63
  exact wpAny_getItem_list pl.isList (by omega) (by omega) (by rw [Int.toNat_natCast]; simpa using ew) ⟨v, H, I, rw', q⟩
end
end L2

set_option maxRecDepth 100000
set_option maxHeartbeats 4000000
namespace FC
open PySem PySem.W PySem.Calls PyProof.Rows He He5 HX
def cmpB (K : Frag) (C : Addr) (op : CmpOp) (f : Addr) (tb : Value) : Bool := eqO (findIn K (.ref C) (cmpInfo op).2.1) (some (some (.ref f))) && (isFn K (.ref f) && notFirst K C tb)
theorem cmp_ok {K : Frag} {C f : Addr} {op : CmpOp} {tb : Value} (h : cmpB K C op f tb = true) : L2.OwnCmp K C op f tb := by
  obtain ⟨h1, h⟩ := ba h
  obtain ⟨h2, h3⟩ := ba h
  exact ⟨eqO_ok h1, h2, h3⟩
def ixB (K : Frag) (C f : Addr) : Bool := eqO (findIn K (.ref C) "__getitem__") (some (some (.ref f))) && (fnIn K f && isFn K (.ref f))
theorem ix_ok {K : Frag} {C f : Addr} (h : ixB K C f = true) : L2.OwnIx K C f := by
  obtain ⟨h1, h⟩ := ba h
  obtain ⟨h2, h3⟩ := ba h
  exact ⟨eqO_ok h1, h2, h3⟩
end FC

set_option maxRecDepth 100000
set_option maxHeartbeats 4000000
/-! # obj.m(e, .., k = v) -/
namespace L2
open PySem PySem.Spec PyProof.Rows
def tMethN (C : Addr) (m : Str) (n mm : Nat) (sp : Sp) (gV : List V → List V → List V) (E : XK) (ta : TE) (t tk : TA) : TE := fun σ H Q => ta σ H fun x H1 => ∃ a dx fs, x = .ref a ∧ H1 a = some (.ins C dx fs) ∧ fs.lookup m = none ∧
  t σ H1 fun vs H2 => tk σ H2 fun zs H3 => vs.length = n ∧ zs.length = mm ∧ sp (gV (.ref a :: vs) zs) H3 Q E
theorem pe_methN {X : Cx} {CX : CXT} {k n : Nat} {f C : Addr} {fd : FuncData} {ps ks : List Str} {sp : Sp} {E : XK} {m : Str} {o e : Expr} {es : List Expr} {kws : List Keyword} {ta : TE} {t tk : TA} {apos pos : Pos} {pl : Sem Bool} {g : List Value → List Value → List Value} {gV : List V → List V → List V}
    (he : PE X o ta) (c : Cls X.K C) (hm : Meth X.K C m f) (F : FnOk X.prog X.w X.K X.mg X.base CX k f fd ps sp) (hr : Room k X.A) (hb : KBn X.K fd ps (n + 1) ks g gV) (hx : Passes CX X E) (ha : PA X (e :: es) t) (hkw : PK X kws tk)
    (hall : (backToKw pos (keywordEach kws X.env)).all (·.1.isSome) = true := by rfl) (hks : (backToKw pos (keywordEach kws X.env)).filterMap (·.1) = ks := by rfl)
    (hst : starEach (e :: es) X.env = (false, eval e X.env) :: starEach es X.env := by rfl) (hpl : ((backTo pos (starEach (e :: es) X.env)).any (·.1) || (backToKw pos (keywordEach kws X.env)).any (·.1.isNone)) = false := by rfl)
    (ht : eval (.Call (.Attribute o m apos) (e :: es) kws pos) X.env = (do
      let ov ← eval o X.env
      standAt apos.atName
      let (f, first) ← holding [ov] (getMethod ov m pl)
      callWith pos f first (backTo pos (starEach (e :: es) X.env)) (backToKw pos (keywordEach kws X.env))) := by rfl) :
    PE X (.Call (.Attribute o m apos) (e :: es) kws pos) (tMethN C m n ks.length sp gV E ta t tk) := by
  refine ⟨fun pins s σ H Q I h => ?_⟩
  refine PySem.W.methodCall_KW (pl := pl) (thn (he.run pins s σ H _ I h) fun u s1 ⟨x, H1, I1, rx, a, dx, fs, ex, ea, l, q⟩ => ?_) ht
  subst ex
  obtain rfl : u = Value.ref a := rx
  refine getmeth_ok I1 ea c hm l ?_
  refine PySem.W.callWith_KW (first := [.ref a]) (h₀ := X.base) I.ok.mod.kin hm.kp hall (thn (ha.run pos pins s1 σ H1 _ I1 q) fun us s2 ⟨vs, H2, I2, r, q2⟩ => ?_) hpl hst
  refine thn (hkw.run pos pins s2 σ H2 _ I2 q2) fun ws s3 ⟨zs, H3, I3, rz, l1, l2, q3⟩ => ⟨I3.kIn, ?_⟩
  rw [hks]
  exact run_fnN (us := .ref a :: us) (vs := .ref a :: vs) F hr hb hx I3 (.cons rfl r) rz (congrArg Nat.succ l1) l2 q3
end L2

set_option maxRecDepth 100000
set_option maxHeartbeats 4000000
/-! # Properties as facts; obj.m(k = v), C.m(a, .., k = v), cls(a, .., k = v) -/
namespace L2
open PySem PySem.Spec PyProof.Rows
def propObj (K : PySem.W.Frag) (C : Addr) (f : Str) : Addr := match PySem.W.findIn K (.ref C) f with
  | some (some (.ref p)) => p
  | _ => 0
def propAt (K : PySem.W.Frag) (C : Addr) (f : Str) : Addr := match PySem.W.recIn K (propObj K C f) "property" with
  | some (.ref g :: _) => g
  | _ => 0
def propB (K : PySem.W.Frag) (C : Addr) (f : Str) : Bool :=
  decide (PySem.W.findIn K (.ref C) f = some (some (.ref (propObj K C f)))) && (decide (PySem.W.specialIn K (.ref (propObj K C f)) "__get__" = some (some (.builtin "property.__get__"))) &&
    (decide (PySem.W.takesIn K (.ref (propObj K C f)) = some true) && (match PySem.W.recIn K (propObj K C f) "property" with
      | some (.ref _ :: _) => true
      | _ => false)))
theorem prop_ok {K : PySem.W.Frag} {C : Addr} {f : Str} (h : propB K C f = true) : PropOf K C f (propObj K C f) (propAt K C f) := by
  unfold propB at h
  simp only [Bool.and_eq_true, decide_eq_true_eq] at h
  obtain ⟨h1, h2, h3, h4⟩ := h
  refine ⟨h1, h2, h3, ?_⟩
  unfold propAt
  split at h4
  · rename_i g rest e
    exact ⟨rest, by rw [e]⟩
  · cases h4
section
variable {X : Cx} {CX : CXT} {k n i : Nat} {f C : Addr} {fd : FuncData} {ps ks : List Str} {sp : Sp} {E : XK} {x m : Str} {o e : Expr} {es : List Expr} {kws : List Keyword} {ta : TE} {t tk : TA} {p apos pos : Pos} {pl : Sem Bool} {g : List Value → List Value → List Value} {gV : List V → List V → List V}
/-- o.m(k = v, ..) -/
theorem pe_methN0 (he : PE X o ta) (c : Cls X.K C) (hm : Meth X.K C m f) (F : FnOk X.prog X.w X.K X.mg X.base CX k f fd ps sp) (hr : Room k X.A) (hb : KBn X.K fd ps 1 ks g gV) (hx : Passes CX X E) (hkw : PK X kws tk)
    (hall : (backToKw pos (keywordEach kws X.env)).all (·.1.isSome) = true := by rfl) (hks : (backToKw pos (keywordEach kws X.env)).filterMap (·.1) = ks := by rfl)
    (hpl : ((backTo pos (starEach [] X.env)).any (·.1) || (backToKw pos (keywordEach kws X.env)).any (·.1.isNone)) = false := by rfl)
    (ht : eval (.Call (.Attribute o m apos) [] kws pos) X.env = (do
      let ov ← eval o X.env
      standAt apos.atName
      let (f, first) ← holding [ov] (getMethod ov m pl)
      callWith pos f first (backTo pos (starEach [] X.env)) (backToKw pos (keywordEach kws X.env))) := by rfl) :
    PE X (.Call (.Attribute o m apos) [] kws pos) (tMethN C m 0 ks.length sp gV E ta tNil tk) := by
  refine ⟨fun pins s σ H Q I h => ?_⟩
  refine PySem.W.methodCall_KW (pl := pl) (thn (he.run pins s σ H _ I h) fun u s1 ⟨y, H1, I1, rx, a, dx, fs, ex, ea, l, q⟩ => ?_) ht
  subst ex
  obtain rfl : u = Value.ref a := rx
  refine getmeth_ok I1 ea c hm l ?_
  refine PySem.W.callWith_KW0 (first := [.ref a]) (h₀ := X.base) I.ok.mod.kin hm.kp hall ?_ hpl
  refine thn (hkw.run pos pins s1 σ H1 _ I1 q) fun ws s3 ⟨zs, H3, I3, rz, l1, l2, q3⟩ => ⟨I3.kIn, ?_⟩
  rw [hks]
  exact run_fnN (us := [.ref a]) (vs := [.ref a]) F hr hb hx I3 (.cons rfl .nil) rz rfl l2 q3
/-- cls(e, .., k = v), cls a local name that holds the class at C -/
def tMakeLK (i : Nat) (C : Addr) (n m : Nat) (sp : Sp) (gV : List V → List V → List V) (E : XK) (t tk : TA) : TE := fun σ H Q => σ[i]? = some (some (.ref C)) ∧ tMakeK C n m sp gV E t tk σ H Q
theorem pmkLK (M : Mk X.K C f) (F : FnOk X.prog X.w X.K X.mg X.base CX k f fd ps sp) (hr : Room (k + 1) X.A) (hN : X.N[i]? = some x) (hv : Vis X.env.scope x) (hb : KBn X.K fd ps (n + 1) ks g gV) (hx : Passes CX X E) (ha : PA X (e :: es) t) (hkw : PK X kws tk)
    (hall : (backToKw pos (keywordEach kws X.env)).all (·.1.isSome) = true := by rfl) (hks : (backToKw pos (keywordEach kws X.env)).filterMap (·.1) = ks := by rfl) (hdb : (x == ("__debug__" : Str)) = false := by decide) (hcd : (x == ("__classdict__" : Str)) = false := by decide)
    (he : starEach (e :: es) X.env = (false, eval e X.env) :: starEach es X.env := by rfl) (hpl : ((backTo pos (starEach (e :: es) X.env)).any (·.1) || (backToKw pos (keywordEach kws X.env)).any (·.1.isNone)) = false := by rfl) :
    PE X (.Call (.Name x p) (e :: es) kws pos) (tMakeLK i C n ks.length sp gV E t tk) := by
  refine ⟨fun pins s σ H Q I h => ?_⟩
  obtain ⟨hs, h⟩ := h
  refine wpAny_Call_Name_kw (thn ((pe_var (pos := p) hN hv hdb hcd).run pins s σ H (fun v H1 => v = .ref C ∧ H1 = H) I ⟨.ref C, hs, rfl, rfl⟩) fun u s1 ⟨v, H1, I1, r1, q1⟩ => ?_)
  obtain ⟨rfl, rfl⟩ := q1
  cases r1
  refine PySem.W.callWith_KW (h₀ := X.base) I.ok.mod.kin M.kp hall (thn (ha.run pos pins s1 σ _ _ I1 h) fun us s2 ⟨vs, H2, I2, r, q⟩ => ?_) hpl he
  refine thn (hkw.run pos pins s2 σ H2 _ I2 q) fun ws s3 ⟨zs, H3, I3, rz, l1, l2, q2⟩ => ⟨I3.kIn, ?_⟩
  rw [hks]
  exact run_makeK M F hr hb hx I3 r rz l1 l2 q2
end
/-- a def with keywords, as a classmethod's def -/
theorem fnS_of {P : Program} {w : World} {K : PySem.W.Frag} {mg : Str → Option Value} {base : Heap} {CX : CXT} {k n : Nat} {f : Addr} {fd : FuncData} {ps ks : List Str} {sp : Sp} {g : List Value → List Value → List Value} {gV : List V → List V → List V} (F : FnOk P w K mg base CX k f fd ps sp) (hb : KBn K fd ps n ks g gV) :
    FnS P w K mg base CX k f ks (fun vs zs H Q E => vs.length = n ∧ zs.length = ks.length ∧ sp (gV vs zs) H Q E) := by
  intro A outer s H us ws vs zs Q E hr e0 r rz h
  obtain ⟨l1, l2, h⟩ := h
  have KX : K.In s.heap := e0.mod.kin.keeps fun b o e => (e0.bs b o e).1
  exact F.run A outer s H ⟨us, ks.zip ws⟩ (g us ws) (gV vs zs) Q E hr e0 (hb.to s us ws KX (r.length.symm.trans l1) (rz.length.symm.trans l2)) (hb.rel r rz) h
end L2

set_option maxRecDepth 100000
set_option maxHeartbeats 4000000
/-! # max(xs, default=d), min(xs, default=d) of a list of numbers -/
namespace L2
open PySem PySem.W PySem.Spec PyProof.Rows
section
variable {prog : Program} {w : World} {A : Around} {E : Value → Shared → Prop} {s : Shared} {l : Addr} {its : List Value} {ns : List Int} {d : Value} {Q : Value → Shared → Prop}
theorem maxD_raw (hh : A.handled = none) (hl : s.heap.IsList l its.toArray) (hi : IntsAre its ns)
    (h0 : ns = [] → ∀ h' tk, (∀ b o, s.heap.get? b = some o → h'.get? b = some o) → Q d { s with heap := h', toks := tk })
    (h : ∀ h' tk M t', (∀ b o, s.heap.get? b = some o → h'.get? b = some o) → M ∈ ns → (∀ a, a ∈ ns → a ≤ M) → Q (.int M t') { s with heap := h', toks := tk }) :
    wpAny (model prog w) A (call (.builtin "max") [.ref l] [(Str.ofString "default", d)]) Q E s := by
  obtain ⟨xs, e⟩ := hi.allInts.items
  have hn : numsOf (intItems xs).toList = ns := by rw [← e]; exact hi.numsOf
  rw [nums_intItems] at hn
  subst hn
  rw [e] at hl
  refine call_max_walkD (iter_listW (A := A.in1) hh hl fun s₂ e2 W st hfp hw hk => ?_)
  refine ⟨_, _, _, _, _, _, _, s.heap, fun i j => decide (numAt xs i > numAt xs j), rfl, W, st, hfp, hw, hk, fun hz s' m => ?_, fun hp => ⟨fun i j vi vj s Q E _ a b c => CmpOf.ints_gt (prog := prog) (w := w) (A := A.in1) (P := fun i v => (intItems xs)[i]? = some v) (numAt xs) (fun _ _ => intItems_at) i j vi vj s Q E a b c, fun v s' hP m => ?_⟩⟩
  · obtain ⟨h', tk, rfl, hk'⟩ := moved_old e2 rfl m
    have z : xs.size = 0 := by simpa [intItems] using hz
    exact h0 (by rw [List.map_eq_nil_iff]; exact List.eq_nil_of_length_eq_zero (by rw [Array.length_toList]; exact z)) h' tk hk'
  · obtain ⟨h', tk, rfl, hk'⟩ := moved_old e2 rfl m
    have hsz : 0 < xs.size := by simpa [intItems] using hp
    have hP' : (intItems xs)[argBest (fun i j => decide (numAt xs i > numAt xs j)) (xs.size - 1)]? = some v := by simpa [intItems] using hP
    obtain ⟨t, rfl⟩ := intItems_at hP'
    obtain ⟨h1, h2⟩ := argBest_gt (numAt xs) (xs.size - 1)
    refine h h' tk _ t hk' ?_ fun a ha => ?_
    · rw [numAt_eq]; exact PySem.getD_mem (by rw [List.length_map, Array.length_toList]; omega)
    · obtain ⟨j, hj, rfl⟩ := mem_getD ha
      rw [List.length_map, Array.length_toList] at hj
      rw [← numAt_eq]; exact h2 j (by omega)
end
section
variable {X : Cx}
def rMaxD0 (K : PySem.W.Frag) : List V → List V → Hp → VK → Prop := fun vs zs H Q => ∃ (a : Addr) (ns : List Int) (d : Int), vs = [V.ref a] ∧ zs = [V.int d] ∧ SqL K H a (ns.map V.int) ∧ ∀ m, (ns = [] ∧ m = d) ∨ (m ∈ ns ∧ ∀ y, y ∈ ns → y ≤ m) → Q (.int m) H
/-- max(xs, default=d) of a list of ints -/
theorem cr_maxD0 (hc : X.calm = true) : CallRK X (.builtin "max") [Str.ofString "default"] (rMaxD0 X.K) := by
  intro pins s σ H vs zs us ws Q I r rz h
  obtain ⟨a, ns, d, rfl, rfl, hs, q⟩ := h
  obtain ⟨its, rv, hl, _⟩ := I.list hs
  obtain rfl := Vals.ref1 r
  obtain ⟨w1, rfl, e1⟩ := vals1 rz
  refine maxD_raw (I.ok.hd hc) hl.isList rv.ints (fun z h' tk hk => ⟨.int d, H, I.kept hk, e1, q d (.inl ⟨z, rfl⟩)⟩) fun h' tk m t' hk h1 h2 => ⟨.int _, H, I.kept hk, ⟨_, rfl⟩, q m (.inr ⟨h1, h2⟩)⟩
end
end L2

set_option maxRecDepth 100000
set_option maxHeartbeats 4000000
/-! # isinstance(e, (C, D, ..)) in a suite, e an error with a dict -/
namespace L2
open PySem PySem.Spec PyProof.Rows
def rIsDT (K : PySem.W.Frag) (D a : Addr) (d : Option Addr) : List V → Hp → VK → Prop := fun xs H Q => ∃ (tp : Addr) (cs : List V) (ws : List Value) (b : Bool) (dd : Addr) (fs : List (Str × V)), xs = [.ref a, .ref tp] ∧ H tp = some (.tup cs) ∧ Paired ClsV cs ws ∧ d = some dd ∧ H dd = some (.xd fs) ∧ PySem.W.kitAny K (.ref D) ws = some b ∧ Q (.bl b) H
theorem call_isDT {X : Cx} {a D : Addr} {d : Option Addr} {oe : Obj} {pn : List (Addr × Obj)} {cls : Value} (C : ExcC X.K D) (hz : Zc cls d oe) (hf : ∃ vs, oe.data = .fields vs) :
    CallR (X.suite a ((a, oe) :: pn)) (.builtin "isinstance") (fun xs H Q => cls = .ref D ∧ rIsDT X.K D a d xs H Q) := by
  intro pins s σ H xs us Q I r h
  obtain ⟨rfl, tp, cs, ws, b, dd, fs, rfl, hT, k, rfl, ea, e, q⟩ := h
  obtain ⟨u1, u2, rfl, r1, r2⟩ := vals2 r
  cases (show u2 = Value.ref tp from r2)
  cases (show u1 = Value.ref a from r1)
  obtain ⟨_, its, rv, o, h1, h2, n, h3⟩ := (show ObjOk X.prog X.w H s.heap tp (.tup cs) from I.hok tp _ hT)
  have e3 := ClsV.all k rv
  subst e3
  obtain ⟨oc, ot, dt, sl⟩ := o
  simp only at h2 h3
  subst h2 h3
  obtain ⟨hget, _⟩ := I.pin (a, oe) (List.mem_append.mpr (.inl List.mem_cons_self))
  obtain ⟨vs, hv⟩ := hf
  obtain ⟨mA, hns, hr⟩ := (show ObjOk X.prog X.w H s.heap dd (.xd fs) from I.hok dd _ ea)
  obtain ⟨od, ho, _⟩ := lookIn_ns hns
  have J : PySem.W.InstAt s.heap a oe D (some od) := ⟨hget, hz.1, by unfold PySem.W.notCls; rw [hv] <;> rfl, by rw [hz.2]; exact ho⟩
  exact PySem.W.kia_tup (EI.kit_exc C) I.kIn J h1 e (fun z => nomatch z) fun tk => ⟨.bl b, H, I.kept (t' := tk) fun _ _ z => z, rfl, q⟩
theorem kn_nil {K : PySem.W.Frag} {t : Value} : PySem.W.kitAny K t [] = some false := rfl
theorem kn_cons {K : PySem.W.Frag} {t c : Value} {cs : List Value} (h : PySem.W.kitOne K t c = some false) (r : PySem.W.kitAny K t cs = some false) : PySem.W.kitAny K t (c :: cs) = some false := by
  rw [PySem.W.kitAny, h]
  exact r
end L2

set_option maxRecDepth 100000
set_option maxHeartbeats 0
namespace K14
open PySem PySem.W PySem.Spec PySem.Calls PyProof.Rows L2 He He5 HX
/-! ### the text by its places -/
abbrev PG : Program := PySem.Challenge.pw_nightsoff_k14_one_after_another
def topS (i : Nat) : Stmt := PG.main.body.getD i (.Pass ⟨0, 0, 0, 0⟩)
abbrev s_wall : Stmt := topS 0
abbrev s_check_count : Stmt := topS 14
abbrev s_check_number : Stmt := topS 15
abbrev s_check_numbers : Stmt := topS 16
abbrev s_check_not_negative : Stmt := topS 17
abbrev s_check_rest : Stmt := topS 18
abbrev s_check_night : Stmt := topS 19
abbrev s_check_person : Stmt := topS 20
abbrev s_check_people : Stmt := topS 21
abbrev s_nights_with_room : Stmt := topS 23
abbrev s_Plan_init : Stmt := inClass (topS 25) 0
abbrev s_Plan_len : Stmt := inClass (topS 25) 1
abbrev s_Plan_iter : Stmt := inClass (topS 25) 2
abbrev s_Plan_getitem : Stmt := inClass (topS 25) 3
abbrev s_Plan_neg : Stmt := inClass (topS 25) 4
abbrev s_Plan_add : Stmt := inClass (topS 25) 5
abbrev s_Plan_nights_of : Stmt := inClass (topS 25) 6
abbrev s_counts_of : Stmt := topS 26
abbrev s_check_order : Stmt := topS 28
abbrev s_one_after_another : Stmt := topS 29
abbrev s_order_counts : Stmt := topS 30
abbrev s_House_init : Stmt := inClass (topS 32) 0
abbrev s_House_all_there : Stmt := inClass (topS 32) 1
abbrev s_House_nights : Stmt := inClass (topS 32) 2
abbrev s_House_people : Stmt := inClass (topS 32) 3
abbrev s_House_whole : Stmt := inClass (topS 32) 4
abbrev s_House_changed : Stmt := inClass (topS 32) 5
abbrev s_House_here : Stmt := inClass (topS 32) 6
abbrev s_House_stretch : Stmt := inClass (topS 32) 7
abbrev s_Wants_init : Stmt := inClass (topS 34) 2
abbrev s_Wants_of : Stmt := inClass (topS 34) 3
abbrev s_Wants_len : Stmt := inClass (topS 34) 4
abbrev s_Wants_iter : Stmt := inClass (topS 34) 5
abbrev s_Wants_getitem : Stmt := inClass (topS 34) 6
abbrev s_Wants_add : Stmt := inClass (topS 34) 7
abbrev s_Wants_mul : Stmt := inClass (topS 34) 8
abbrev s_Wants_rmul : Stmt := inClass (topS 34) 9
abbrev s_Wants_lshift : Stmt := inClass (topS 34) 10
abbrev s_Wants_rshift : Stmt := inClass (topS 34) 11
abbrev s_Wants_neg : Stmt := inClass (topS 34) 12
abbrev s_Wants_abs : Stmt := inClass (topS 34) 13
abbrev s_law_pool : Stmt := topS 36
abbrev s_law_draw : Stmt := topS 37
abbrev s_law_comings : Stmt := topS 38
abbrev s_law_wants : Stmt := topS 39
abbrev s_law_rows : Stmt := topS 40
abbrev s_law_counts : Stmt := topS 41
abbrev s_law_size : Stmt := topS 42
abbrev s_law_world : Stmt := topS 43
abbrev s_law_bend_days : Stmt := topS 44
abbrev s_law_int : Stmt := topS 45
abbrev s_law_ints : Stmt := topS 46
abbrev s_law_same : Stmt := topS 47
abbrev s_law_plan_fits : Stmt := topS 48
abbrev s_law_first : Stmt := topS 49
abbrev s_law_house : Stmt := topS 50
abbrev s_law_large : Stmt := topS 51
abbrev s_law_mixed : Stmt := topS 52
abbrev s_law_due : Stmt := topS 53
abbrev s_law_made : Stmt := topS 54
abbrev s_law_spoiled : Stmt := topS 55
abbrev s_law_order_fault : Stmt := topS 56
abbrev s_law_try_plan : Stmt := topS 57
abbrev s_law_try_counts : Stmt := topS 58
abbrev s_law_base : Stmt := topS 59
abbrev s_law : Stmt := topS 60
abbrev e_NoNight : Stmt := inClass (topS 3) 0
abbrev e_NoPerson : Stmt := inClass (topS 4) 0
abbrev e_NamedTwice : Stmt := inClass (topS 5) 0
abbrev e_BadNumber : Stmt := inClass (topS 6) 0
abbrev e_TooLong : Stmt := inClass (topS 7) 0
abbrev e_WrongLength : Stmt := inClass (topS 8) 0
abbrev e_BadRest : Stmt := inClass (topS 9) 0
abbrev e_BadComing : Stmt := inClass (topS 10) 0
/-! ### the errors: what their __init__ says -/
theorem tx_NoNight : InitTx PG e_NoNight "NoNight.__init__" ["night"] [("night", "night")] where
  txt := ⟨_, _, _, _, _, _, _, _, _, rfl, .cons (.nil), fun env h => (by rw [show interactive env = (env.scope.kind == ScopeKind.module && env.scope.more.any fun (n, _) => n == ("interactive" : Str)) from rfl, h]; rfl), fun env h => ⟨_, by obtain ⟨⟩ := env; cases h; rfl⟩⟩
  par := ⟨_, rfl, rfl⟩
  sc := ⟨⟨rfl, rfl, rfl⟩, by decide +kernel, rfl, rfl, rfl⟩
  loc := by decide +kernel
  nod := by decide +kernel
  bind := fun s e fd us hl h1 h2 h3 => (match us, hl with | [_], _ => .of_eq (by obtain ⟨⟩ := fd; cases h1; cases h2; cases h3; rfl))
  top := by decide +kernel
  few := by decide
theorem tx_NoPerson : InitTx PG e_NoPerson "NoPerson.__init__" ["person"] [("person", "person")] where
  txt := ⟨_, _, _, _, _, _, _, _, _, rfl, .cons (.nil), fun env h => (by rw [show interactive env = (env.scope.kind == ScopeKind.module && env.scope.more.any fun (n, _) => n == ("interactive" : Str)) from rfl, h]; rfl), fun env h => ⟨_, by obtain ⟨⟩ := env; cases h; rfl⟩⟩
  par := ⟨_, rfl, rfl⟩
  sc := ⟨⟨rfl, rfl, rfl⟩, by decide +kernel, rfl, rfl, rfl⟩
  loc := by decide +kernel
  nod := by decide +kernel
  bind := fun s e fd us hl h1 h2 h3 => (match us, hl with | [_], _ => .of_eq (by obtain ⟨⟩ := fd; cases h1; cases h2; cases h3; rfl))
  top := by decide +kernel
  few := by decide
theorem tx_NamedTwice : InitTx PG e_NamedTwice "NamedTwice.__init__" ["person"] [("person", "person")] where
  txt := ⟨_, _, _, _, _, _, _, _, _, rfl, .cons (.nil), fun env h => (by rw [show interactive env = (env.scope.kind == ScopeKind.module && env.scope.more.any fun (n, _) => n == ("interactive" : Str)) from rfl, h]; rfl), fun env h => ⟨_, by obtain ⟨⟩ := env; cases h; rfl⟩⟩
  par := ⟨_, rfl, rfl⟩
  sc := ⟨⟨rfl, rfl, rfl⟩, by decide +kernel, rfl, rfl, rfl⟩
  loc := by decide +kernel
  nod := by decide +kernel
  bind := fun s e fd us hl h1 h2 h3 => (match us, hl with | [_], _ => .of_eq (by obtain ⟨⟩ := fd; cases h1; cases h2; cases h3; rfl))
  top := by decide +kernel
  few := by decide
theorem tx_BadNumber : InitTx PG e_BadNumber "BadNumber.__init__" ["place", "number"] [("place", "place"), ("number", "number")] where
  txt := ⟨_, _, _, _, _, _, _, _, _, rfl, .cons (.cons (.nil)), fun env h => (by rw [show interactive env = (env.scope.kind == ScopeKind.module && env.scope.more.any fun (n, _) => n == ("interactive" : Str)) from rfl, h]; rfl), fun env h => ⟨_, by obtain ⟨⟩ := env; cases h; rfl⟩⟩
  par := ⟨_, rfl, rfl⟩
  sc := ⟨⟨rfl, rfl, rfl⟩, by decide +kernel, rfl, rfl, rfl⟩
  loc := by decide +kernel
  nod := by decide +kernel
  bind := fun s e fd us hl h1 h2 h3 => (match us, hl with | [_, _], _ => .of_eq (by obtain ⟨⟩ := fd; cases h1; cases h2; cases h3; rfl))
  top := by decide +kernel
  few := by decide
theorem tx_TooLong : InitTx PG e_TooLong "TooLong.__init__" ["count"] [("count", "count")] where
  txt := ⟨_, _, _, _, _, _, _, _, _, rfl, .cons (.nil), fun env h => (by rw [show interactive env = (env.scope.kind == ScopeKind.module && env.scope.more.any fun (n, _) => n == ("interactive" : Str)) from rfl, h]; rfl), fun env h => ⟨_, by obtain ⟨⟩ := env; cases h; rfl⟩⟩
  par := ⟨_, rfl, rfl⟩
  sc := ⟨⟨rfl, rfl, rfl⟩, by decide +kernel, rfl, rfl, rfl⟩
  loc := by decide +kernel
  nod := by decide +kernel
  bind := fun s e fd us hl h1 h2 h3 => (match us, hl with | [_], _ => .of_eq (by obtain ⟨⟩ := fd; cases h1; cases h2; cases h3; rfl))
  top := by decide +kernel
  few := by decide
theorem tx_WrongLength : InitTx PG e_WrongLength "WrongLength.__init__" ["found", "wanted"] [("found", "found"), ("wanted", "wanted")] where
  txt := ⟨_, _, _, _, _, _, _, _, _, rfl, .cons (.cons (.nil)), fun env h => (by rw [show interactive env = (env.scope.kind == ScopeKind.module && env.scope.more.any fun (n, _) => n == ("interactive" : Str)) from rfl, h]; rfl), fun env h => ⟨_, by obtain ⟨⟩ := env; cases h; rfl⟩⟩
  par := ⟨_, rfl, rfl⟩
  sc := ⟨⟨rfl, rfl, rfl⟩, by decide +kernel, rfl, rfl, rfl⟩
  loc := by decide +kernel
  nod := by decide +kernel
  bind := fun s e fd us hl h1 h2 h3 => (match us, hl with | [_, _], _ => .of_eq (by obtain ⟨⟩ := fd; cases h1; cases h2; cases h3; rfl))
  top := by decide +kernel
  few := by decide
theorem tx_BadRest : InitTx PG e_BadRest "BadRest.__init__" ["rest"] [("rest", "rest")] where
  txt := ⟨_, _, _, _, _, _, _, _, _, rfl, .cons (.nil), fun env h => (by rw [show interactive env = (env.scope.kind == ScopeKind.module && env.scope.more.any fun (n, _) => n == ("interactive" : Str)) from rfl, h]; rfl), fun env h => ⟨_, by obtain ⟨⟩ := env; cases h; rfl⟩⟩
  par := ⟨_, rfl, rfl⟩
  sc := ⟨⟨rfl, rfl, rfl⟩, by decide +kernel, rfl, rfl, rfl⟩
  loc := by decide +kernel
  nod := by decide +kernel
  bind := fun s e fd us hl h1 h2 h3 => (match us, hl with | [_], _ => .of_eq (by obtain ⟨⟩ := fd; cases h1; cases h2; cases h3; rfl))
  top := by decide +kernel
  few := by decide
theorem tx_BadComing : InitTx PG e_BadComing "BadComing.__init__" ["person", "coming"] [("person", "person"), ("coming", "coming")] where
  txt := ⟨_, _, _, _, _, _, _, _, _, rfl, .cons (.cons (.nil)), fun env h => (by rw [show interactive env = (env.scope.kind == ScopeKind.module && env.scope.more.any fun (n, _) => n == ("interactive" : Str)) from rfl, h]; rfl), fun env h => ⟨_, by obtain ⟨⟩ := env; cases h; rfl⟩⟩
  par := ⟨_, rfl, rfl⟩
  sc := ⟨⟨rfl, rfl, rfl⟩, by decide +kernel, rfl, rfl, rfl⟩
  loc := by decide +kernel
  nod := by decide +kernel
  bind := fun s e fd us hl h1 h2 h3 => (match us, hl with | [_, _], _ => .of_eq (by obtain ⟨⟩ := fd; cases h1; cases h2; cases h3; rfl))
  top := by decide +kernel
  few := by decide
/-! ### facts -/
def fn : List DefA := [
  { at_ := fun K => ga K "check_count", name := "check_count", qual := "check_count", params := defArgs s_check_count, body := defBody s_check_count, scope := defScope s_check_count },
  { at_ := fun K => ga K "check_number", name := "check_number", qual := "check_number", params := defArgs s_check_number, body := defBody s_check_number, scope := defScope s_check_number },
  { at_ := fun K => ga K "check_numbers", name := "check_numbers", qual := "check_numbers", params := defArgs s_check_numbers, body := defBody s_check_numbers, scope := defScope s_check_numbers },
  { at_ := fun K => ga K "check_not_negative", name := "check_not_negative", qual := "check_not_negative", params := defArgs s_check_not_negative, body := defBody s_check_not_negative, scope := defScope s_check_not_negative },
  { at_ := fun K => ga K "check_rest", name := "check_rest", qual := "check_rest", params := defArgs s_check_rest, body := defBody s_check_rest, scope := defScope s_check_rest },
  { at_ := fun K => ga K "check_night", name := "check_night", qual := "check_night", params := defArgs s_check_night, body := defBody s_check_night, scope := defScope s_check_night },
  { at_ := fun K => ga K "check_person", name := "check_person", qual := "check_person", params := defArgs s_check_person, body := defBody s_check_person, scope := defScope s_check_person },
  { at_ := fun K => ga K "check_people", name := "check_people", qual := "check_people", params := defArgs s_check_people, body := defBody s_check_people, scope := defScope s_check_people },
  { at_ := fun K => ga K "nights_with_room", name := "nights_with_room", qual := "nights_with_room", params := defArgs s_nights_with_room, body := defBody s_nights_with_room, scope := defScope s_nights_with_room },
  { at_ := fun K => ma K (ga K "Plan") "__init__", name := "__init__", qual := "Plan.__init__", params := defArgs s_Plan_init, body := defBody s_Plan_init, scope := defScope s_Plan_init },
  { at_ := fun K => ma K (ga K "Plan") "__len__", name := "__len__", qual := "Plan.__len__", params := defArgs s_Plan_len, body := defBody s_Plan_len, scope := defScope s_Plan_len },
  { at_ := fun K => ma K (ga K "Plan") "__iter__", name := "__iter__", qual := "Plan.__iter__", params := defArgs s_Plan_iter, body := defBody s_Plan_iter, scope := defScope s_Plan_iter },
  { at_ := fun K => ma K (ga K "Plan") "__getitem__", name := "__getitem__", qual := "Plan.__getitem__", params := defArgs s_Plan_getitem, body := defBody s_Plan_getitem, scope := defScope s_Plan_getitem },
  { at_ := fun K => ma K (ga K "Plan") "nights_of", name := "nights_of", qual := "Plan.nights_of", params := defArgs s_Plan_nights_of, body := defBody s_Plan_nights_of, scope := defScope s_Plan_nights_of },
  { at_ := fun K => ga K "counts_of", name := "counts_of", qual := "counts_of", params := defArgs s_counts_of, body := defBody s_counts_of, scope := defScope s_counts_of },
  { at_ := fun K => ga K "check_order", name := "check_order", qual := "check_order", params := defArgs s_check_order, body := defBody s_check_order, scope := defScope s_check_order },
  { at_ := fun K => ga K "one_after_another", name := "one_after_another", qual := "one_after_another", params := defArgs s_one_after_another, body := defBody s_one_after_another, scope := defScope s_one_after_another },
  { at_ := fun K => ga K "order_counts", name := "order_counts", qual := "order_counts", params := defArgs s_order_counts, body := defBody s_order_counts, scope := defScope s_order_counts },
  { at_ := fun K => ma K (ga K "House") "__init__", name := "__init__", qual := "House.__init__", params := defArgs s_House_init, body := defBody s_House_init, scope := defScope s_House_init, kwd := [("rest", .int 1)] },
  { at_ := fun K => propAt K (ga K "House") "nights", name := "nights", qual := "House.nights", params := defArgs s_House_nights, body := defBody s_House_nights, scope := defScope s_House_nights },
  { at_ := fun K => propAt K (ga K "House") "people", name := "people", qual := "House.people", params := defArgs s_House_people, body := defBody s_House_people, scope := defScope s_House_people },
  { at_ := fun K => ma K (ga K "Wants") "__init__", name := "__init__", qual := "Wants.__init__", params := defArgs s_Wants_init, body := defBody s_Wants_init, scope := defScope s_Wants_init },
  { at_ := fun K => ma K (ga K "Wants") "__len__", name := "__len__", qual := "Wants.__len__", params := defArgs s_Wants_len, body := defBody s_Wants_len, scope := defScope s_Wants_len },
  { at_ := fun K => ma K (ga K "Wants") "__iter__", name := "__iter__", qual := "Wants.__iter__", params := defArgs s_Wants_iter, body := defBody s_Wants_iter, scope := defScope s_Wants_iter },
  { at_ := fun K => ma K (ga K "Wants") "__getitem__", name := "__getitem__", qual := "Wants.__getitem__", params := defArgs s_Wants_getitem, body := defBody s_Wants_getitem, scope := defScope s_Wants_getitem },
  { at_ := fun K => ga K "_law_pool", name := "_law_pool", qual := "_law_pool", params := defArgs s_law_pool, body := defBody s_law_pool, scope := defScope s_law_pool },
  { at_ := fun K => ga K "_law_draw", name := "_law_draw", qual := "_law_draw", params := defArgs s_law_draw, body := defBody s_law_draw, scope := defScope s_law_draw },
  { at_ := fun K => ga K "_law_comings", name := "_law_comings", qual := "_law_comings", params := defArgs s_law_comings, body := defBody s_law_comings, scope := defScope s_law_comings },
  { at_ := fun K => ga K "_law_wants", name := "_law_wants", qual := "_law_wants", params := defArgs s_law_wants, body := defBody s_law_wants, scope := defScope s_law_wants },
  { at_ := fun K => ga K "_law_rows", name := "_law_rows", qual := "_law_rows", params := defArgs s_law_rows, body := defBody s_law_rows, scope := defScope s_law_rows },
  { at_ := fun K => ga K "_law_counts", name := "_law_counts", qual := "_law_counts", params := defArgs s_law_counts, body := defBody s_law_counts, scope := defScope s_law_counts },
  { at_ := fun K => ga K "_law_size", name := "_law_size", qual := "_law_size", params := defArgs s_law_size, body := defBody s_law_size, scope := defScope s_law_size },
  { at_ := fun K => ga K "_law_world", name := "_law_world", qual := "_law_world", params := defArgs s_law_world, body := defBody s_law_world, scope := defScope s_law_world },
  { at_ := fun K => ga K "_law_bend_days", name := "_law_bend_days", qual := "_law_bend_days", params := defArgs s_law_bend_days, body := defBody s_law_bend_days, scope := defScope s_law_bend_days },
  { at_ := fun K => ga K "_law_int", name := "_law_int", qual := "_law_int", params := defArgs s_law_int, body := defBody s_law_int, scope := defScope s_law_int },
  { at_ := fun K => ga K "_law_ints", name := "_law_ints", qual := "_law_ints", params := defArgs s_law_ints, body := defBody s_law_ints, scope := defScope s_law_ints },
  { at_ := fun K => ga K "_law_same", name := "_law_same", qual := "_law_same", params := defArgs s_law_same, body := defBody s_law_same, scope := defScope s_law_same },
  { at_ := fun K => ga K "_law_plan_fits", name := "_law_plan_fits", qual := "_law_plan_fits", params := defArgs s_law_plan_fits, body := defBody s_law_plan_fits, scope := defScope s_law_plan_fits },
  { at_ := fun K => ga K "_law_first", name := "_law_first", qual := "_law_first", params := defArgs s_law_first, body := defBody s_law_first, scope := defScope s_law_first },
  { at_ := fun K => ga K "_law_house", name := "_law_house", qual := "_law_house", params := defArgs s_law_house, body := defBody s_law_house, scope := defScope s_law_house },
  { at_ := fun K => ga K "_law_large", name := "_law_large", qual := "_law_large", params := defArgs s_law_large, body := defBody s_law_large, scope := defScope s_law_large },
  { at_ := fun K => ga K "_law_mixed", name := "_law_mixed", qual := "_law_mixed", params := defArgs s_law_mixed, body := defBody s_law_mixed, scope := defScope s_law_mixed },
  { at_ := fun K => ga K "_law_due", name := "_law_due", qual := "_law_due", params := defArgs s_law_due, body := defBody s_law_due, scope := defScope s_law_due },
  { at_ := fun K => ga K "_law_made", name := "_law_made", qual := "_law_made", params := defArgs s_law_made, body := defBody s_law_made, scope := defScope s_law_made },
  { at_ := fun K => ga K "_law_spoiled", name := "_law_spoiled", qual := "_law_spoiled", params := defArgs s_law_spoiled, body := defBody s_law_spoiled, scope := defScope s_law_spoiled },
  { at_ := fun K => ga K "_law_order_fault", name := "_law_order_fault", qual := "_law_order_fault", params := defArgs s_law_order_fault, body := defBody s_law_order_fault, scope := defScope s_law_order_fault },
  { at_ := fun K => ga K "_law_try_plan", name := "_law_try_plan", qual := "_law_try_plan", params := defArgs s_law_try_plan, body := defBody s_law_try_plan, scope := defScope s_law_try_plan },
  { at_ := fun K => ga K "_law_try_counts", name := "_law_try_counts", qual := "_law_try_counts", params := defArgs s_law_try_counts, body := defBody s_law_try_counts, scope := defScope s_law_try_counts },
  { at_ := fun K => ga K "_law_base", name := "_law_base", qual := "_law_base", params := defArgs s_law_base, body := defBody s_law_base, scope := defScope s_law_base },
  { at_ := fun K => ga K "law", name := "law", qual := "law", params := defArgs s_law, body := defBody s_law, scope := defScope s_law }]
def er : List ErrD := [⟨"NoNight", e_NoNight, "NoNight.__init__", ["night"]⟩, ⟨"NoPerson", e_NoPerson, "NoPerson.__init__", ["person"]⟩, ⟨"NamedTwice", e_NamedTwice, "NamedTwice.__init__", ["person"]⟩, ⟨"BadNumber", e_BadNumber, "BadNumber.__init__", ["place", "number"]⟩, ⟨"TooLong", e_TooLong, "TooLong.__init__", ["count"]⟩, ⟨"WrongLength", e_WrongLength, "WrongLength.__init__", ["found", "wanted"]⟩, ⟨"BadRest", e_BadRest, "BadRest.__init__", ["rest"]⟩, ⟨"BadComing", e_BadComing, "BadComing.__init__", ["person", "coming"]⟩]
def bl (K : Frag) : List Bool := [
  (Fa.free "super").ok K,
  eqO (nsIn K cStatics "thirdparty.any") (some none),
  (Fa.free "len").ok K,
  (Fa.free "enumerate").ok K,
  (Fa.free "tuple").ok K,
  (Fa.free "sum").ok K,
  (Fa.free "abs").ok K,
  (Fa.free "int").ok K,
  (Fa.free "range").ok K,
  (Fa.free "isinstance").ok K,
  (Fa.free "bool").ok K,
  (Fa.free "str").ok K,
  (Fa.free "list").ok K,
  (Fa.free "max").ok K,
  (Fa.free "min").ok K,
  (Fa.free "iter").ok K,
  (Fa.free "ValueError").ok K,
  (Fa.free "sorted").ok K,
  (Fa.glo "check_count").ok K,
  (Fa.glo "check_number").ok K,
  (Fa.glo "check_numbers").ok K,
  (Fa.glo "check_rest").ok K,
  (Fa.glo "check_night").ok K,
  (Fa.glo "check_person").ok K,
  (Fa.glo "check_people").ok K,
  (Fa.glo "nights_with_room").ok K,
  (Fa.glo "counts_of").ok K,
  (Fa.glo "check_order").ok K,
  (Fa.glo "one_after_another").ok K,
  (Fa.glo "order_counts").ok K,
  (Fa.glo "_law_pool").ok K,
  (Fa.glo "_law_draw").ok K,
  (Fa.glo "_law_comings").ok K,
  (Fa.glo "_law_wants").ok K,
  (Fa.glo "_law_rows").ok K,
  (Fa.glo "_law_counts").ok K,
  (Fa.glo "_law_size").ok K,
  (Fa.glo "_law_world").ok K,
  (Fa.glo "_law_bend_days").ok K,
  (Fa.glo "_law_int").ok K,
  (Fa.glo "_law_ints").ok K,
  (Fa.glo "_law_same").ok K,
  (Fa.glo "_law_plan_fits").ok K,
  (Fa.glo "_law_first").ok K,
  (Fa.glo "_law_house").ok K,
  (Fa.glo "_law_large").ok K,
  (Fa.glo "_law_mixed").ok K,
  (Fa.glo "_law_due").ok K,
  (Fa.glo "_law_made").ok K,
  (Fa.glo "_law_spoiled").ok K,
  (Fa.glo "_law_order_fault").ok K,
  (Fa.glo "_law_try_plan").ok K,
  (Fa.glo "_law_try_counts").ok K,
  (Fa.glo "_law_base").ok K,
  (Fa.glo "law").ok K,
  (Fa.cls "House").ok K,
  (Fa.glo "House").ok K,
  (Fa.mkr "House").ok K,
  (Fa.noat "House" "wants").ok K,
  (Fa.noat "House" "comings").ok K,
  (Fa.noat "House" "rest").ok K,
  (Fa.cls "Wants").ok K,
  (Fa.glo "Wants").ok K,
  (Fa.mkr "Wants").ok K,
  (Fa.noat "Wants" "numbers").ok K,
  (Fa.cls "Plan").ok K,
  (Fa.glo "Plan").ok K,
  EF.clsB K (ga K "Plan"),
  (Fa.mkr "Plan").ok K,
  (Fa.noat "Plan" "rows").ok K,
  FB.creadB K (ga K "Wants"),
  FB.cintB K (ga K "Wants") "MOST" 60,
  FB.cintB K (ga K "Wants") "GREATEST" 30,
  (Fa.int "MOST_PEOPLE" 30).ok K,
  (Fa.int "GREATEST_REST" 60).ok K,
  FB.spB K (ga K "Wants") "__len__" (ma K (ga K "Wants") "__len__"),
  FB.spB K (ga K "Wants") "__iter__" (ma K (ga K "Wants") "__iter__"),
  FB.spB K (ga K "Plan") "__iter__" (ma K (ga K "Plan") "__iter__"),
  (Fa.meth "Plan" "nights_of").ok K,
  propB K (ga K "House") "nights",
  propB K (ga K "House") "people",
  (Fa.glo "NightsError").ok K,
  EF.excB K (ga K "NoPerson"),
  (Fa.noat "NoPerson" "person").ok K,
  EF.excB K (ga K "NamedTwice"),
  (Fa.noat "NamedTwice" "person").ok K,
  EF.excB K (ga K "WrongLength"),
  (Fa.noat "WrongLength" "found").ok K,
  (Fa.noat "WrongLength" "wanted").ok K,
  (Fa.exm "NoPerson" "NoPerson" true).ok K,
  (Fa.exm "NoPerson" "NamedTwice" false).ok K,
  decide (kitOne K (.ref (ga K "NoPerson")) (.ref (ga K "NamedTwice")) = some false),
  (Fa.exm "NoPerson" "WrongLength" false).ok K,
  decide (kitOne K (.ref (ga K "NoPerson")) (.ref (ga K "WrongLength")) = some false),
  (Fa.exm "NoPerson" "NightsError" true).ok K,
  decide (kitOne K (.ref (ga K "NoPerson")) (.ref (ga K "NightsError")) = some true),
  decide (kitOne K (.ref (ga K "NoPerson")) (.type "ValueError") = some true),
  (Fa.exm "NamedTwice" "NoPerson" false).ok K,
  decide (kitOne K (.ref (ga K "NamedTwice")) (.ref (ga K "NoPerson")) = some false),
  (Fa.exm "NamedTwice" "NamedTwice" true).ok K,
  (Fa.exm "NamedTwice" "WrongLength" false).ok K,
  decide (kitOne K (.ref (ga K "NamedTwice")) (.ref (ga K "WrongLength")) = some false),
  (Fa.exm "NamedTwice" "NightsError" true).ok K,
  decide (kitOne K (.ref (ga K "NamedTwice")) (.ref (ga K "NightsError")) = some true),
  decide (kitOne K (.ref (ga K "NamedTwice")) (.type "ValueError") = some true),
  (Fa.exm "WrongLength" "NoPerson" false).ok K,
  decide (kitOne K (.ref (ga K "WrongLength")) (.ref (ga K "NoPerson")) = some false),
  (Fa.exm "WrongLength" "NamedTwice" false).ok K,
  decide (kitOne K (.ref (ga K "WrongLength")) (.ref (ga K "NamedTwice")) = some false),
  (Fa.exm "WrongLength" "WrongLength" true).ok K,
  (Fa.exm "WrongLength" "NightsError" true).ok K,
  decide (kitOne K (.ref (ga K "WrongLength")) (.ref (ga K "NightsError")) = some true),
  decide (kitOne K (.ref (ga K "WrongLength")) (.type "ValueError") = some true),
  decide (kitOne K (.ref (ga K "Plan")) (.ref (ga K "Plan")) = some true)]
def bx (K : Frag) : Bool := (bl K).all fun b => b
theorem fact {K : Frag} (c : SaysX bx fn er "/claim/cut.py" K) (i : Nat) {b : Bool} (h : (bl K)[i]? = some b := by rfl) : b = true := List.all_eq_true.mp (SaysX.bool c) b (List.mem_of_getElem? h)
/-! ### where the defs stand, their names, their facts in one bundle -/
abbrev c_NightsError (K : Frag) : Addr := ga K "NightsError"
abbrev c_NoNight (K : Frag) : Addr := ga K "NoNight"
abbrev c_NoPerson (K : Frag) : Addr := ga K "NoPerson"
abbrev c_NamedTwice (K : Frag) : Addr := ga K "NamedTwice"
abbrev c_BadNumber (K : Frag) : Addr := ga K "BadNumber"
abbrev c_TooLong (K : Frag) : Addr := ga K "TooLong"
abbrev c_WrongLength (K : Frag) : Addr := ga K "WrongLength"
abbrev c_BadRest (K : Frag) : Addr := ga K "BadRest"
abbrev c_BadComing (K : Frag) : Addr := ga K "BadComing"
abbrev c_Plan (K : Frag) : Addr := ga K "Plan"
abbrev c_House (K : Frag) : Addr := ga K "House"
abbrev c_Wants (K : Frag) : Addr := ga K "Wants"
abbrev a_wall (K : Frag) : Addr := (fun K => ga K "_wall") K
abbrev a_check_count (K : Frag) : Addr := (fun K => ga K "check_count") K
abbrev a_check_number (K : Frag) : Addr := (fun K => ga K "check_number") K
abbrev a_check_numbers (K : Frag) : Addr := (fun K => ga K "check_numbers") K
abbrev a_check_not_negative (K : Frag) : Addr := (fun K => ga K "check_not_negative") K
abbrev a_check_rest (K : Frag) : Addr := (fun K => ga K "check_rest") K
abbrev a_check_night (K : Frag) : Addr := (fun K => ga K "check_night") K
abbrev a_check_person (K : Frag) : Addr := (fun K => ga K "check_person") K
abbrev a_check_people (K : Frag) : Addr := (fun K => ga K "check_people") K
abbrev a_nights_with_room (K : Frag) : Addr := (fun K => ga K "nights_with_room") K
abbrev a_Plan_init (K : Frag) : Addr := (fun K => ma K (ga K "Plan") "__init__") K
abbrev a_Plan_len (K : Frag) : Addr := (fun K => ma K (ga K "Plan") "__len__") K
abbrev a_Plan_iter (K : Frag) : Addr := (fun K => ma K (ga K "Plan") "__iter__") K
abbrev a_Plan_getitem (K : Frag) : Addr := (fun K => ma K (ga K "Plan") "__getitem__") K
abbrev a_Plan_neg (K : Frag) : Addr := (fun K => ma K (ga K "Plan") "__neg__") K
abbrev a_Plan_add (K : Frag) : Addr := (fun K => ma K (ga K "Plan") "__add__") K
abbrev a_Plan_nights_of (K : Frag) : Addr := (fun K => ma K (ga K "Plan") "nights_of") K
abbrev a_counts_of (K : Frag) : Addr := (fun K => ga K "counts_of") K
abbrev a_check_order (K : Frag) : Addr := (fun K => ga K "check_order") K
abbrev a_one_after_another (K : Frag) : Addr := (fun K => ga K "one_after_another") K
abbrev a_order_counts (K : Frag) : Addr := (fun K => ga K "order_counts") K
abbrev a_House_init (K : Frag) : Addr := (fun K => ma K (ga K "House") "__init__") K
abbrev a_House_all_there (K : Frag) : Addr := (fun K => wf K (ga K "House") "classmethod" "all_there") K
abbrev a_House_nights (K : Frag) : Addr := (fun K => propAt K (ga K "House") "nights") K
abbrev a_House_people (K : Frag) : Addr := (fun K => propAt K (ga K "House") "people") K
abbrev a_House_whole (K : Frag) : Addr := (fun K => propAt K (ga K "House") "whole") K
abbrev a_House_changed (K : Frag) : Addr := (fun K => ma K (ga K "House") "changed") K
abbrev a_House_here (K : Frag) : Addr := (fun K => ma K (ga K "House") "here") K
abbrev a_House_stretch (K : Frag) : Addr := (fun K => ma K (ga K "House") "stretch") K
abbrev a_Wants_init (K : Frag) : Addr := (fun K => ma K (ga K "Wants") "__init__") K
abbrev a_Wants_of (K : Frag) : Addr := (fun K => wf K (ga K "Wants") "classmethod" "of") K
abbrev a_Wants_len (K : Frag) : Addr := (fun K => ma K (ga K "Wants") "__len__") K
abbrev a_Wants_iter (K : Frag) : Addr := (fun K => ma K (ga K "Wants") "__iter__") K
abbrev a_Wants_getitem (K : Frag) : Addr := (fun K => ma K (ga K "Wants") "__getitem__") K
abbrev a_Wants_add (K : Frag) : Addr := (fun K => ma K (ga K "Wants") "__add__") K
abbrev a_Wants_mul (K : Frag) : Addr := (fun K => ma K (ga K "Wants") "__mul__") K
abbrev a_Wants_rmul (K : Frag) : Addr := (fun K => ma K (ga K "Wants") "__rmul__") K
abbrev a_Wants_lshift (K : Frag) : Addr := (fun K => ma K (ga K "Wants") "__lshift__") K
abbrev a_Wants_rshift (K : Frag) : Addr := (fun K => ma K (ga K "Wants") "__rshift__") K
abbrev a_Wants_neg (K : Frag) : Addr := (fun K => ma K (ga K "Wants") "__neg__") K
abbrev a_Wants_abs (K : Frag) : Addr := (fun K => ma K (ga K "Wants") "__abs__") K
abbrev a_law_pool (K : Frag) : Addr := (fun K => ga K "_law_pool") K
abbrev a_law_draw (K : Frag) : Addr := (fun K => ga K "_law_draw") K
abbrev a_law_comings (K : Frag) : Addr := (fun K => ga K "_law_comings") K
abbrev a_law_wants (K : Frag) : Addr := (fun K => ga K "_law_wants") K
abbrev a_law_rows (K : Frag) : Addr := (fun K => ga K "_law_rows") K
abbrev a_law_counts (K : Frag) : Addr := (fun K => ga K "_law_counts") K
abbrev a_law_size (K : Frag) : Addr := (fun K => ga K "_law_size") K
abbrev a_law_world (K : Frag) : Addr := (fun K => ga K "_law_world") K
abbrev a_law_bend_days (K : Frag) : Addr := (fun K => ga K "_law_bend_days") K
abbrev a_law_int (K : Frag) : Addr := (fun K => ga K "_law_int") K
abbrev a_law_ints (K : Frag) : Addr := (fun K => ga K "_law_ints") K
abbrev a_law_same (K : Frag) : Addr := (fun K => ga K "_law_same") K
abbrev a_law_plan_fits (K : Frag) : Addr := (fun K => ga K "_law_plan_fits") K
abbrev a_law_first (K : Frag) : Addr := (fun K => ga K "_law_first") K
abbrev a_law_house (K : Frag) : Addr := (fun K => ga K "_law_house") K
abbrev a_law_large (K : Frag) : Addr := (fun K => ga K "_law_large") K
abbrev a_law_mixed (K : Frag) : Addr := (fun K => ga K "_law_mixed") K
abbrev a_law_due (K : Frag) : Addr := (fun K => ga K "_law_due") K
abbrev a_law_made (K : Frag) : Addr := (fun K => ga K "_law_made") K
abbrev a_law_spoiled (K : Frag) : Addr := (fun K => ga K "_law_spoiled") K
abbrev a_law_order_fault (K : Frag) : Addr := (fun K => ga K "_law_order_fault") K
abbrev a_law_try_plan (K : Frag) : Addr := (fun K => ga K "_law_try_plan") K
abbrev a_law_try_counts (K : Frag) : Addr := (fun K => ga K "_law_try_counts") K
abbrev a_law_base (K : Frag) : Addr := (fun K => ga K "_law_base") K
abbrev a_law (K : Frag) : Addr := (fun K => ga K "law") K
abbrev i_NoNight (K : Frag) : Addr := ma K (ga K "NoNight") "__init__"
abbrev i_NoPerson (K : Frag) : Addr := ma K (ga K "NoPerson") "__init__"
abbrev i_NamedTwice (K : Frag) : Addr := ma K (ga K "NamedTwice") "__init__"
abbrev i_BadNumber (K : Frag) : Addr := ma K (ga K "BadNumber") "__init__"
abbrev i_TooLong (K : Frag) : Addr := ma K (ga K "TooLong") "__init__"
abbrev i_WrongLength (K : Frag) : Addr := ma K (ga K "WrongLength") "__init__"
abbrev i_BadRest (K : Frag) : Addr := ma K (ga K "BadRest") "__init__"
abbrev i_BadComing (K : Frag) : Addr := ma K (ga K "BadComing") "__init__"
abbrev n_wall : List Str := ["k"]
abbrev p_wall : List Str := ["k"]
theorem sc_wall : FnScope n_wall p_wall (defScope s_wall) := ⟨rfl, rfl, rfl, by decide +kernel, rfl, by decide +kernel, by decide +kernel⟩
abbrev n_check_count : List Str := ["count", "most"]
abbrev p_check_count : List Str := ["count", "most"]
theorem sc_check_count : FnScope n_check_count p_check_count (defScope s_check_count) := ⟨rfl, rfl, rfl, by decide +kernel, rfl, by decide +kernel, by decide +kernel⟩
abbrev n_check_number : List Str := ["place", "number", "greatest"]
abbrev p_check_number : List Str := ["place", "number", "greatest"]
theorem sc_check_number : FnScope n_check_number p_check_number (defScope s_check_number) := ⟨rfl, rfl, rfl, by decide +kernel, rfl, by decide +kernel, by decide +kernel⟩
abbrev n_check_numbers : List Str := ["numbers", "greatest", "index", "number"]
abbrev p_check_numbers : List Str := ["numbers", "greatest"]
theorem sc_check_numbers : FnScope n_check_numbers p_check_numbers (defScope s_check_numbers) := ⟨rfl, rfl, rfl, by decide +kernel, rfl, by decide +kernel, by decide +kernel⟩
abbrev n_check_not_negative : List Str := ["number"]
abbrev p_check_not_negative : List Str := ["number"]
theorem sc_check_not_negative : FnScope n_check_not_negative p_check_not_negative (defScope s_check_not_negative) := ⟨rfl, rfl, rfl, by decide +kernel, rfl, by decide +kernel, by decide +kernel⟩
abbrev n_check_rest : List Str := ["rest"]
abbrev p_check_rest : List Str := ["rest"]
theorem sc_check_rest : FnScope n_check_rest p_check_rest (defScope s_check_rest) := ⟨rfl, rfl, rfl, by decide +kernel, rfl, by decide +kernel, by decide +kernel⟩
abbrev n_check_night : List Str := ["night", "nights"]
abbrev p_check_night : List Str := ["night", "nights"]
theorem sc_check_night : FnScope n_check_night p_check_night (defScope s_check_night) := ⟨rfl, rfl, rfl, by decide +kernel, rfl, by decide +kernel, by decide +kernel⟩
abbrev n_check_person : List Str := ["house", "person"]
abbrev p_check_person : List Str := ["house", "person"]
theorem sc_check_person : FnScope n_check_person p_check_person (defScope s_check_person) := ⟨rfl, rfl, rfl, by decide +kernel, rfl, by decide +kernel, by decide +kernel⟩
abbrev n_check_people : List Str := ["house", "people", "index", "person"]
abbrev p_check_people : List Str := ["house", "people"]
theorem sc_check_people : FnScope n_check_people p_check_people (defScope s_check_people) := ⟨rfl, rfl, rfl, by decide +kernel, rfl, by decide +kernel, by decide +kernel⟩
abbrev n_nights_with_room : List Str := ["house", "room", "person", "nights", "night", "rested"]
abbrev p_nights_with_room : List Str := ["house", "room", "person"]
theorem sc_nights_with_room : FnScope n_nights_with_room p_nights_with_room (defScope s_nights_with_room) := ⟨rfl, rfl, rfl, by decide +kernel, rfl, by decide +kernel, by decide +kernel⟩
abbrev n_Plan_init : List Str := ["self", "rows", "row"]
abbrev p_Plan_init : List Str := ["self", "rows"]
theorem sc_Plan_init : FnScope n_Plan_init p_Plan_init (defScope s_Plan_init) := ⟨rfl, rfl, rfl, by decide +kernel, rfl, by decide +kernel, by decide +kernel⟩
abbrev n_Plan_len : List Str := ["self"]
abbrev p_Plan_len : List Str := ["self"]
theorem sc_Plan_len : FnScope n_Plan_len p_Plan_len (defScope s_Plan_len) := ⟨rfl, rfl, rfl, by decide +kernel, rfl, by decide +kernel, by decide +kernel⟩
abbrev n_Plan_iter : List Str := ["self"]
abbrev p_Plan_iter : List Str := ["self"]
theorem sc_Plan_iter : FnScope n_Plan_iter p_Plan_iter (defScope s_Plan_iter) := ⟨rfl, rfl, rfl, by decide +kernel, rfl, by decide +kernel, by decide +kernel⟩
abbrev n_Plan_getitem : List Str := ["self", "at"]
abbrev p_Plan_getitem : List Str := ["self", "at"]
theorem sc_Plan_getitem : FnScope n_Plan_getitem p_Plan_getitem (defScope s_Plan_getitem) := ⟨rfl, rfl, rfl, by decide +kernel, rfl, by decide +kernel, by decide +kernel⟩
abbrev n_Plan_neg : List Str := ["self"]
abbrev p_Plan_neg : List Str := ["self"]
theorem sc_Plan_neg : FnScope n_Plan_neg p_Plan_neg (defScope s_Plan_neg) := ⟨rfl, rfl, rfl, by decide +kernel, rfl, by decide +kernel, by decide +kernel⟩
abbrev n_Plan_add : List Str := ["self", "other"]
abbrev p_Plan_add : List Str := ["self", "other"]
theorem sc_Plan_add : FnScope n_Plan_add p_Plan_add (defScope s_Plan_add) := ⟨rfl, rfl, rfl, by decide +kernel, rfl, by decide +kernel, by decide +kernel⟩
abbrev n_Plan_nights_of : List Str := ["self", "person", "night", "row"]
abbrev p_Plan_nights_of : List Str := ["self", "person"]
theorem sc_Plan_nights_of : FnScope n_Plan_nights_of p_Plan_nights_of (defScope s_Plan_nights_of) := ⟨rfl, rfl, rfl, by decide +kernel, rfl, by decide +kernel, by decide +kernel⟩
abbrev n_counts_of : List Str := ["house", "plan", "person"]
abbrev p_counts_of : List Str := ["house", "plan"]
theorem sc_counts_of : FnScope n_counts_of p_counts_of (defScope s_counts_of) := ⟨rfl, rfl, rfl, by decide +kernel, rfl, by decide +kernel, by decide +kernel⟩
abbrev n_check_order : List Str := ["house", "order"]
abbrev p_check_order : List Str := ["house", "order"]
theorem sc_check_order : FnScope n_check_order p_check_order (defScope s_check_order) := ⟨rfl, rfl, rfl, by decide +kernel, rfl, by decide +kernel, by decide +kernel⟩
abbrev n_one_after_another : List Str := ["house", "order", "rows", "_", "room", "person", "nights", "night", "row"]
abbrev p_one_after_another : List Str := ["house", "order"]
theorem sc_one_after_another : FnScope n_one_after_another p_one_after_another (defScope s_one_after_another) := ⟨rfl, rfl, rfl, by decide +kernel, rfl, by decide +kernel, by decide +kernel⟩
abbrev n_order_counts : List Str := ["house", "order"]
abbrev p_order_counts : List Str := ["house", "order"]
theorem sc_order_counts : FnScope n_order_counts p_order_counts (defScope s_order_counts) := ⟨rfl, rfl, rfl, by decide +kernel, rfl, by decide +kernel, by decide +kernel⟩
abbrev n_House_init : List Str := ["self", "wants", "comings", "rest", "person", "coming"]
abbrev p_House_init : List Str := ["self", "wants", "comings", "rest"]
theorem sc_House_init : FnScope n_House_init p_House_init (defScope s_House_init) := ⟨rfl, rfl, rfl, by decide +kernel, rfl, by decide +kernel, by decide +kernel⟩
abbrev n_House_all_there : List Str := ["cls", "wants", "people", "rest"]
abbrev p_House_all_there : List Str := ["cls", "wants", "people", "rest"]
theorem sc_House_all_there : FnScope n_House_all_there p_House_all_there (defScope s_House_all_there) := ⟨rfl, rfl, rfl, by decide +kernel, rfl, by decide +kernel, by decide +kernel⟩
abbrev n_House_nights : List Str := ["self"]
abbrev p_House_nights : List Str := ["self"]
theorem sc_House_nights : FnScope n_House_nights p_House_nights (defScope s_House_nights) := ⟨rfl, rfl, rfl, by decide +kernel, rfl, by decide +kernel, by decide +kernel⟩
abbrev n_House_people : List Str := ["self"]
abbrev p_House_people : List Str := ["self"]
theorem sc_House_people : FnScope n_House_people p_House_people (defScope s_House_people) := ⟨rfl, rfl, rfl, by decide +kernel, rfl, by decide +kernel, by decide +kernel⟩
abbrev n_House_whole : List Str := ["self"]
abbrev p_House_whole : List Str := ["self"]
theorem sc_House_whole : FnScope n_House_whole p_House_whole (defScope s_House_whole) := ⟨rfl, rfl, rfl, by decide +kernel, rfl, by decide +kernel, by decide +kernel⟩
abbrev n_House_changed : List Str := ["self", "wants", "comings", "rest", "new_wants", "new_comings", "new_rest"]
abbrev p_House_changed : List Str := ["self", "wants", "comings", "rest"]
theorem sc_House_changed : FnScope n_House_changed p_House_changed (defScope s_House_changed) := ⟨rfl, rfl, rfl, by decide +kernel, rfl, by decide +kernel, by decide +kernel⟩
abbrev n_House_here : List Str := ["self", "night", "person", "coming"]
abbrev p_House_here : List Str := ["self", "night"]
theorem sc_House_here : FnScope n_House_here p_House_here (defScope s_House_here) := ⟨rfl, rfl, rfl, by decide +kernel, rfl, by decide +kernel, by decide +kernel⟩
abbrev n_House_stretch : List Str := ["self", "end"]
abbrev p_House_stretch : List Str := ["self", "end"]
theorem sc_House_stretch : FnScope n_House_stretch p_House_stretch (defScope s_House_stretch) := ⟨rfl, rfl, rfl, by decide +kernel, rfl, by decide +kernel, by decide +kernel⟩
abbrev n_Wants_init : List Str := ["self", "numbers"]
abbrev p_Wants_init : List Str := ["self", "numbers"]
theorem sc_Wants_init : FnScope n_Wants_init p_Wants_init (defScope s_Wants_init) := ⟨rfl, rfl, rfl, by decide +kernel, rfl, by decide +kernel, by decide +kernel⟩
abbrev n_Wants_of : List Str := ["cls", "times", "numbers"]
abbrev p_Wants_of : List Str := ["cls", "times", "numbers"]
theorem sc_Wants_of : FnScope n_Wants_of p_Wants_of (defScope s_Wants_of) := ⟨rfl, rfl, rfl, by decide +kernel, rfl, by decide +kernel, by decide +kernel⟩
abbrev n_Wants_len : List Str := ["self"]
abbrev p_Wants_len : List Str := ["self"]
theorem sc_Wants_len : FnScope n_Wants_len p_Wants_len (defScope s_Wants_len) := ⟨rfl, rfl, rfl, by decide +kernel, rfl, by decide +kernel, by decide +kernel⟩
abbrev n_Wants_iter : List Str := ["self"]
abbrev p_Wants_iter : List Str := ["self"]
theorem sc_Wants_iter : FnScope n_Wants_iter p_Wants_iter (defScope s_Wants_iter) := ⟨rfl, rfl, rfl, by decide +kernel, rfl, by decide +kernel, by decide +kernel⟩
abbrev n_Wants_getitem : List Str := ["self", "at"]
abbrev p_Wants_getitem : List Str := ["self", "at"]
theorem sc_Wants_getitem : FnScope n_Wants_getitem p_Wants_getitem (defScope s_Wants_getitem) := ⟨rfl, rfl, rfl, by decide +kernel, rfl, by decide +kernel, by decide +kernel⟩
abbrev n_Wants_add : List Str := ["self", "other"]
abbrev p_Wants_add : List Str := ["self", "other"]
theorem sc_Wants_add : FnScope n_Wants_add p_Wants_add (defScope s_Wants_add) := ⟨rfl, rfl, rfl, by decide +kernel, rfl, by decide +kernel, by decide +kernel⟩
abbrev n_Wants_mul : List Str := ["self", "other", "nights"]
abbrev p_Wants_mul : List Str := ["self", "other"]
theorem sc_Wants_mul : FnScope n_Wants_mul p_Wants_mul (defScope s_Wants_mul) := ⟨rfl, rfl, rfl, by decide +kernel, rfl, by decide +kernel, by decide +kernel⟩
abbrev n_Wants_rmul : List Str := ["self", "other"]
abbrev p_Wants_rmul : List Str := ["self", "other"]
theorem sc_Wants_rmul : FnScope n_Wants_rmul p_Wants_rmul (defScope s_Wants_rmul) := ⟨rfl, rfl, rfl, by decide +kernel, rfl, by decide +kernel, by decide +kernel⟩
abbrev n_Wants_lshift : List Str := ["self", "other"]
abbrev p_Wants_lshift : List Str := ["self", "other"]
theorem sc_Wants_lshift : FnScope n_Wants_lshift p_Wants_lshift (defScope s_Wants_lshift) := ⟨rfl, rfl, rfl, by decide +kernel, rfl, by decide +kernel, by decide +kernel⟩
abbrev n_Wants_rshift : List Str := ["self", "other"]
abbrev p_Wants_rshift : List Str := ["self", "other"]
theorem sc_Wants_rshift : FnScope n_Wants_rshift p_Wants_rshift (defScope s_Wants_rshift) := ⟨rfl, rfl, rfl, by decide +kernel, rfl, by decide +kernel, by decide +kernel⟩
abbrev n_Wants_neg : List Str := ["self"]
abbrev p_Wants_neg : List Str := ["self"]
theorem sc_Wants_neg : FnScope n_Wants_neg p_Wants_neg (defScope s_Wants_neg) := ⟨rfl, rfl, rfl, by decide +kernel, rfl, by decide +kernel, by decide +kernel⟩
abbrev n_Wants_abs : List Str := ["self"]
abbrev p_Wants_abs : List Str := ["self"]
theorem sc_Wants_abs : FnScope n_Wants_abs p_Wants_abs (defScope s_Wants_abs) := ⟨rfl, rfl, rfl, by decide +kernel, rfl, by decide +kernel, by decide +kernel⟩
abbrev n_law_pool : List Str := ["script", "at", "cell"]
abbrev p_law_pool : List Str := ["script", "at"]
theorem sc_law_pool : FnScope n_law_pool p_law_pool (defScope s_law_pool) := ⟨rfl, rfl, rfl, by decide +kernel, rfl, by decide +kernel, by decide +kernel⟩
abbrev n_law_draw : List Str := ["pool", "many", "value", "mixed"]
abbrev p_law_draw : List Str := ["pool", "many"]
theorem sc_law_draw : FnScope n_law_draw p_law_draw (defScope s_law_draw) := ⟨rfl, rfl, rfl, by decide +kernel, rfl, by decide +kernel, by decide +kernel⟩
abbrev n_law_comings : List Str := ["pool", "people", "nights", "comings", "person", "night"]
abbrev p_law_comings : List Str := ["pool", "people", "nights"]
theorem sc_law_comings : FnScope n_law_comings p_law_comings (defScope s_law_comings) := ⟨rfl, rfl, rfl, by decide +kernel, rfl, by decide +kernel, by decide +kernel⟩
abbrev n_law_wants : List Str := ["pool", "nights", "most", "night"]
abbrev p_law_wants : List Str := ["pool", "nights", "most"]
theorem sc_law_wants : FnScope n_law_wants p_law_wants (defScope s_law_wants) := ⟨rfl, rfl, rfl, by decide +kernel, rfl, by decide +kernel, by decide +kernel⟩
abbrev n_law_rows : List Str := ["pool", "nights", "comings", "gap", "keen", "rows", "again", "night", "row", "person"]
abbrev p_law_rows : List Str := ["pool", "nights", "comings", "gap", "keen"]
theorem sc_law_rows : FnScope n_law_rows p_law_rows (defScope s_law_rows) := ⟨rfl, rfl, rfl, by decide +kernel, rfl, by decide +kernel, by decide +kernel⟩
abbrev n_law_counts : List Str := ["rows", "people", "person", "night"]
abbrev p_law_counts : List Str := ["rows", "people"]
theorem sc_law_counts : FnScope n_law_counts p_law_counts (defScope s_law_counts) := ⟨rfl, rfl, rfl, by decide +kernel, rfl, by decide +kernel, by decide +kernel⟩
abbrev n_law_size : List Str := ["pool", "most"]
abbrev p_law_size : List Str := ["pool", "most"]
theorem sc_law_size : FnScope n_law_size p_law_size (defScope s_law_size) := ⟨rfl, rfl, rfl, by decide +kernel, rfl, by decide +kernel, by decide +kernel⟩
abbrev n_law_world : List Str := ["pool", "most_nights", "most_people", "most_gap", "nights", "people", "gap", "starts", "rows", "days", "row"]
abbrev p_law_world : List Str := ["pool", "most_nights", "most_people", "most_gap"]
theorem sc_law_world : FnScope n_law_world p_law_world (defScope s_law_world) := ⟨rfl, rfl, rfl, by decide +kernel, rfl, by decide +kernel, by decide +kernel⟩
abbrev n_law_bend_days : List Str := ["pool", "days", "bent", "place"]
abbrev p_law_bend_days : List Str := ["pool", "days"]
theorem sc_law_bend_days : FnScope n_law_bend_days p_law_bend_days (defScope s_law_bend_days) := ⟨rfl, rfl, rfl, by decide +kernel, rfl, by decide +kernel, by decide +kernel⟩
abbrev n_law_int : List Str := ["x"]
abbrev p_law_int : List Str := ["x"]
theorem sc_law_int : FnScope n_law_int p_law_int (defScope s_law_int) := ⟨rfl, rfl, rfl, by decide +kernel, rfl, by decide +kernel, by decide +kernel⟩
abbrev n_law_ints : List Str := ["xs", "x"]
abbrev p_law_ints : List Str := ["xs"]
theorem sc_law_ints : FnScope n_law_ints p_law_ints (defScope s_law_ints) := ⟨rfl, rfl, rfl, by decide +kernel, rfl, by decide +kernel, by decide +kernel⟩
abbrev n_law_same : List Str := ["got", "due", "place"]
abbrev p_law_same : List Str := ["got", "due"]
theorem sc_law_same : FnScope n_law_same p_law_same (defScope s_law_same) := ⟨rfl, rfl, rfl, by decide +kernel, rfl, by decide +kernel, by decide +kernel⟩
abbrev n_law_plan_fits : List Str := ["rows", "days", "starts", "gap", "brief", "last", "place", "row", "person"]
abbrev p_law_plan_fits : List Str := ["rows", "days", "starts", "gap", "brief"]
theorem sc_law_plan_fits : FnScope n_law_plan_fits p_law_plan_fits (defScope s_law_plan_fits) := ⟨rfl, rfl, rfl, by decide +kernel, rfl, by decide +kernel, by decide +kernel⟩
abbrev n_law_first : List Str := ["days", "starts", "gap", "people", "row", "place", "here", "person"]
abbrev p_law_first : List Str := ["days", "starts", "gap", "people"]
theorem sc_law_first : FnScope n_law_first p_law_first (defScope s_law_first) := ⟨rfl, rfl, rfl, by decide +kernel, rfl, by decide +kernel, by decide +kernel⟩
abbrev n_law_house : List Str := ["pool", "most_nights", "most_people", "most_gap", "world", "days", "rows", "place"]
abbrev p_law_house : List Str := ["pool", "most_nights", "most_people", "most_gap"]
theorem sc_law_house : FnScope n_law_house p_law_house (defScope s_law_house) := ⟨rfl, rfl, rfl, by decide +kernel, rfl, by decide +kernel, by decide +kernel⟩
abbrev n_law_large : List Str := ["pool", "nights", "gap", "days"]
abbrev p_law_large : List Str := ["pool"]
theorem sc_law_large : FnScope n_law_large p_law_large (defScope s_law_large) := ⟨rfl, rfl, rfl, by decide +kernel, rfl, by decide +kernel, by decide +kernel⟩
abbrev n_law_mixed : List Str := ["pool", "members", "left", "mixed", "turn", "place"]
abbrev p_law_mixed : List Str := ["pool", "members"]
theorem sc_law_mixed : FnScope n_law_mixed p_law_mixed (defScope s_law_mixed) := ⟨rfl, rfl, rfl, by decide +kernel, rfl, by decide +kernel, by decide +kernel⟩
abbrev n_law_due : List Str := ["parts", "order", "days", "rows", "day", "before", "place", "after", "night", "row", "person"]
abbrev p_law_due : List Str := ["parts", "order"]
theorem sc_law_due : FnScope n_law_due p_law_due (defScope s_law_due) := ⟨rfl, rfl, rfl, by decide +kernel, rfl, by decide +kernel, by decide +kernel⟩
abbrev n_law_made : List Str := ["house", "parts", "order", "kept", "rows", "due", "person", "row", "plan", "found"]
abbrev p_law_made : List Str := ["house", "parts", "order"]
theorem sc_law_made : FnScope n_law_made p_law_made (defScope s_law_made) := ⟨rfl, rfl, rfl, by decide +kernel, rfl, by decide +kernel, by decide +kernel⟩
abbrev n_law_spoiled : List Str := ["pool", "order", "many", "way", "bad", "strange", "place"]
abbrev p_law_spoiled : List Str := ["pool", "order", "many"]
theorem sc_law_spoiled : FnScope n_law_spoiled p_law_spoiled (defScope s_law_spoiled) := ⟨rfl, rfl, rfl, by decide +kernel, rfl, by decide +kernel, by decide +kernel⟩
abbrev n_law_order_fault : List Str := ["order", "many", "place"]
abbrev p_law_order_fault : List Str := ["order", "many"]
theorem sc_law_order_fault : FnScope n_law_order_fault p_law_order_fault (defScope s_law_order_fault) := ⟨rfl, rfl, rfl, by decide +kernel, rfl, by decide +kernel, by decide +kernel⟩
abbrev n_law_try_plan : List Str := ["house", "order", "word", "e"]
abbrev p_law_try_plan : List Str := ["house", "order"]
theorem sc_law_try_plan : FnScope n_law_try_plan p_law_try_plan (defScope s_law_try_plan) := ⟨rfl, rfl, rfl, by decide +kernel, rfl, by decide +kernel, by decide +kernel⟩
abbrev n_law_try_counts : List Str := ["house", "order", "word", "e"]
abbrev p_law_try_counts : List Str := ["house", "order"]
theorem sc_law_try_counts : FnScope n_law_try_counts p_law_try_counts (defScope s_law_try_counts) := ⟨rfl, rfl, rfl, by decide +kernel, rfl, by decide +kernel, by decide +kernel⟩
abbrev n_law_base : List Str := ["house", "order", "word", "e"]
abbrev p_law_base : List Str := ["house", "order"]
theorem sc_law_base : FnScope n_law_base p_law_base (defScope s_law_base) := ⟨rfl, rfl, rfl, by decide +kernel, rfl, by decide +kernel, by decide +kernel⟩
abbrev n_law : List Str := ["script", "pool", "parts", "house", "many", "first", "second", "one", "bad", "due"]
abbrev p_law : List Str := ["script"]
theorem sc_law : FnScope n_law p_law (defScope s_law) := ⟨rfl, rfl, rfl, by decide +kernel, rfl, by decide +kernel, by decide +kernel⟩
theorem bi_wall {K : Frag} {fd : FuncData} (F : FunD K "_wall" "_wall" (defArgs s_wall) (defBody s_wall) (defScope s_wall) [] [] (a_wall K) fd) : Binds K fd p_wall [] := F.bindsN fun _ _ _ _ _ _ us hl => (match us, hl with | [_], _ => rfl)
theorem bi_check_count {K : Frag} {fd : FuncData} (F : FunD K "check_count" "check_count" (defArgs s_check_count) (defBody s_check_count) (defScope s_check_count) [] [] (a_check_count K) fd) : Binds K fd p_check_count [] := F.bindsN fun _ _ _ _ _ _ us hl => (match us, hl with | [_, _], _ => rfl)
theorem bi_check_number {K : Frag} {fd : FuncData} (F : FunD K "check_number" "check_number" (defArgs s_check_number) (defBody s_check_number) (defScope s_check_number) [] [] (a_check_number K) fd) : Binds K fd p_check_number [] := F.bindsN fun _ _ _ _ _ _ us hl => (match us, hl with | [_, _, _], _ => rfl)
theorem bi_check_numbers {K : Frag} {fd : FuncData} (F : FunD K "check_numbers" "check_numbers" (defArgs s_check_numbers) (defBody s_check_numbers) (defScope s_check_numbers) [] [] (a_check_numbers K) fd) : Binds K fd p_check_numbers [] := F.bindsN fun _ _ _ _ _ _ us hl => (match us, hl with | [_, _], _ => rfl)
theorem bi_check_not_negative {K : Frag} {fd : FuncData} (F : FunD K "check_not_negative" "check_not_negative" (defArgs s_check_not_negative) (defBody s_check_not_negative) (defScope s_check_not_negative) [] [] (a_check_not_negative K) fd) : Binds K fd p_check_not_negative [] := F.bindsN fun _ _ _ _ _ _ us hl => (match us, hl with | [_], _ => rfl)
theorem bi_check_rest {K : Frag} {fd : FuncData} (F : FunD K "check_rest" "check_rest" (defArgs s_check_rest) (defBody s_check_rest) (defScope s_check_rest) [] [] (a_check_rest K) fd) : Binds K fd p_check_rest [] := F.bindsN fun _ _ _ _ _ _ us hl => (match us, hl with | [_], _ => rfl)
theorem bi_check_night {K : Frag} {fd : FuncData} (F : FunD K "check_night" "check_night" (defArgs s_check_night) (defBody s_check_night) (defScope s_check_night) [] [] (a_check_night K) fd) : Binds K fd p_check_night [] := F.bindsN fun _ _ _ _ _ _ us hl => (match us, hl with | [_, _], _ => rfl)
theorem bi_check_person {K : Frag} {fd : FuncData} (F : FunD K "check_person" "check_person" (defArgs s_check_person) (defBody s_check_person) (defScope s_check_person) [] [] (a_check_person K) fd) : Binds K fd p_check_person [] := F.bindsN fun _ _ _ _ _ _ us hl => (match us, hl with | [_, _], _ => rfl)
theorem bi_check_people {K : Frag} {fd : FuncData} (F : FunD K "check_people" "check_people" (defArgs s_check_people) (defBody s_check_people) (defScope s_check_people) [] [] (a_check_people K) fd) : Binds K fd p_check_people [] := F.bindsN fun _ _ _ _ _ _ us hl => (match us, hl with | [_, _], _ => rfl)
theorem bi_nights_with_room {K : Frag} {fd : FuncData} (F : FunD K "nights_with_room" "nights_with_room" (defArgs s_nights_with_room) (defBody s_nights_with_room) (defScope s_nights_with_room) [] [] (a_nights_with_room K) fd) : Binds K fd p_nights_with_room [] := F.bindsN fun _ _ _ _ _ _ us hl => (match us, hl with | [_, _, _], _ => rfl)
theorem bi_Plan_init {K : Frag} {fd : FuncData} (F : FunD K "__init__" "Plan.__init__" (defArgs s_Plan_init) (defBody s_Plan_init) (defScope s_Plan_init) [] [] (a_Plan_init K) fd) : Binds K fd p_Plan_init [] := F.bindsN fun _ _ _ _ _ _ us hl => (match us, hl with | [_, _], _ => rfl)
theorem bi_Plan_len {K : Frag} {fd : FuncData} (F : FunD K "__len__" "Plan.__len__" (defArgs s_Plan_len) (defBody s_Plan_len) (defScope s_Plan_len) [] [] (a_Plan_len K) fd) : Binds K fd p_Plan_len [] := F.bindsN fun _ _ _ _ _ _ us hl => (match us, hl with | [_], _ => rfl)
theorem bi_Plan_iter {K : Frag} {fd : FuncData} (F : FunD K "__iter__" "Plan.__iter__" (defArgs s_Plan_iter) (defBody s_Plan_iter) (defScope s_Plan_iter) [] [] (a_Plan_iter K) fd) : Binds K fd p_Plan_iter [] := F.bindsN fun _ _ _ _ _ _ us hl => (match us, hl with | [_], _ => rfl)
theorem bi_Plan_getitem {K : Frag} {fd : FuncData} (F : FunD K "__getitem__" "Plan.__getitem__" (defArgs s_Plan_getitem) (defBody s_Plan_getitem) (defScope s_Plan_getitem) [] [] (a_Plan_getitem K) fd) : Binds K fd p_Plan_getitem [] := F.bindsN fun _ _ _ _ _ _ us hl => (match us, hl with | [_, _], _ => rfl)
theorem bi_Plan_neg {K : Frag} {fd : FuncData} (F : FunD K "__neg__" "Plan.__neg__" (defArgs s_Plan_neg) (defBody s_Plan_neg) (defScope s_Plan_neg) [] [] (a_Plan_neg K) fd) : Binds K fd p_Plan_neg [] := F.bindsN fun _ _ _ _ _ _ us hl => (match us, hl with | [_], _ => rfl)
theorem bi_Plan_add {K : Frag} {fd : FuncData} (F : FunD K "__add__" "Plan.__add__" (defArgs s_Plan_add) (defBody s_Plan_add) (defScope s_Plan_add) [] [] (a_Plan_add K) fd) : Binds K fd p_Plan_add [] := F.bindsN fun _ _ _ _ _ _ us hl => (match us, hl with | [_, _], _ => rfl)
theorem bi_Plan_nights_of {K : Frag} {fd : FuncData} (F : FunD K "nights_of" "Plan.nights_of" (defArgs s_Plan_nights_of) (defBody s_Plan_nights_of) (defScope s_Plan_nights_of) [] [] (a_Plan_nights_of K) fd) : Binds K fd p_Plan_nights_of [] := F.bindsN fun _ _ _ _ _ _ us hl => (match us, hl with | [_, _], _ => rfl)
theorem bi_counts_of {K : Frag} {fd : FuncData} (F : FunD K "counts_of" "counts_of" (defArgs s_counts_of) (defBody s_counts_of) (defScope s_counts_of) [] [] (a_counts_of K) fd) : Binds K fd p_counts_of [] := F.bindsN fun _ _ _ _ _ _ us hl => (match us, hl with | [_, _], _ => rfl)
theorem bi_check_order {K : Frag} {fd : FuncData} (F : FunD K "check_order" "check_order" (defArgs s_check_order) (defBody s_check_order) (defScope s_check_order) [] [] (a_check_order K) fd) : Binds K fd p_check_order [] := F.bindsN fun _ _ _ _ _ _ us hl => (match us, hl with | [_, _], _ => rfl)
theorem bi_one_after_another {K : Frag} {fd : FuncData} (F : FunD K "one_after_another" "one_after_another" (defArgs s_one_after_another) (defBody s_one_after_another) (defScope s_one_after_another) [] [] (a_one_after_another K) fd) : Binds K fd p_one_after_another [] := F.bindsN fun _ _ _ _ _ _ us hl => (match us, hl with | [_, _], _ => rfl)
theorem bi_order_counts {K : Frag} {fd : FuncData} (F : FunD K "order_counts" "order_counts" (defArgs s_order_counts) (defBody s_order_counts) (defScope s_order_counts) [] [] (a_order_counts K) fd) : Binds K fd p_order_counts [] := F.bindsN fun _ _ _ _ _ _ us hl => (match us, hl with | [_, _], _ => rfl)
theorem bi_House_nights {K : Frag} {fd : FuncData} (F : FunD K "nights" "House.nights" (defArgs s_House_nights) (defBody s_House_nights) (defScope s_House_nights) [] [] (a_House_nights K) fd) : Binds K fd p_House_nights [] := F.bindsN fun _ _ _ _ _ _ us hl => (match us, hl with | [_], _ => rfl)
theorem bi_House_people {K : Frag} {fd : FuncData} (F : FunD K "people" "House.people" (defArgs s_House_people) (defBody s_House_people) (defScope s_House_people) [] [] (a_House_people K) fd) : Binds K fd p_House_people [] := F.bindsN fun _ _ _ _ _ _ us hl => (match us, hl with | [_], _ => rfl)
theorem bi_House_whole {K : Frag} {fd : FuncData} (F : FunD K "whole" "House.whole" (defArgs s_House_whole) (defBody s_House_whole) (defScope s_House_whole) [] [] (a_House_whole K) fd) : Binds K fd p_House_whole [] := F.bindsN fun _ _ _ _ _ _ us hl => (match us, hl with | [_], _ => rfl)
theorem bi_House_here {K : Frag} {fd : FuncData} (F : FunD K "here" "House.here" (defArgs s_House_here) (defBody s_House_here) (defScope s_House_here) [] [] (a_House_here K) fd) : Binds K fd p_House_here [] := F.bindsN fun _ _ _ _ _ _ us hl => (match us, hl with | [_, _], _ => rfl)
theorem bi_House_stretch {K : Frag} {fd : FuncData} (F : FunD K "stretch" "House.stretch" (defArgs s_House_stretch) (defBody s_House_stretch) (defScope s_House_stretch) [] [] (a_House_stretch K) fd) : Binds K fd p_House_stretch [] := F.bindsN fun _ _ _ _ _ _ us hl => (match us, hl with | [_, _], _ => rfl)
theorem bi_Wants_init {K : Frag} {fd : FuncData} (F : FunD K "__init__" "Wants.__init__" (defArgs s_Wants_init) (defBody s_Wants_init) (defScope s_Wants_init) [] [] (a_Wants_init K) fd) : Binds K fd p_Wants_init [] := F.bindsN fun _ _ _ _ _ _ us hl => (match us, hl with | [_, _], _ => rfl)
theorem bi_Wants_len {K : Frag} {fd : FuncData} (F : FunD K "__len__" "Wants.__len__" (defArgs s_Wants_len) (defBody s_Wants_len) (defScope s_Wants_len) [] [] (a_Wants_len K) fd) : Binds K fd p_Wants_len [] := F.bindsN fun _ _ _ _ _ _ us hl => (match us, hl with | [_], _ => rfl)
theorem bi_Wants_iter {K : Frag} {fd : FuncData} (F : FunD K "__iter__" "Wants.__iter__" (defArgs s_Wants_iter) (defBody s_Wants_iter) (defScope s_Wants_iter) [] [] (a_Wants_iter K) fd) : Binds K fd p_Wants_iter [] := F.bindsN fun _ _ _ _ _ _ us hl => (match us, hl with | [_], _ => rfl)
theorem bi_Wants_getitem {K : Frag} {fd : FuncData} (F : FunD K "__getitem__" "Wants.__getitem__" (defArgs s_Wants_getitem) (defBody s_Wants_getitem) (defScope s_Wants_getitem) [] [] (a_Wants_getitem K) fd) : Binds K fd p_Wants_getitem [] := F.bindsN fun _ _ _ _ _ _ us hl => (match us, hl with | [_, _], _ => rfl)
theorem bi_Wants_add {K : Frag} {fd : FuncData} (F : FunD K "__add__" "Wants.__add__" (defArgs s_Wants_add) (defBody s_Wants_add) (defScope s_Wants_add) [] [] (a_Wants_add K) fd) : Binds K fd p_Wants_add [] := F.bindsN fun _ _ _ _ _ _ us hl => (match us, hl with | [_, _], _ => rfl)
theorem bi_Wants_mul {K : Frag} {fd : FuncData} (F : FunD K "__mul__" "Wants.__mul__" (defArgs s_Wants_mul) (defBody s_Wants_mul) (defScope s_Wants_mul) [] [] (a_Wants_mul K) fd) : Binds K fd p_Wants_mul [] := F.bindsN fun _ _ _ _ _ _ us hl => (match us, hl with | [_, _], _ => rfl)
theorem bi_Wants_rmul {K : Frag} {fd : FuncData} (F : FunD K "__rmul__" "Wants.__rmul__" (defArgs s_Wants_rmul) (defBody s_Wants_rmul) (defScope s_Wants_rmul) [] [] (a_Wants_rmul K) fd) : Binds K fd p_Wants_rmul [] := F.bindsN fun _ _ _ _ _ _ us hl => (match us, hl with | [_, _], _ => rfl)
theorem bi_Wants_lshift {K : Frag} {fd : FuncData} (F : FunD K "__lshift__" "Wants.__lshift__" (defArgs s_Wants_lshift) (defBody s_Wants_lshift) (defScope s_Wants_lshift) [] [] (a_Wants_lshift K) fd) : Binds K fd p_Wants_lshift [] := F.bindsN fun _ _ _ _ _ _ us hl => (match us, hl with | [_, _], _ => rfl)
theorem bi_Wants_rshift {K : Frag} {fd : FuncData} (F : FunD K "__rshift__" "Wants.__rshift__" (defArgs s_Wants_rshift) (defBody s_Wants_rshift) (defScope s_Wants_rshift) [] [] (a_Wants_rshift K) fd) : Binds K fd p_Wants_rshift [] := F.bindsN fun _ _ _ _ _ _ us hl => (match us, hl with | [_, _], _ => rfl)
theorem bi_Wants_neg {K : Frag} {fd : FuncData} (F : FunD K "__neg__" "Wants.__neg__" (defArgs s_Wants_neg) (defBody s_Wants_neg) (defScope s_Wants_neg) [] [] (a_Wants_neg K) fd) : Binds K fd p_Wants_neg [] := F.bindsN fun _ _ _ _ _ _ us hl => (match us, hl with | [_], _ => rfl)
theorem bi_Wants_abs {K : Frag} {fd : FuncData} (F : FunD K "__abs__" "Wants.__abs__" (defArgs s_Wants_abs) (defBody s_Wants_abs) (defScope s_Wants_abs) [] [] (a_Wants_abs K) fd) : Binds K fd p_Wants_abs [] := F.bindsN fun _ _ _ _ _ _ us hl => (match us, hl with | [_], _ => rfl)
theorem bi_law_pool {K : Frag} {fd : FuncData} (F : FunD K "_law_pool" "_law_pool" (defArgs s_law_pool) (defBody s_law_pool) (defScope s_law_pool) [] [] (a_law_pool K) fd) : Binds K fd p_law_pool [] := F.bindsN fun _ _ _ _ _ _ us hl => (match us, hl with | [_, _], _ => rfl)
theorem bi_law_draw {K : Frag} {fd : FuncData} (F : FunD K "_law_draw" "_law_draw" (defArgs s_law_draw) (defBody s_law_draw) (defScope s_law_draw) [] [] (a_law_draw K) fd) : Binds K fd p_law_draw [] := F.bindsN fun _ _ _ _ _ _ us hl => (match us, hl with | [_, _], _ => rfl)
theorem bi_law_comings {K : Frag} {fd : FuncData} (F : FunD K "_law_comings" "_law_comings" (defArgs s_law_comings) (defBody s_law_comings) (defScope s_law_comings) [] [] (a_law_comings K) fd) : Binds K fd p_law_comings [] := F.bindsN fun _ _ _ _ _ _ us hl => (match us, hl with | [_, _, _], _ => rfl)
theorem bi_law_wants {K : Frag} {fd : FuncData} (F : FunD K "_law_wants" "_law_wants" (defArgs s_law_wants) (defBody s_law_wants) (defScope s_law_wants) [] [] (a_law_wants K) fd) : Binds K fd p_law_wants [] := F.bindsN fun _ _ _ _ _ _ us hl => (match us, hl with | [_, _, _], _ => rfl)
theorem bi_law_rows {K : Frag} {fd : FuncData} (F : FunD K "_law_rows" "_law_rows" (defArgs s_law_rows) (defBody s_law_rows) (defScope s_law_rows) [] [] (a_law_rows K) fd) : Binds K fd p_law_rows [] := F.bindsN fun _ _ _ _ _ _ us hl => (match us, hl with | [_, _, _, _, _], _ => rfl)
theorem bi_law_counts {K : Frag} {fd : FuncData} (F : FunD K "_law_counts" "_law_counts" (defArgs s_law_counts) (defBody s_law_counts) (defScope s_law_counts) [] [] (a_law_counts K) fd) : Binds K fd p_law_counts [] := F.bindsN fun _ _ _ _ _ _ us hl => (match us, hl with | [_, _], _ => rfl)
theorem bi_law_size {K : Frag} {fd : FuncData} (F : FunD K "_law_size" "_law_size" (defArgs s_law_size) (defBody s_law_size) (defScope s_law_size) [] [] (a_law_size K) fd) : Binds K fd p_law_size [] := F.bindsN fun _ _ _ _ _ _ us hl => (match us, hl with | [_, _], _ => rfl)
theorem bi_law_world {K : Frag} {fd : FuncData} (F : FunD K "_law_world" "_law_world" (defArgs s_law_world) (defBody s_law_world) (defScope s_law_world) [] [] (a_law_world K) fd) : Binds K fd p_law_world [] := F.bindsN fun _ _ _ _ _ _ us hl => (match us, hl with | [_, _, _, _], _ => rfl)
theorem bi_law_bend_days {K : Frag} {fd : FuncData} (F : FunD K "_law_bend_days" "_law_bend_days" (defArgs s_law_bend_days) (defBody s_law_bend_days) (defScope s_law_bend_days) [] [] (a_law_bend_days K) fd) : Binds K fd p_law_bend_days [] := F.bindsN fun _ _ _ _ _ _ us hl => (match us, hl with | [_, _], _ => rfl)
theorem bi_law_int {K : Frag} {fd : FuncData} (F : FunD K "_law_int" "_law_int" (defArgs s_law_int) (defBody s_law_int) (defScope s_law_int) [] [] (a_law_int K) fd) : Binds K fd p_law_int [] := F.bindsN fun _ _ _ _ _ _ us hl => (match us, hl with | [_], _ => rfl)
theorem bi_law_ints {K : Frag} {fd : FuncData} (F : FunD K "_law_ints" "_law_ints" (defArgs s_law_ints) (defBody s_law_ints) (defScope s_law_ints) [] [] (a_law_ints K) fd) : Binds K fd p_law_ints [] := F.bindsN fun _ _ _ _ _ _ us hl => (match us, hl with | [_], _ => rfl)
theorem bi_law_same {K : Frag} {fd : FuncData} (F : FunD K "_law_same" "_law_same" (defArgs s_law_same) (defBody s_law_same) (defScope s_law_same) [] [] (a_law_same K) fd) : Binds K fd p_law_same [] := F.bindsN fun _ _ _ _ _ _ us hl => (match us, hl with | [_, _], _ => rfl)
theorem bi_law_plan_fits {K : Frag} {fd : FuncData} (F : FunD K "_law_plan_fits" "_law_plan_fits" (defArgs s_law_plan_fits) (defBody s_law_plan_fits) (defScope s_law_plan_fits) [] [] (a_law_plan_fits K) fd) : Binds K fd p_law_plan_fits [] := F.bindsN fun _ _ _ _ _ _ us hl => (match us, hl with | [_, _, _, _, _], _ => rfl)
theorem bi_law_first {K : Frag} {fd : FuncData} (F : FunD K "_law_first" "_law_first" (defArgs s_law_first) (defBody s_law_first) (defScope s_law_first) [] [] (a_law_first K) fd) : Binds K fd p_law_first [] := F.bindsN fun _ _ _ _ _ _ us hl => (match us, hl with | [_, _, _, _], _ => rfl)
theorem bi_law_house {K : Frag} {fd : FuncData} (F : FunD K "_law_house" "_law_house" (defArgs s_law_house) (defBody s_law_house) (defScope s_law_house) [] [] (a_law_house K) fd) : Binds K fd p_law_house [] := F.bindsN fun _ _ _ _ _ _ us hl => (match us, hl with | [_, _, _, _], _ => rfl)
theorem bi_law_large {K : Frag} {fd : FuncData} (F : FunD K "_law_large" "_law_large" (defArgs s_law_large) (defBody s_law_large) (defScope s_law_large) [] [] (a_law_large K) fd) : Binds K fd p_law_large [] := F.bindsN fun _ _ _ _ _ _ us hl => (match us, hl with | [_], _ => rfl)
theorem bi_law_mixed {K : Frag} {fd : FuncData} (F : FunD K "_law_mixed" "_law_mixed" (defArgs s_law_mixed) (defBody s_law_mixed) (defScope s_law_mixed) [] [] (a_law_mixed K) fd) : Binds K fd p_law_mixed [] := F.bindsN fun _ _ _ _ _ _ us hl => (match us, hl with | [_, _], _ => rfl)
theorem bi_law_due {K : Frag} {fd : FuncData} (F : FunD K "_law_due" "_law_due" (defArgs s_law_due) (defBody s_law_due) (defScope s_law_due) [] [] (a_law_due K) fd) : Binds K fd p_law_due [] := F.bindsN fun _ _ _ _ _ _ us hl => (match us, hl with | [_, _], _ => rfl)
theorem bi_law_made {K : Frag} {fd : FuncData} (F : FunD K "_law_made" "_law_made" (defArgs s_law_made) (defBody s_law_made) (defScope s_law_made) [] [] (a_law_made K) fd) : Binds K fd p_law_made [] := F.bindsN fun _ _ _ _ _ _ us hl => (match us, hl with | [_, _, _], _ => rfl)
theorem bi_law_spoiled {K : Frag} {fd : FuncData} (F : FunD K "_law_spoiled" "_law_spoiled" (defArgs s_law_spoiled) (defBody s_law_spoiled) (defScope s_law_spoiled) [] [] (a_law_spoiled K) fd) : Binds K fd p_law_spoiled [] := F.bindsN fun _ _ _ _ _ _ us hl => (match us, hl with | [_, _, _], _ => rfl)
theorem bi_law_order_fault {K : Frag} {fd : FuncData} (F : FunD K "_law_order_fault" "_law_order_fault" (defArgs s_law_order_fault) (defBody s_law_order_fault) (defScope s_law_order_fault) [] [] (a_law_order_fault K) fd) : Binds K fd p_law_order_fault [] := F.bindsN fun _ _ _ _ _ _ us hl => (match us, hl with | [_, _], _ => rfl)
theorem bi_law_try_plan {K : Frag} {fd : FuncData} (F : FunD K "_law_try_plan" "_law_try_plan" (defArgs s_law_try_plan) (defBody s_law_try_plan) (defScope s_law_try_plan) [] [] (a_law_try_plan K) fd) : Binds K fd p_law_try_plan [] := F.bindsN fun _ _ _ _ _ _ us hl => (match us, hl with | [_, _], _ => rfl)
theorem bi_law_try_counts {K : Frag} {fd : FuncData} (F : FunD K "_law_try_counts" "_law_try_counts" (defArgs s_law_try_counts) (defBody s_law_try_counts) (defScope s_law_try_counts) [] [] (a_law_try_counts K) fd) : Binds K fd p_law_try_counts [] := F.bindsN fun _ _ _ _ _ _ us hl => (match us, hl with | [_, _], _ => rfl)
theorem bi_law_base {K : Frag} {fd : FuncData} (F : FunD K "_law_base" "_law_base" (defArgs s_law_base) (defBody s_law_base) (defScope s_law_base) [] [] (a_law_base K) fd) : Binds K fd p_law_base [] := F.bindsN fun _ _ _ _ _ _ us hl => (match us, hl with | [_, _], _ => rfl)
theorem bi_law {K : Frag} {fd : FuncData} (F : FunD K "law" "law" (defArgs s_law) (defBody s_law) (defScope s_law) [] [] (a_law K) fd) : Binds K fd p_law [] := F.bindsN fun _ _ _ _ _ _ us hl => (match us, hl with | [_], _ => rfl)
structure Tx (K : Frag) (mg : Str → Option Value) : Prop where
  any : nsIn K cStatics "thirdparty.any" = some none
  m_super : mg "super" = none
  m_len : mg "len" = none
  m_enumerate : mg "enumerate" = none
  m_tuple : mg "tuple" = none
  m_sum : mg "sum" = none
  m_abs : mg "abs" = none
  m_int : mg "int" = none
  m_range : mg "range" = none
  m_isinstance : mg "isinstance" = none
  m_bool : mg "bool" = none
  m_str : mg "str" = none
  m_list : mg "list" = none
  m_max : mg "max" = none
  m_min : mg "min" = none
  m_iter : mg "iter" = none
  m_ValueError : mg "ValueError" = none
  m_sorted : mg "sorted" = none
  g_check_count : mg "check_count" = some (.ref (a_check_count K))
  g_check_number : mg "check_number" = some (.ref (a_check_number K))
  g_check_numbers : mg "check_numbers" = some (.ref (a_check_numbers K))
  g_check_rest : mg "check_rest" = some (.ref (a_check_rest K))
  g_check_night : mg "check_night" = some (.ref (a_check_night K))
  g_check_person : mg "check_person" = some (.ref (a_check_person K))
  g_check_people : mg "check_people" = some (.ref (a_check_people K))
  g_nights_with_room : mg "nights_with_room" = some (.ref (a_nights_with_room K))
  g_counts_of : mg "counts_of" = some (.ref (a_counts_of K))
  g_check_order : mg "check_order" = some (.ref (a_check_order K))
  g_one_after_another : mg "one_after_another" = some (.ref (a_one_after_another K))
  g_order_counts : mg "order_counts" = some (.ref (a_order_counts K))
  g_law_pool : mg "_law_pool" = some (.ref (a_law_pool K))
  g_law_draw : mg "_law_draw" = some (.ref (a_law_draw K))
  g_law_comings : mg "_law_comings" = some (.ref (a_law_comings K))
  g_law_wants : mg "_law_wants" = some (.ref (a_law_wants K))
  g_law_rows : mg "_law_rows" = some (.ref (a_law_rows K))
  g_law_counts : mg "_law_counts" = some (.ref (a_law_counts K))
  g_law_size : mg "_law_size" = some (.ref (a_law_size K))
  g_law_world : mg "_law_world" = some (.ref (a_law_world K))
  g_law_bend_days : mg "_law_bend_days" = some (.ref (a_law_bend_days K))
  g_law_int : mg "_law_int" = some (.ref (a_law_int K))
  g_law_ints : mg "_law_ints" = some (.ref (a_law_ints K))
  g_law_same : mg "_law_same" = some (.ref (a_law_same K))
  g_law_plan_fits : mg "_law_plan_fits" = some (.ref (a_law_plan_fits K))
  g_law_first : mg "_law_first" = some (.ref (a_law_first K))
  g_law_house : mg "_law_house" = some (.ref (a_law_house K))
  g_law_large : mg "_law_large" = some (.ref (a_law_large K))
  g_law_mixed : mg "_law_mixed" = some (.ref (a_law_mixed K))
  g_law_due : mg "_law_due" = some (.ref (a_law_due K))
  g_law_made : mg "_law_made" = some (.ref (a_law_made K))
  g_law_spoiled : mg "_law_spoiled" = some (.ref (a_law_spoiled K))
  g_law_order_fault : mg "_law_order_fault" = some (.ref (a_law_order_fault K))
  g_law_try_plan : mg "_law_try_plan" = some (.ref (a_law_try_plan K))
  g_law_try_counts : mg "_law_try_counts" = some (.ref (a_law_try_counts K))
  g_law_base : mg "_law_base" = some (.ref (a_law_base K))
  g_law : mg "law" = some (.ref (a_law K))
  f_check_count : ∃ fd, FunD K "check_count" "check_count" (defArgs s_check_count) (defBody s_check_count) (defScope s_check_count) [] [] (a_check_count K) fd
  f_check_number : ∃ fd, FunD K "check_number" "check_number" (defArgs s_check_number) (defBody s_check_number) (defScope s_check_number) [] [] (a_check_number K) fd
  f_check_numbers : ∃ fd, FunD K "check_numbers" "check_numbers" (defArgs s_check_numbers) (defBody s_check_numbers) (defScope s_check_numbers) [] [] (a_check_numbers K) fd
  f_check_not_negative : ∃ fd, FunD K "check_not_negative" "check_not_negative" (defArgs s_check_not_negative) (defBody s_check_not_negative) (defScope s_check_not_negative) [] [] (a_check_not_negative K) fd
  f_check_rest : ∃ fd, FunD K "check_rest" "check_rest" (defArgs s_check_rest) (defBody s_check_rest) (defScope s_check_rest) [] [] (a_check_rest K) fd
  f_check_night : ∃ fd, FunD K "check_night" "check_night" (defArgs s_check_night) (defBody s_check_night) (defScope s_check_night) [] [] (a_check_night K) fd
  f_check_person : ∃ fd, FunD K "check_person" "check_person" (defArgs s_check_person) (defBody s_check_person) (defScope s_check_person) [] [] (a_check_person K) fd
  f_check_people : ∃ fd, FunD K "check_people" "check_people" (defArgs s_check_people) (defBody s_check_people) (defScope s_check_people) [] [] (a_check_people K) fd
  f_nights_with_room : ∃ fd, FunD K "nights_with_room" "nights_with_room" (defArgs s_nights_with_room) (defBody s_nights_with_room) (defScope s_nights_with_room) [] [] (a_nights_with_room K) fd
  f_Plan_init : ∃ fd, FunD K "__init__" "Plan.__init__" (defArgs s_Plan_init) (defBody s_Plan_init) (defScope s_Plan_init) [] [] (a_Plan_init K) fd
  f_Plan_len : ∃ fd, FunD K "__len__" "Plan.__len__" (defArgs s_Plan_len) (defBody s_Plan_len) (defScope s_Plan_len) [] [] (a_Plan_len K) fd
  f_Plan_iter : ∃ fd, FunD K "__iter__" "Plan.__iter__" (defArgs s_Plan_iter) (defBody s_Plan_iter) (defScope s_Plan_iter) [] [] (a_Plan_iter K) fd
  f_Plan_getitem : ∃ fd, FunD K "__getitem__" "Plan.__getitem__" (defArgs s_Plan_getitem) (defBody s_Plan_getitem) (defScope s_Plan_getitem) [] [] (a_Plan_getitem K) fd
  f_Plan_nights_of : ∃ fd, FunD K "nights_of" "Plan.nights_of" (defArgs s_Plan_nights_of) (defBody s_Plan_nights_of) (defScope s_Plan_nights_of) [] [] (a_Plan_nights_of K) fd
  f_counts_of : ∃ fd, FunD K "counts_of" "counts_of" (defArgs s_counts_of) (defBody s_counts_of) (defScope s_counts_of) [] [] (a_counts_of K) fd
  f_check_order : ∃ fd, FunD K "check_order" "check_order" (defArgs s_check_order) (defBody s_check_order) (defScope s_check_order) [] [] (a_check_order K) fd
  f_one_after_another : ∃ fd, FunD K "one_after_another" "one_after_another" (defArgs s_one_after_another) (defBody s_one_after_another) (defScope s_one_after_another) [] [] (a_one_after_another K) fd
  f_order_counts : ∃ fd, FunD K "order_counts" "order_counts" (defArgs s_order_counts) (defBody s_order_counts) (defScope s_order_counts) [] [] (a_order_counts K) fd
  f_House_init : ∃ fd, FunD K "__init__" "House.__init__" (defArgs s_House_init) (defBody s_House_init) (defScope s_House_init) [] [("rest", .int 1)] (a_House_init K) fd
  f_House_nights : ∃ fd, FunD K "nights" "House.nights" (defArgs s_House_nights) (defBody s_House_nights) (defScope s_House_nights) [] [] (a_House_nights K) fd
  f_House_people : ∃ fd, FunD K "people" "House.people" (defArgs s_House_people) (defBody s_House_people) (defScope s_House_people) [] [] (a_House_people K) fd
  f_Wants_init : ∃ fd, FunD K "__init__" "Wants.__init__" (defArgs s_Wants_init) (defBody s_Wants_init) (defScope s_Wants_init) [] [] (a_Wants_init K) fd
  f_Wants_len : ∃ fd, FunD K "__len__" "Wants.__len__" (defArgs s_Wants_len) (defBody s_Wants_len) (defScope s_Wants_len) [] [] (a_Wants_len K) fd
  f_Wants_iter : ∃ fd, FunD K "__iter__" "Wants.__iter__" (defArgs s_Wants_iter) (defBody s_Wants_iter) (defScope s_Wants_iter) [] [] (a_Wants_iter K) fd
  f_Wants_getitem : ∃ fd, FunD K "__getitem__" "Wants.__getitem__" (defArgs s_Wants_getitem) (defBody s_Wants_getitem) (defScope s_Wants_getitem) [] [] (a_Wants_getitem K) fd
  f_law_pool : ∃ fd, FunD K "_law_pool" "_law_pool" (defArgs s_law_pool) (defBody s_law_pool) (defScope s_law_pool) [] [] (a_law_pool K) fd
  f_law_draw : ∃ fd, FunD K "_law_draw" "_law_draw" (defArgs s_law_draw) (defBody s_law_draw) (defScope s_law_draw) [] [] (a_law_draw K) fd
  f_law_comings : ∃ fd, FunD K "_law_comings" "_law_comings" (defArgs s_law_comings) (defBody s_law_comings) (defScope s_law_comings) [] [] (a_law_comings K) fd
  f_law_wants : ∃ fd, FunD K "_law_wants" "_law_wants" (defArgs s_law_wants) (defBody s_law_wants) (defScope s_law_wants) [] [] (a_law_wants K) fd
  f_law_rows : ∃ fd, FunD K "_law_rows" "_law_rows" (defArgs s_law_rows) (defBody s_law_rows) (defScope s_law_rows) [] [] (a_law_rows K) fd
  f_law_counts : ∃ fd, FunD K "_law_counts" "_law_counts" (defArgs s_law_counts) (defBody s_law_counts) (defScope s_law_counts) [] [] (a_law_counts K) fd
  f_law_size : ∃ fd, FunD K "_law_size" "_law_size" (defArgs s_law_size) (defBody s_law_size) (defScope s_law_size) [] [] (a_law_size K) fd
  f_law_world : ∃ fd, FunD K "_law_world" "_law_world" (defArgs s_law_world) (defBody s_law_world) (defScope s_law_world) [] [] (a_law_world K) fd
  f_law_bend_days : ∃ fd, FunD K "_law_bend_days" "_law_bend_days" (defArgs s_law_bend_days) (defBody s_law_bend_days) (defScope s_law_bend_days) [] [] (a_law_bend_days K) fd
  f_law_int : ∃ fd, FunD K "_law_int" "_law_int" (defArgs s_law_int) (defBody s_law_int) (defScope s_law_int) [] [] (a_law_int K) fd
  f_law_ints : ∃ fd, FunD K "_law_ints" "_law_ints" (defArgs s_law_ints) (defBody s_law_ints) (defScope s_law_ints) [] [] (a_law_ints K) fd
  f_law_same : ∃ fd, FunD K "_law_same" "_law_same" (defArgs s_law_same) (defBody s_law_same) (defScope s_law_same) [] [] (a_law_same K) fd
  f_law_plan_fits : ∃ fd, FunD K "_law_plan_fits" "_law_plan_fits" (defArgs s_law_plan_fits) (defBody s_law_plan_fits) (defScope s_law_plan_fits) [] [] (a_law_plan_fits K) fd
  f_law_first : ∃ fd, FunD K "_law_first" "_law_first" (defArgs s_law_first) (defBody s_law_first) (defScope s_law_first) [] [] (a_law_first K) fd
  f_law_house : ∃ fd, FunD K "_law_house" "_law_house" (defArgs s_law_house) (defBody s_law_house) (defScope s_law_house) [] [] (a_law_house K) fd
  f_law_large : ∃ fd, FunD K "_law_large" "_law_large" (defArgs s_law_large) (defBody s_law_large) (defScope s_law_large) [] [] (a_law_large K) fd
  f_law_mixed : ∃ fd, FunD K "_law_mixed" "_law_mixed" (defArgs s_law_mixed) (defBody s_law_mixed) (defScope s_law_mixed) [] [] (a_law_mixed K) fd
  f_law_due : ∃ fd, FunD K "_law_due" "_law_due" (defArgs s_law_due) (defBody s_law_due) (defScope s_law_due) [] [] (a_law_due K) fd
  f_law_made : ∃ fd, FunD K "_law_made" "_law_made" (defArgs s_law_made) (defBody s_law_made) (defScope s_law_made) [] [] (a_law_made K) fd
  f_law_spoiled : ∃ fd, FunD K "_law_spoiled" "_law_spoiled" (defArgs s_law_spoiled) (defBody s_law_spoiled) (defScope s_law_spoiled) [] [] (a_law_spoiled K) fd
  f_law_order_fault : ∃ fd, FunD K "_law_order_fault" "_law_order_fault" (defArgs s_law_order_fault) (defBody s_law_order_fault) (defScope s_law_order_fault) [] [] (a_law_order_fault K) fd
  f_law_try_plan : ∃ fd, FunD K "_law_try_plan" "_law_try_plan" (defArgs s_law_try_plan) (defBody s_law_try_plan) (defScope s_law_try_plan) [] [] (a_law_try_plan K) fd
  f_law_try_counts : ∃ fd, FunD K "_law_try_counts" "_law_try_counts" (defArgs s_law_try_counts) (defBody s_law_try_counts) (defScope s_law_try_counts) [] [] (a_law_try_counts K) fd
  f_law_base : ∃ fd, FunD K "_law_base" "_law_base" (defArgs s_law_base) (defBody s_law_base) (defScope s_law_base) [] [] (a_law_base K) fd
  f_law : ∃ fd, FunD K "law" "law" (defArgs s_law) (defBody s_law) (defScope s_law) [] [] (a_law K) fd
  e_NoNight : Exn PG K mg "NoNight" (c_NoNight K) (i_NoNight K) ["night"] [("night", "night")]
  e_NoPerson : Exn PG K mg "NoPerson" (c_NoPerson K) (i_NoPerson K) ["person"] [("person", "person")]
  e_NamedTwice : Exn PG K mg "NamedTwice" (c_NamedTwice K) (i_NamedTwice K) ["person"] [("person", "person")]
  e_BadNumber : Exn PG K mg "BadNumber" (c_BadNumber K) (i_BadNumber K) ["place", "number"] [("place", "place"), ("number", "number")]
  e_TooLong : Exn PG K mg "TooLong" (c_TooLong K) (i_TooLong K) ["count"] [("count", "count")]
  e_WrongLength : Exn PG K mg "WrongLength" (c_WrongLength K) (i_WrongLength K) ["found", "wanted"] [("found", "found"), ("wanted", "wanted")]
  e_BadRest : Exn PG K mg "BadRest" (c_BadRest K) (i_BadRest K) ["rest"] [("rest", "rest")]
  e_BadComing : Exn PG K mg "BadComing" (c_BadComing K) (i_BadComing K) ["person", "coming"] [("person", "person"), ("coming", "coming")]
  cHouse : Cls K (c_House K)
  gHouse : mg "House" = some (.ref (c_House K))
  kHouse : Mk K (c_House K) (a_House_init K)
  nHouse_wants : NoAttr K (c_House K) "wants"
  nHouse_comings : NoAttr K (c_House K) "comings"
  nHouse_rest : NoAttr K (c_House K) "rest"
  cWants : Cls K (c_Wants K)
  gWants : mg "Wants" = some (.ref (c_Wants K))
  kWants : Mk K (c_Wants K) (a_Wants_init K)
  nWants_numbers : NoAttr K (c_Wants K) "numbers"
  cPlan : Cls K (c_Plan K)
  gPlan : mg "Plan" = some (.ref (c_Plan K))
  tPlan : EF.ClsT K (c_Plan K)
  kPlan : Mk K (c_Plan K) (a_Plan_init K)
  nPlan_rows : NoAttr K (c_Plan K) "rows"
  rWants : ClX.CRead K (c_Wants K) FB.mT
  vWants_MOST : ∃ u, ClX.CVal K (c_Wants K) FB.mT "MOST" (.int 60) u
  vWants_GREATEST : ∃ u, ClX.CVal K (c_Wants K) FB.mT "GREATEST" (.int 30) u
  v_MOST_PEOPLE : ∃ t, mg "MOST_PEOPLE" = some (.int 30 t)
  v_GREATEST_REST : ∃ t, mg "GREATEST_REST" = some (.int 60 t)
  wWants_len : findIn K (.ref (c_Wants K)) "__len__" = some (some (.ref (a_Wants_len K))) ∧ isFn K (.ref (a_Wants_len K)) = true
  wWants_iter : findIn K (.ref (c_Wants K)) "__iter__" = some (some (.ref (a_Wants_iter K))) ∧ isFn K (.ref (a_Wants_iter K)) = true
  wPlan_iter : findIn K (.ref (c_Plan K)) "__iter__" = some (some (.ref (a_Plan_iter K))) ∧ isFn K (.ref (a_Plan_iter K)) = true
  wPlan_nights_of : Meth K (c_Plan K) "nights_of" (a_Plan_nights_of K)
  wHouse_nights : PropOf K (c_House K) "nights" (propObj K (c_House K) "nights") (a_House_nights K)
  wHouse_people : PropOf K (c_House K) "people" (propObj K (c_House K) "people") (a_House_people K)
  gNightsError : mg "NightsError" = some (.ref (c_NightsError K))
  xNoPerson : XfC K (c_NoPerson K) ∧ ExcC K (c_NoPerson K)
  nNoPerson_person : findIn K (.ref (c_NoPerson K)) "person" = some none
  xNamedTwice : XfC K (c_NamedTwice K) ∧ ExcC K (c_NamedTwice K)
  nNamedTwice_person : findIn K (.ref (c_NamedTwice K)) "person" = some none
  xWrongLength : XfC K (c_WrongLength K) ∧ ExcC K (c_WrongLength K)
  nWrongLength_found : findIn K (.ref (c_WrongLength K)) "found" = some none
  nWrongLength_wanted : findIn K (.ref (c_WrongLength K)) "wanted" = some none
  mNoPerson_NoPerson : exmOne K (.ref (c_NoPerson K)) (.ref (c_NoPerson K)) = some true
  mNoPerson_NamedTwice : exmOne K (.ref (c_NoPerson K)) (.ref (c_NamedTwice K)) = some false
  kNoPerson_NamedTwice : kitOne K (.ref (c_NoPerson K)) (.ref (c_NamedTwice K)) = some false
  mNoPerson_WrongLength : exmOne K (.ref (c_NoPerson K)) (.ref (c_WrongLength K)) = some false
  kNoPerson_WrongLength : kitOne K (.ref (c_NoPerson K)) (.ref (c_WrongLength K)) = some false
  mNoPerson_NightsError : exmOne K (.ref (c_NoPerson K)) (.ref (c_NightsError K)) = some true
  kNoPerson_NightsError : kitOne K (.ref (c_NoPerson K)) (.ref (c_NightsError K)) = some true
  kNoPerson_ValueError : kitOne K (.ref (c_NoPerson K)) (.type "ValueError") = some true
  mNamedTwice_NoPerson : exmOne K (.ref (c_NamedTwice K)) (.ref (c_NoPerson K)) = some false
  kNamedTwice_NoPerson : kitOne K (.ref (c_NamedTwice K)) (.ref (c_NoPerson K)) = some false
  mNamedTwice_NamedTwice : exmOne K (.ref (c_NamedTwice K)) (.ref (c_NamedTwice K)) = some true
  mNamedTwice_WrongLength : exmOne K (.ref (c_NamedTwice K)) (.ref (c_WrongLength K)) = some false
  kNamedTwice_WrongLength : kitOne K (.ref (c_NamedTwice K)) (.ref (c_WrongLength K)) = some false
  mNamedTwice_NightsError : exmOne K (.ref (c_NamedTwice K)) (.ref (c_NightsError K)) = some true
  kNamedTwice_NightsError : kitOne K (.ref (c_NamedTwice K)) (.ref (c_NightsError K)) = some true
  kNamedTwice_ValueError : kitOne K (.ref (c_NamedTwice K)) (.type "ValueError") = some true
  mWrongLength_NoPerson : exmOne K (.ref (c_WrongLength K)) (.ref (c_NoPerson K)) = some false
  kWrongLength_NoPerson : kitOne K (.ref (c_WrongLength K)) (.ref (c_NoPerson K)) = some false
  mWrongLength_NamedTwice : exmOne K (.ref (c_WrongLength K)) (.ref (c_NamedTwice K)) = some false
  kWrongLength_NamedTwice : kitOne K (.ref (c_WrongLength K)) (.ref (c_NamedTwice K)) = some false
  mWrongLength_WrongLength : exmOne K (.ref (c_WrongLength K)) (.ref (c_WrongLength K)) = some true
  mWrongLength_NightsError : exmOne K (.ref (c_WrongLength K)) (.ref (c_NightsError K)) = some true
  kWrongLength_NightsError : kitOne K (.ref (c_WrongLength K)) (.ref (c_NightsError K)) = some true
  kWrongLength_ValueError : kitOne K (.ref (c_WrongLength K)) (.type "ValueError") = some true
  kPlan_Plan : kitOne K (.ref (c_Plan K)) (.ref (c_Plan K)) = some true
theorem tx_of {K : Frag} {h : Heap} {mg : Str → Option Value} (c : SaysX bx fn er "/claim/cut.py" K) (X : K.In h) (G : h.Ns mainGlobals mg) : Tx K mg where
  any := eqO_ok (fact c 1)
  m_super := free_ok X G (x := "super") (fact c 0)
  m_len := free_ok X G (x := "len") (fact c 2)
  m_enumerate := free_ok X G (x := "enumerate") (fact c 3)
  m_tuple := free_ok X G (x := "tuple") (fact c 4)
  m_sum := free_ok X G (x := "sum") (fact c 5)
  m_abs := free_ok X G (x := "abs") (fact c 6)
  m_int := free_ok X G (x := "int") (fact c 7)
  m_range := free_ok X G (x := "range") (fact c 8)
  m_isinstance := free_ok X G (x := "isinstance") (fact c 9)
  m_bool := free_ok X G (x := "bool") (fact c 10)
  m_str := free_ok X G (x := "str") (fact c 11)
  m_list := free_ok X G (x := "list") (fact c 12)
  m_max := free_ok X G (x := "max") (fact c 13)
  m_min := free_ok X G (x := "min") (fact c 14)
  m_iter := free_ok X G (x := "iter") (fact c 15)
  m_ValueError := free_ok X G (x := "ValueError") (fact c 16)
  m_sorted := free_ok X G (x := "sorted") (fact c 17)
  g_check_count := glo_ok X G (x := "check_count") (fact c 18)
  g_check_number := glo_ok X G (x := "check_number") (fact c 19)
  g_check_numbers := glo_ok X G (x := "check_numbers") (fact c 20)
  g_check_rest := glo_ok X G (x := "check_rest") (fact c 21)
  g_check_night := glo_ok X G (x := "check_night") (fact c 22)
  g_check_person := glo_ok X G (x := "check_person") (fact c 23)
  g_check_people := glo_ok X G (x := "check_people") (fact c 24)
  g_nights_with_room := glo_ok X G (x := "nights_with_room") (fact c 25)
  g_counts_of := glo_ok X G (x := "counts_of") (fact c 26)
  g_check_order := glo_ok X G (x := "check_order") (fact c 27)
  g_one_after_another := glo_ok X G (x := "one_after_another") (fact c 28)
  g_order_counts := glo_ok X G (x := "order_counts") (fact c 29)
  g_law_pool := glo_ok X G (x := "_law_pool") (fact c 30)
  g_law_draw := glo_ok X G (x := "_law_draw") (fact c 31)
  g_law_comings := glo_ok X G (x := "_law_comings") (fact c 32)
  g_law_wants := glo_ok X G (x := "_law_wants") (fact c 33)
  g_law_rows := glo_ok X G (x := "_law_rows") (fact c 34)
  g_law_counts := glo_ok X G (x := "_law_counts") (fact c 35)
  g_law_size := glo_ok X G (x := "_law_size") (fact c 36)
  g_law_world := glo_ok X G (x := "_law_world") (fact c 37)
  g_law_bend_days := glo_ok X G (x := "_law_bend_days") (fact c 38)
  g_law_int := glo_ok X G (x := "_law_int") (fact c 39)
  g_law_ints := glo_ok X G (x := "_law_ints") (fact c 40)
  g_law_same := glo_ok X G (x := "_law_same") (fact c 41)
  g_law_plan_fits := glo_ok X G (x := "_law_plan_fits") (fact c 42)
  g_law_first := glo_ok X G (x := "_law_first") (fact c 43)
  g_law_house := glo_ok X G (x := "_law_house") (fact c 44)
  g_law_large := glo_ok X G (x := "_law_large") (fact c 45)
  g_law_mixed := glo_ok X G (x := "_law_mixed") (fact c 46)
  g_law_due := glo_ok X G (x := "_law_due") (fact c 47)
  g_law_made := glo_ok X G (x := "_law_made") (fact c 48)
  g_law_spoiled := glo_ok X G (x := "_law_spoiled") (fact c 49)
  g_law_order_fault := glo_ok X G (x := "_law_order_fault") (fact c 50)
  g_law_try_plan := glo_ok X G (x := "_law_try_plan") (fact c 51)
  g_law_try_counts := glo_ok X G (x := "_law_try_counts") (fact c 52)
  g_law_base := glo_ok X G (x := "_law_base") (fact c 53)
  g_law := glo_ok X G (x := "law") (fact c 54)
  f_check_count := c.def_ 0
  f_check_number := c.def_ 1
  f_check_numbers := c.def_ 2
  f_check_not_negative := c.def_ 3
  f_check_rest := c.def_ 4
  f_check_night := c.def_ 5
  f_check_person := c.def_ 6
  f_check_people := c.def_ 7
  f_nights_with_room := c.def_ 8
  f_Plan_init := c.def_ 9
  f_Plan_len := c.def_ 10
  f_Plan_iter := c.def_ 11
  f_Plan_getitem := c.def_ 12
  f_Plan_nights_of := c.def_ 13
  f_counts_of := c.def_ 14
  f_check_order := c.def_ 15
  f_one_after_another := c.def_ 16
  f_order_counts := c.def_ 17
  f_House_init := c.def_ 18
  f_House_nights := c.def_ 19
  f_House_people := c.def_ 20
  f_Wants_init := c.def_ 21
  f_Wants_len := c.def_ 22
  f_Wants_iter := c.def_ 23
  f_Wants_getitem := c.def_ 24
  f_law_pool := c.def_ 25
  f_law_draw := c.def_ 26
  f_law_comings := c.def_ 27
  f_law_wants := c.def_ 28
  f_law_rows := c.def_ 29
  f_law_counts := c.def_ 30
  f_law_size := c.def_ 31
  f_law_world := c.def_ 32
  f_law_bend_days := c.def_ 33
  f_law_int := c.def_ 34
  f_law_ints := c.def_ 35
  f_law_same := c.def_ 36
  f_law_plan_fits := c.def_ 37
  f_law_first := c.def_ 38
  f_law_house := c.def_ 39
  f_law_large := c.def_ 40
  f_law_mixed := c.def_ 41
  f_law_due := c.def_ 42
  f_law_made := c.def_ 43
  f_law_spoiled := c.def_ 44
  f_law_order_fault := c.def_ 45
  f_law_try_plan := c.def_ 46
  f_law_try_counts := c.def_ 47
  f_law_base := c.def_ 48
  f_law := c.def_ 49
  e_NoNight := errD_ok (d := ⟨"NoNight", e_NoNight, "NoNight.__init__", ["night"]⟩) X G tx_NoNight rfl (free_ok X G (x := "super") (fact c 0)) (eqO_ok (fact c 1)) (c.err_ (d := ⟨"NoNight", e_NoNight, "NoNight.__init__", ["night"]⟩) 0).1 (c.err_ (d := ⟨"NoNight", e_NoNight, "NoNight.__init__", ["night"]⟩) 0).2
  e_NoPerson := errD_ok (d := ⟨"NoPerson", e_NoPerson, "NoPerson.__init__", ["person"]⟩) X G tx_NoPerson rfl (free_ok X G (x := "super") (fact c 0)) (eqO_ok (fact c 1)) (c.err_ (d := ⟨"NoPerson", e_NoPerson, "NoPerson.__init__", ["person"]⟩) 1).1 (c.err_ (d := ⟨"NoPerson", e_NoPerson, "NoPerson.__init__", ["person"]⟩) 1).2
  e_NamedTwice := errD_ok (d := ⟨"NamedTwice", e_NamedTwice, "NamedTwice.__init__", ["person"]⟩) X G tx_NamedTwice rfl (free_ok X G (x := "super") (fact c 0)) (eqO_ok (fact c 1)) (c.err_ (d := ⟨"NamedTwice", e_NamedTwice, "NamedTwice.__init__", ["person"]⟩) 2).1 (c.err_ (d := ⟨"NamedTwice", e_NamedTwice, "NamedTwice.__init__", ["person"]⟩) 2).2
  e_BadNumber := errD_ok (d := ⟨"BadNumber", e_BadNumber, "BadNumber.__init__", ["place", "number"]⟩) X G tx_BadNumber rfl (free_ok X G (x := "super") (fact c 0)) (eqO_ok (fact c 1)) (c.err_ (d := ⟨"BadNumber", e_BadNumber, "BadNumber.__init__", ["place", "number"]⟩) 3).1 (c.err_ (d := ⟨"BadNumber", e_BadNumber, "BadNumber.__init__", ["place", "number"]⟩) 3).2
  e_TooLong := errD_ok (d := ⟨"TooLong", e_TooLong, "TooLong.__init__", ["count"]⟩) X G tx_TooLong rfl (free_ok X G (x := "super") (fact c 0)) (eqO_ok (fact c 1)) (c.err_ (d := ⟨"TooLong", e_TooLong, "TooLong.__init__", ["count"]⟩) 4).1 (c.err_ (d := ⟨"TooLong", e_TooLong, "TooLong.__init__", ["count"]⟩) 4).2
  e_WrongLength := errD_ok (d := ⟨"WrongLength", e_WrongLength, "WrongLength.__init__", ["found", "wanted"]⟩) X G tx_WrongLength rfl (free_ok X G (x := "super") (fact c 0)) (eqO_ok (fact c 1)) (c.err_ (d := ⟨"WrongLength", e_WrongLength, "WrongLength.__init__", ["found", "wanted"]⟩) 5).1 (c.err_ (d := ⟨"WrongLength", e_WrongLength, "WrongLength.__init__", ["found", "wanted"]⟩) 5).2
  e_BadRest := errD_ok (d := ⟨"BadRest", e_BadRest, "BadRest.__init__", ["rest"]⟩) X G tx_BadRest rfl (free_ok X G (x := "super") (fact c 0)) (eqO_ok (fact c 1)) (c.err_ (d := ⟨"BadRest", e_BadRest, "BadRest.__init__", ["rest"]⟩) 6).1 (c.err_ (d := ⟨"BadRest", e_BadRest, "BadRest.__init__", ["rest"]⟩) 6).2
  e_BadComing := errD_ok (d := ⟨"BadComing", e_BadComing, "BadComing.__init__", ["person", "coming"]⟩) X G tx_BadComing rfl (free_ok X G (x := "super") (fact c 0)) (eqO_ok (fact c 1)) (c.err_ (d := ⟨"BadComing", e_BadComing, "BadComing.__init__", ["person", "coming"]⟩) 7).1 (c.err_ (d := ⟨"BadComing", e_BadComing, "BadComing.__init__", ["person", "coming"]⟩) 7).2
  cHouse := cls_ok (fact c 55)
  gHouse := glo_ok X G (x := "House") (fact c 56)
  kHouse := mkr_ok (fact c 57)
  nHouse_wants := noat_ok (x := "House") (f := "wants") (fact c 58)
  nHouse_comings := noat_ok (x := "House") (f := "comings") (fact c 59)
  nHouse_rest := noat_ok (x := "House") (f := "rest") (fact c 60)
  cWants := cls_ok (fact c 61)
  gWants := glo_ok X G (x := "Wants") (fact c 62)
  kWants := mkr_ok (fact c 63)
  nWants_numbers := noat_ok (x := "Wants") (f := "numbers") (fact c 64)
  cPlan := cls_ok (fact c 65)
  gPlan := glo_ok X G (x := "Plan") (fact c 66)
  tPlan := EF.cls_ok (fact c 67)
  kPlan := mkr_ok (fact c 68)
  nPlan_rows := noat_ok (x := "Plan") (f := "rows") (fact c 69)
  rWants := FB.cread_ok (fact c 70)
  vWants_MOST := FB.cint_ok (fact c 71)
  vWants_GREATEST := FB.cint_ok (fact c 72)
  v_MOST_PEOPLE := int_ok X G (x := "MOST_PEOPLE") (i := 30) (fact c 73)
  v_GREATEST_REST := int_ok X G (x := "GREATEST_REST") (i := 60) (fact c 74)
  wWants_len := FB.sp_ok (fact c 75)
  wWants_iter := FB.sp_ok (fact c 76)
  wPlan_iter := FB.sp_ok (fact c 77)
  wPlan_nights_of := meth_ok (x := "Plan") (m := "nights_of") (fact c 78)
  wHouse_nights := prop_ok (fact c 79)
  wHouse_people := prop_ok (fact c 80)
  gNightsError := glo_ok X G (x := "NightsError") (fact c 81)
  xNoPerson := EF.exc_ok (fact c 82)
  nNoPerson_person := noat_ok (x := "NoPerson") (f := "person") (fact c 83)
  xNamedTwice := EF.exc_ok (fact c 84)
  nNamedTwice_person := noat_ok (x := "NamedTwice") (f := "person") (fact c 85)
  xWrongLength := EF.exc_ok (fact c 86)
  nWrongLength_found := noat_ok (x := "WrongLength") (f := "found") (fact c 87)
  nWrongLength_wanted := noat_ok (x := "WrongLength") (f := "wanted") (fact c 88)
  mNoPerson_NoPerson := of_decide_eq_true (fact c 89)
  mNoPerson_NamedTwice := of_decide_eq_true (fact c 90)
  kNoPerson_NamedTwice := of_decide_eq_true (fact c 91)
  mNoPerson_WrongLength := of_decide_eq_true (fact c 92)
  kNoPerson_WrongLength := of_decide_eq_true (fact c 93)
  mNoPerson_NightsError := of_decide_eq_true (fact c 94)
  kNoPerson_NightsError := of_decide_eq_true (fact c 95)
  kNoPerson_ValueError := of_decide_eq_true (fact c 96)
  mNamedTwice_NoPerson := of_decide_eq_true (fact c 97)
  kNamedTwice_NoPerson := of_decide_eq_true (fact c 98)
  mNamedTwice_NamedTwice := of_decide_eq_true (fact c 99)
  mNamedTwice_WrongLength := of_decide_eq_true (fact c 100)
  kNamedTwice_WrongLength := of_decide_eq_true (fact c 101)
  mNamedTwice_NightsError := of_decide_eq_true (fact c 102)
  kNamedTwice_NightsError := of_decide_eq_true (fact c 103)
  kNamedTwice_ValueError := of_decide_eq_true (fact c 104)
  mWrongLength_NoPerson := of_decide_eq_true (fact c 105)
  kWrongLength_NoPerson := of_decide_eq_true (fact c 106)
  mWrongLength_NamedTwice := of_decide_eq_true (fact c 107)
  kWrongLength_NamedTwice := of_decide_eq_true (fact c 108)
  mWrongLength_WrongLength := of_decide_eq_true (fact c 109)
  mWrongLength_NightsError := of_decide_eq_true (fact c 110)
  kWrongLength_NightsError := of_decide_eq_true (fact c 111)
  kWrongLength_ValueError := of_decide_eq_true (fact c 112)
  kPlan_Plan := of_decide_eq_true (fact c 113)
end K14

set_option maxRecDepth 100000
set_option maxHeartbeats 4000000
namespace K14
open PySem PySem.Spec PyProof.Rows L2
section
variable {w : World} {K : PySem.W.Frag} {mg : Str → Option Value} {base : Heap}
/-! ### the law's draws -/
def spPool (K : PySem.W.Frag) : Sp := fun vs H Q _ => ∃ (a : Addr) (ns : List Int) (i : Nat), vs = [.ref a, .int (i : Nat)] ∧ SqL K H a (ns.map V.int) ∧ ∀ l st, H l = none → PoolOk st → Q (.ref l) (upd H l (.lst st))
theorem ok_law_pool (T : Tx K mg) : Ok PG w K mg base CX0 2 (a_law_pool K) p_law_pool (spPool K) := by
  refine Ok.of 1 T.f_law_pool sc_law_pool bi_law_pool (by decide) (fun vs H Q E h => ?_) (fun cdv A outer s H vs Q E hr h => ?_)
  · obtain ⟨_, _, _, rfl, _⟩ := h
    rfl
  · obtain ⟨a, ns, i, rfl, hs, q⟩ := h
    have nd := sc_law_pool.nd
    refine ⟨_, pss_cons (ps_set (i := 2) nd rfl (.inl rfl) pe_int)
      (pss_cons (ps_if (pt_cmpR op_lt (pv 1) (pe_callB call_len_seq (by rfl) T.m_len PySem.boot_len (pa_cons (pv 0) pa_nil)) (nomark _)) (pss_one (ps_set (i := 2) nd rfl (.inl rfl) (pe_callB call_abs (by rfl) T.m_abs (by decide +kernel) (pa_cons (pe_ix ix_list (pv 0) (pv 1) (fun _ _ => rfl)) pa_nil)))) pss_nil)
      (pss_cons (ps_if (pt_cmpR op_ge (pv 2) (pe_op op_pow pe_int pe_int) (nomark _)) (pss_one (ps_ret (pe_lst (pa_cons (pe_op op_sub (pv 2) (pe_op op_pow pe_int pe_int)) (pa_cons pe_int (pa_cons pe_int pa_nil)))))) pss_nil)
      (pss_one (ps_ret (pe_lst (pa_cons (pe_un un_neg pe_int) (pa_cons (pe_op op_modN (pe_callTy call_int1 (by rfl) T.m_int (by decide +kernel) (pa_cons (pv 2) pa_nil)) pe_int) (pa_cons (pe_op op_add (pv 1) pe_int) pa_nil)))))))), ?_⟩
    refine ⟨_, rfl, _, rfl, a, _, rfl, .inl hs, _, _, rfl, rfl, _, rfl, ?_⟩
    refine ite2 (fun c => ?_) (fun c => ?_)
    · have hi : i < ns.length := by
        have := of_decide_eq_true c
        rw [List.length_map] at this
        omega
      refine ⟨_, rfl, _, rfl, a, _, _, .int ns[i], rfl, rfl, hs, atI_nat (by rw [List.getElem?_map, List.getElem?_eq_getElem hi]; rfl), _, rfl, ?_⟩
      generalize (if ns[i] < 0 then -ns[i] else ns[i]) = z
      refine ⟨_, rfl, _, _, rfl, rfl, ⟨by decide, by decide, by decide⟩, _, _, rfl, rfl, _, rfl, ?_⟩
      refine ite2 (fun c => ?_) (fun c => ?_)
      · exact ⟨_, rfl, _, _, rfl, rfl, ⟨by decide, by decide, by decide⟩, _, _, rfl, rfl, by show 3 ≤ sizeLine; decide, fun l hl => q l _ hl ⟨_, _, _, rfl, by decide, by decide⟩⟩
      · exact ⟨_, rfl, _, rfl, .inl ⟨_, rfl, _, _, rfl, rfl, (by show (2147483399 : Int) ≠ 0; decide), _, rfl, _, _, rfl, rfl, by show 3 ≤ sizeLine; decide, fun l hl => q l _ hl ⟨_, _, _, rfl, (mod_lt (by decide)).1, Int.lt_trans (mod_lt (by decide)).2 (by decide)⟩⟩⟩
    · refine ⟨_, rfl, _, _, rfl, rfl, ⟨by decide, by decide, by decide⟩, _, _, rfl, rfl, _, rfl, ?_⟩
      refine ite2 (fun c => ?_) (fun c => ?_)
      · exact ⟨_, rfl, _, _, rfl, rfl, ⟨by decide, by decide, by decide⟩, _, _, rfl, rfl, by show 3 ≤ sizeLine; decide, fun l hl => q l _ hl ⟨_, _, _, rfl, by decide, by decide⟩⟩
      · exact ⟨_, rfl, _, rfl, .inl ⟨_, rfl, _, _, rfl, rfl, (by show (2147483399 : Int) ≠ 0; decide), _, rfl, _, _, rfl, rfl, by show 3 ≤ sizeLine; decide, fun l hl => q l _ hl ⟨_, _, _, rfl, (mod_lt (by decide)).1, Int.lt_trans (mod_lt (by decide)).2 (by decide)⟩⟩⟩
def spDraw (_K : PySem.W.Frag) : Sp := fun vs H Q _ => ∃ (p : Addr) (st : List V) (m : Int), vs = [.ref p, .int m] ∧ 0 < m ∧ m.natAbs < 2 ^ 200 ∧ H p = some (.lst st) ∧ PoolOk st ∧ ∀ v st', 0 ≤ v → v < m → PoolOk st' → Q (.int v) (upd H p (.lst st'))
theorem ok_law_draw (T : Tx K mg) : Ok PG w K mg base CX0 2 (a_law_draw K) p_law_draw (spDraw K) := by
  refine Ok.of 1 T.f_law_draw sc_law_draw bi_law_draw (by decide) (fun vs H Q E h => ?_) (fun cdv A outer s H vs Q E hr h => ?_)
  · obtain ⟨_, _, _, rfl, _⟩ := h
    rfl
  · obtain ⟨p, st, m, rfl, m0, mw, hp, ⟨a, b, c, rfl, b0, b1⟩, q⟩ := h
    have nd := sc_law_draw.nd
    refine ⟨_, pss_cons (ps_if (pt_cmpR op_ge (pe_ix ix_list (pv 0) pe_int (fun _ _ => rfl)) pe_int (nomark _)) (pss_cons (ps_set (i := 2) nd rfl (.inl rfl) (pe_op op_modN (pe_callTy call_int1 (by rfl) T.m_int (by decide +kernel) (pa_cons (pe_ix ix_list (pv 0) pe_int (fun _ _ => rfl)) pa_nil)) (pv 1)))
        (pss_cons (ps_asg (pe_op op_fdivW (pe_ix ix_list (pv 0) pe_int (fun _ _ => rfl)) (pv 1)) (pg_sub (pv 0) pe_int set_list)) (pss_one (ps_ret (pv 2))))) pss_nil)
      (pss_cons (ps_asg (pe_op op_add (pe_ix ix_list (pv 0) pe_int (fun _ _ => rfl)) pe_int) (pg_sub (pv 0) pe_int set_list))
      (pss_cons (ps_set (i := 3) nd rfl (.inl rfl) (pe_ix ix_list (pv 0) pe_int (fun _ _ => rfl)))
      (pss_cons (ps_set (i := 3) nd rfl (.inl rfl) (pe_op op_modN (pe_callTy call_int1 (by rfl) T.m_int (by decide +kernel) (pa_cons (pe_op op_add (pe_op op_add (pe_op op_mul (pv 3) (pv 3)) (pe_op op_mul (pe_ix ix_list (pv 0) pe_int (fun _ _ => rfl)) pe_int)) pe_int) pa_nil)) pe_int))
      (pss_cons (ps_set (i := 3) nd rfl (.inl rfl) (pe_op op_modN (pe_callTy call_int1 (by rfl) T.m_int (by decide +kernel) (pa_cons (pe_op op_add (pe_op op_mul (pv 3) (pv 3)) (pe_op op_fdiv (pv 3) pe_int)) pa_nil)) pe_int))
      (pss_cons (ps_asg (pv 3) (pg_sub (pv 0) pe_int set_list))
      (pss_one (ps_ret (pe_op op_modN (pe_callTy call_int1 (by rfl) T.m_int (by decide +kernel) (pa_cons (pe_op op_fdiv (pv 3) pe_int) pa_nil)) (pv 1))))))))), ?_⟩
    have at0 : ∀ x y z : V, atI [x, y, z] (0 : Int) = some x := fun _ _ _ => rfl
    have at1 : ∀ x y z : V, atI [x, y, z] (1 : Int) = some y := fun _ _ _ => rfl
    have at2 : ∀ x y z : V, atI [x, y, z] (2 : Int) = some z := fun _ _ _ => rfl
    refine ⟨_, rfl, p, _, _, _, rfl, rfl, SqL.of hp, at0 _ _ _, _, _, rfl, rfl, _, rfl, ?_⟩
    refine ite2 (fun ca => ?_) (fun ca => ?_)
    · refine ⟨_, rfl, p, _, _, _, rfl, rfl, SqL.of hp, at0 _ _ _, .inl ⟨_, rfl, _, rfl, _, _, rfl, rfl, by omega, ?_⟩⟩
      refine ⟨_, rfl, p, _, _, _, rfl, rfl, SqL.of hp, at0 _ _ _, _, rfl, _, _, rfl, rfl, wide_div m0 mw (by decide) (by decide), ?_⟩
      refine ⟨_, rfl, p, _, _, 0, rfl, rfl, hp, rfl, _, rfl, ?_⟩
      exact q _ _ (mod_lt m0).1 (mod_lt m0).2 ⟨_, _, _, rfl, b0, b1⟩
    · refine ⟨_, rfl, p, _, _, _, rfl, rfl, SqL.of hp, at2 _ _ _, _, _, rfl, rfl, ?_⟩
      refine ⟨_, rfl, p, _, _, 2, rfl, rfl, hp, rfl, ?_⟩
      refine ⟨_, rfl, p, _, _, _, rfl, rfl, SqL.of upd_same, at1 _ _ _, ?_⟩
      refine ⟨_, rfl, _, rfl, _, _, rfl, rfl, .inl ⟨by omega, by omega⟩, ?_⟩
      refine ⟨_, rfl, p, _, _, _, rfl, rfl, SqL.of upd_same, at2 _ _ _, _, _, rfl, rfl, .inr ⟨by decide, by decide⟩, ?_⟩
      refine ⟨_, _, rfl, rfl, _, _, rfl, rfl, .inl ⟨_, rfl, _, _, rfl, rfl, (by show (2147483399 : Int) ≠ 0; decide), ?_⟩⟩
      have x1 := mod_lt (a := (b * b + (c + 1) * 3571 + 40692 : Int)) (m := 2147483399) (by decide)
      refine ⟨_, rfl, _, rfl, _, _, rfl, rfl, .inl ⟨Int.lt_of_lt_of_le (by decide : -(2 ^ 64 : Int) < 0) x1.1, Int.lt_trans x1.2 (by decide)⟩, _, rfl, _, _, rfl, rfl, ⟨by decide, by decide⟩, _, _, rfl, rfl, .inl ⟨_, rfl, _, _, rfl, rfl, (by show (2147483629 : Int) ≠ 0; decide), ?_⟩⟩
      refine ⟨_, rfl, _, rfl, p, _, _, 1, rfl, rfl, upd_same, rfl, ?_⟩
      refine ⟨_, rfl, _, _, rfl, rfl, ⟨by decide, by decide⟩, .inl ⟨_, rfl, _, rfl, _, _, rfl, rfl, by omega, ?_⟩⟩
      rw [upd_upd]
      exact q _ _ (mod_lt m0).1 (mod_lt m0).2 ⟨_, _, _, rfl, (mod_lt (m := 2147483629) (by decide)).1, Int.lt_trans (mod_lt (m := 2147483629) (by decide)).2 (by decide)⟩
end
end K14
namespace K14
open PySem PySem.Spec PyProof.Rows L2
section
variable {w : World} {K : PySem.W.Frag} {mg : Str → Option Value} {base : Heap}
def spInt : Sp := fun vs H Q _ => ∃ (n : Int), vs = [.int n] ∧ Q (.bl true) H
theorem ok_law_int (T : Tx K mg) : Ok PG w K mg base CX0 2 (a_law_int K) p_law_int spInt := by
  refine Ok.of 1 T.f_law_int sc_law_int bi_law_int (by decide) (fun vs H Q E h => ?_) (fun cdv A outer s H vs Q E hr h => ?_)
  · obtain ⟨_, rfl, _⟩ := h
    rfl
  · obtain ⟨n, rfl, q⟩ := h
    refine ⟨_, pss_one (ps_ret (pe_and (pe_callB call_isi (by rfl) T.m_isinstance (by decide +kernel) (pa_cons (pv 0) (pa_cons (pe_bltn (v := .ty "int") (by rfl) T.m_int (by decide +kernel) rfl) pa_nil)))
      (pe_one (pe_not (pe_callB call_isi (by rfl) T.m_isinstance (by decide +kernel) (pa_cons (pv 0) (pa_cons (pe_bltn (v := .ty "bool") (by rfl) T.m_bool (by decide +kernel) rfl) pa_nil))))))), ?_⟩
    refine ⟨_, rfl, _, _, _, _, true, rfl, .ty _, .base (.int n), kit_ty (by decide +kernel), _, rfl, yep rfl ?_⟩
    exact ⟨_, rfl, _, _, _, _, false, rfl, .ty _, .base (.int n), kit_ty (by decide +kernel), _, rfl, q⟩
def spSame (K : PySem.W.Frag) (n : Nat) : Sp := fun vs H Q _ => ∃ (x y : V), vs = [x, y] ∧ Eqd K n H x y ∧ Q (.bl true) H
def spLow (K : PySem.W.Frag) : Nat → Sp
  | 0 => fun _ _ _ _ => False
  | n + 1 => spSame K n
theorem same_at (T : Tx K mg) (n k : Nat) (R0 : Ok PG w K mg base CX0 k (a_law_same K) p_law_same (spLow K n)) (hk : 2 ≤ k) : Ok PG w K mg base CX0 (k + 1) (a_law_same K) p_law_same (spSame K n) := by
  refine Ok.of k T.f_law_same sc_law_same bi_law_same (Nat.le_refl _) (fun vs H Q E h => ?_) (fun cdv A outer s H vs Q E hr h => ?_)
  · obtain ⟨_, _, rfl, _⟩ := h
    rfl
  · obtain ⟨x, y, rfl, hd, q⟩ := h
    have nd := sc_law_same.nd
    refine ⟨_, pss_cons (ps_if (pt_cmpR op_isN (pv 1) pe_non (nomark _)) (pss_one (ps_ret (pe_cmpR op_isN (pv 0) pe_non (nomark _)))) pss_nil)
      (pss_cons (ps_if (pt_cmpR op_isTF (pv 1) pe_bl (nomark _)) (pss_one (ps_ret (pe_cmpR op_isTF (pv 0) pe_bl (nomark _)))) pss_nil)
      (pss_cons (ps_if (pt_cmpR op_isTF (pv 1) pe_bl (nomark _)) (pss_one (ps_ret (pe_cmpR op_isTF (pv 0) pe_bl (nomark _)))) pss_nil)
      (pss_cons (ps_if (pt_val (pe_callB call_isi (by rfl) T.m_isinstance (by decide +kernel) (pa_cons (pv 1) (pa_cons (pe_bltn (v := .ty "int") (by rfl) T.m_int (by decide +kernel) rfl) pa_nil)))) (pss_one (ps_ret (pe_and (pc (ok_law_int T) (hr.mono hk) T.g_law_int pass0 (pa_cons (pv 0) pa_nil)) (pe_one (pe_cmpR op_eq (pv 0) (pv 1) (nomark _)))))) pss_nil)
      (pss_cons (ps_if (pt_val (pe_callB call_isi (by rfl) T.m_isinstance (by decide +kernel) (pa_cons (pv 1) (pa_cons (pe_bltn (v := .ty "str") (by rfl) T.m_str (by decide +kernel) rfl) pa_nil)))) (pss_one (ps_ret (pe_and (pe_callB call_isi (by rfl) T.m_isinstance (by decide +kernel) (pa_cons (pv 0) (pa_cons (pe_bltn (v := .ty "str") (by rfl) T.m_str (by decide +kernel) rfl) pa_nil))) (pe_one (pe_cmpR op_eq (pv 0) (pv 1) (nomark _)))))) pss_nil)
      (pss_cons (ps_if (pt_val (pe_callB call_isi (by rfl) T.m_isinstance (by decide +kernel) (pa_cons (pv 1) (pa_cons (pe_bltn (v := .ty "tuple") (by rfl) T.m_tuple (by decide +kernel) rfl) pa_nil))))
        (pss_one (ps_if (PW.pt (pw_or (pt_not (pt_val (pe_callB call_isi (by rfl) T.m_isinstance (by decide +kernel) (pa_cons (pv 0) (pa_cons (pe_bltn (v := .ty "tuple") (by rfl) T.m_tuple (by decide +kernel) rfl) pa_nil))))) (pw_or1 (pt_cmpR op_ne (pe_callB call_len_seq (by rfl) T.m_len PySem.boot_len (pa_cons (pv 0) pa_nil)) (pe_callB call_len_seq (by rfl) T.m_len PySem.boot_len (pa_cons (pv 1) pa_nil)) (nomark _))))) (pss_one (ps_ret pe_bl)) pss_nil))
        (pss_one (ps_if (PW.pt (pw_or (pt_not (pt_val (pe_callB call_isi (by rfl) T.m_isinstance (by decide +kernel) (pa_cons (pv 0) (pa_cons (pe_bltn (v := .ty "list") (by rfl) T.m_list (by decide +kernel) rfl) pa_nil))))) (pw_or1 (pt_cmpR op_ne (pe_callB call_len_seq (by rfl) T.m_len PySem.boot_len (pa_cons (pv 0) pa_nil)) (pe_callB call_len_seq (by rfl) T.m_len PySem.boot_len (pa_cons (pv 1) pa_nil)) (nomark _))))) (pss_one (ps_ret pe_bl)) pss_nil)))
      (pss_cons (ps_for (passX rfl) rfl (pi_range1 rfl T.m_range (pa_cons (pe_callB call_len_seq (by rfl) T.m_len PySem.boot_len (pa_cons (pv 1) pa_nil)) pa_nil)) (pg_name (i := 2) nd rfl (.inl rfl))
        (pss_one (ps_if (pt_not (pt_val (pc R0 hr T.g_law_same pass0 (pa_cons (pe_ix ix_seq (pv 0) (pv 2) (fun _ _ => rfl)) (pa_cons (pe_ix ix_seq (pv 1) (pv 2) (fun _ _ => rfl)) pa_nil))))) (pss_one (ps_ret pe_bl)) pss_nil)))
      (pss_one (ps_ret pe_bl)))))))), ?_⟩
    have hd2 : (x = y ∧ Atom x) ∨ ∃ m, n = m + 1 ∧ ∃ a b xs ys, x = .ref a ∧ y = .ref b ∧ ((SqT K H a xs ∧ SqT K H b ys) ∨ (SqL K H a xs ∧ SqL K H b ys)) ∧ xs.length = ys.length ∧ xs.length ≤ sizeLine ∧ ∀ (i : Nat) (u v : V), xs[i]? = some u → ys[i]? = some v → Eqd K m H u v := by
      cases n with
      | zero => exact .inl hd
      | succ m => exact hd.imp id fun z => ⟨m, rfl, z⟩
    rcases hd2 with ⟨rfl, ha⟩ | ⟨m, rfl, a, b, xs, ys, rfl, rfl, hs, hl, hz, hi⟩
    · cases ha with
      | non =>
        refine ⟨_, rfl, rfl, _, rfl, yep (by simp) ?_⟩
        exact ⟨_, rfl, rfl, by simpa using q⟩
      | bl b =>
        refine ⟨_, rfl, rfl, _, rfl, nope (by simp) ?_⟩
        cases b with
        | true =>
          refine ⟨_, rfl, _, rfl, _, rfl, yep (by simp) ?_⟩
          exact ⟨_, rfl, _, rfl, by simpa using q⟩
        | false =>
          refine ⟨_, rfl, _, rfl, _, rfl, nope (by simp) ?_⟩
          refine ⟨_, rfl, _, rfl, _, rfl, yep (by simp) ?_⟩
          exact ⟨_, rfl, _, rfl, by simpa using q⟩
      | int i =>
        refine ⟨_, rfl, rfl, _, rfl, nope (by simp) ?_⟩
        refine ⟨_, rfl, _, rfl, _, rfl, nope (by simp) ?_⟩
        refine ⟨_, rfl, _, rfl, _, rfl, nope (by simp) ?_⟩
        refine ⟨_, rfl, _, _, _, _, true, rfl, .ty _, .base (.int i), kit_ty (by decide +kernel), _, rfl, yep rfl ?_⟩
        refine ⟨_, rfl, i, rfl, _, rfl, yep rfl ?_⟩
        exact ⟨_, rfl, _, rfl, rfl, by simpa using q⟩
      | str z =>
        refine ⟨_, rfl, rfl, _, rfl, nope (by simp) ?_⟩
        refine ⟨_, rfl, _, rfl, _, rfl, nope (by simp) ?_⟩
        refine ⟨_, rfl, _, rfl, _, rfl, nope (by simp) ?_⟩
        refine ⟨_, rfl, _, _, _, _, false, rfl, .ty _, .base (.str z), kit_ty (by decide +kernel), _, rfl, nope rfl ?_⟩
        refine ⟨_, rfl, _, _, _, _, true, rfl, .ty _, .base (.str z), kit_ty (by decide +kernel), _, rfl, yep rfl ?_⟩
        refine ⟨_, rfl, _, _, _, _, true, rfl, .ty _, .base (.str z), kit_ty (by decide +kernel), _, rfl, yep rfl ?_⟩
        exact ⟨_, rfl, _, rfl, rfl, by simpa using q⟩
    · refine ⟨_, rfl, rfl, _, rfl, nope (by simp) ?_⟩
      refine ⟨_, rfl, _, rfl, _, rfl, nope (by simp) ?_⟩
      refine ⟨_, rfl, _, rfl, _, rfl, nope (by simp) ?_⟩
      have hsz : ys.length < 2 ^ 62 := by rw [← hl]; rw [sizeLine_eq] at hz; omega
      rcases hs with ⟨h1, h2⟩ | ⟨h1, h2⟩
      · refine ⟨_, rfl, _, _, _, _, false, rfl, .ty _, h2.ty, kit_ty (by decide +kernel), _, rfl, nope rfl ?_⟩
        refine ⟨_, rfl, _, _, _, _, false, rfl, .ty _, h2.ty, kit_ty (by decide +kernel), _, rfl, nope rfl ?_⟩
        refine ⟨_, rfl, _, _, _, _, true, rfl, .ty _, h2.ty, kit_ty (by decide +kernel), _, rfl, yep rfl ?_⟩
        refine ⟨_, rfl, _, _, _, _, true, rfl, .ty _, h1.ty, kit_ty (by decide +kernel), _, rfl, nope rfl ?_⟩
        refine ⟨_, rfl, a, xs, rfl, .inr h1, _, rfl, b, ys, rfl, .inr h2, rfl, _, rfl, nope (by simp [hl]) ?_⟩
        refine ⟨_, rfl, b, ys, rfl, .inr h2, _, rfl, by omega, by omega, ?_⟩
        refine for_range (lo := 0) (n := ys.length) (fun i σ H' => H' = H ∧ σ.length = 3 ∧ σ[0]? = some (some (.ref a)) ∧ σ[1]? = some (some (.ref b))) ⟨rfl, rfl, rfl, rfl⟩ ?_ ?_
        · rintro i σ H' hi' ⟨rfl, hl3, z0, z1⟩
          have hx : xs[i]? = some xs[i] := List.getElem?_eq_getElem (by omega)
          have hy : ys[i]? = some ys[i] := List.getElem?_eq_getElem hi'
          have w0 : (σ.set 2 (some (.int (0 + (i : Nat)))))[0]? = some (some (.ref a)) := by rw [List.getElem?_set_ne (by decide)]; exact z0
          have w1 : (σ.set 2 (some (.int (0 + (i : Nat)))))[1]? = some (some (.ref b)) := by rw [List.getElem?_set_ne (by decide)]; exact z1
          have w2 : (σ.set 2 (some (.int (0 + (i : Nat)))))[2]? = some (some (.int (i : Nat))) := by rw [List.getElem?_set_self (by omega), Int.zero_add]
          refine ⟨_, w0, _, w2, .inr (.inl ⟨a, xs, _, _, rfl, rfl, h1, atI_nat hx, _, w1, _, w2, .inr (.inl ⟨b, ys, _, _, rfl, rfl, h2, atI_nat hy, ?_⟩)⟩)⟩
          exact ⟨_, _, rfl, hi i _ _ hx hy, _, rfl, nope rfl ⟨rfl, by simp [hl3], w0, w1⟩⟩
        · rintro σ H' ⟨rfl, _⟩
          exact q
      · refine ⟨_, rfl, _, _, _, _, false, rfl, .ty _, h2.ty, kit_ty (by decide +kernel), _, rfl, nope rfl ?_⟩
        refine ⟨_, rfl, _, _, _, _, false, rfl, .ty _, h2.ty, kit_ty (by decide +kernel), _, rfl, nope rfl ?_⟩
        refine ⟨_, rfl, _, _, _, _, false, rfl, .ty _, h2.ty, kit_ty (by decide +kernel), _, rfl, nope rfl ?_⟩
        refine ⟨_, rfl, _, _, _, _, true, rfl, .ty _, h1.ty, kit_ty (by decide +kernel), _, rfl, nope rfl ?_⟩
        refine ⟨_, rfl, a, xs, rfl, .inl h1, _, rfl, b, ys, rfl, .inl h2, rfl, _, rfl, nope (by simp [hl]) ?_⟩
        refine ⟨_, rfl, b, ys, rfl, .inl h2, _, rfl, by omega, by omega, ?_⟩
        refine for_range (lo := 0) (n := ys.length) (fun i σ H' => H' = H ∧ σ.length = 3 ∧ σ[0]? = some (some (.ref a)) ∧ σ[1]? = some (some (.ref b))) ⟨rfl, rfl, rfl, rfl⟩ ?_ ?_
        · rintro i σ H' hi' ⟨rfl, hl3, z0, z1⟩
          have hx : xs[i]? = some xs[i] := List.getElem?_eq_getElem (by omega)
          have hy : ys[i]? = some ys[i] := List.getElem?_eq_getElem hi'
          have w0 : (σ.set 2 (some (.int (0 + (i : Nat)))))[0]? = some (some (.ref a)) := by rw [List.getElem?_set_ne (by decide)]; exact z0
          have w1 : (σ.set 2 (some (.int (0 + (i : Nat)))))[1]? = some (some (.ref b)) := by rw [List.getElem?_set_ne (by decide)]; exact z1
          have w2 : (σ.set 2 (some (.int (0 + (i : Nat)))))[2]? = some (some (.int (i : Nat))) := by rw [List.getElem?_set_self (by omega), Int.zero_add]
          refine ⟨_, w0, _, w2, .inl ⟨a, xs, _, _, rfl, rfl, h1, atI_nat hx, _, w1, _, w2, .inl ⟨b, ys, _, _, rfl, rfl, h2, atI_nat hy, ?_⟩⟩⟩
          exact ⟨_, _, rfl, hi i _ _ hx hy, _, rfl, nope rfl ⟨rfl, by simp [hl3], w0, w1⟩⟩
        · rintro σ H' ⟨rfl, _⟩
          exact q
theorem ok_law_same (T : Tx K mg) : ∀ n, Ok PG w K mg base CX0 (3 + n) (a_law_same K) p_law_same (spSame K n)
  | 0 => same_at T 0 2 (by
      obtain ⟨fd, F⟩ := T.f_law_same
      exact ⟨fd, ⟨fun _ _ _ _ h => h.elim, fun _ _ _ _ _ _ _ _ _ _ _ _ _ h => h.elim⟩, bi_law_same F, F.kp⟩) (Nat.le_refl _)
  | n + 1 => same_at T (n + 1) (3 + n) (ok_law_same T n) (by omega)
end
end K14
namespace K14
open PySem PySem.Spec PyProof.Rows L2
section
variable {w : World} {K : PySem.W.Frag} {mg : Str → Option Value} {base : Heap}
abbrev xT (n : Int) : HO := .xd [("count", .int n)]
abbrev xB (i n : Int) : HO := .xd [("number", .int n), ("place", .int i)]
def spCount (K : PySem.W.Frag) : Sp := fun vs H Q E => ∃ (n m : Int), vs = [.int n, .int m] ∧ (n > m → Rs (c_TooLong K) (xT n) H E) ∧ (¬ n > m → Q .non H)
theorem ok_check_count (T : Tx K mg) : Ok PG w K mg base (L2.CX PG w) 3 (a_check_count K) p_check_count (spCount K) := by
  refine Ok.of 2 T.f_check_count sc_check_count bi_check_count (by decide) (fun vs H Q E h => ?_) (fun cdv A outer s H vs Q E hr h => ?_)
  · obtain ⟨n, m, rfl, _⟩ := h
    rfl
  · obtain ⟨n, m, rfl, h1, h2⟩ := h
    refine ⟨_, pss_one (ps_if (pt_cmpR op_gt (pv 0) (pv 1) (nomark _)) (pss_one (ps_raiseX rfl T.e_TooLong (by decide) (by decide) hr (takes_of rfl rfl rfl rfl) rfl (pa_cons (pv 0) pa_nil))) pss_nil), ?_⟩
    refine ⟨_, rfl, _, rfl, _, _, rfl, rfl, _, rfl, ?_⟩
    refine ite2 (fun c => ?_) (fun c => ?_)
    · refine ⟨_, rfl, rfl, fun d hd => (h1 (of_decide_eq_true c)).now d hd⟩
    · exact h2 (of_decide_eq_false (by simpa using c))
def spNeg (K : PySem.W.Frag) : Sp := fun vs H Q E => ∃ (n : Int), vs = [.int n] ∧ (n < 0 → Rs (c_BadNumber K) (xB 0 n) H E) ∧ (¬ n < 0 → Q .non H)
theorem ok_check_not_negative (T : Tx K mg) : Ok PG w K mg base (L2.CX PG w) 3 (a_check_not_negative K) p_check_not_negative (spNeg K) := by
  refine Ok.of 2 T.f_check_not_negative sc_check_not_negative bi_check_not_negative (by decide) (fun vs H Q E h => ?_) (fun cdv A outer s H vs Q E hr h => ?_)
  · obtain ⟨n, rfl, _⟩ := h
    rfl
  · obtain ⟨n, rfl, h1, h2⟩ := h
    refine ⟨_, pss_one (ps_if (pt_cmpR op_lt (pv 0) pe_int (nomark _)) (pss_one (ps_raiseX rfl T.e_BadNumber (by decide) (by decide) hr (takes_of rfl rfl rfl rfl) rfl (pa_cons pe_int (pa_cons (pv 0) pa_nil)))) pss_nil), ?_⟩
    refine ⟨_, rfl, _, _, rfl, rfl, _, rfl, ?_⟩
    refine ite2 (fun c => ?_) (fun c => ?_)
    · refine ⟨_, rfl, rfl, fun d hd => (h1 (of_decide_eq_true c)).now d hd⟩
    · exact h2 (of_decide_eq_false (by simpa using c))
/-- the first of ns that is not from 0 to g -/
def bad (g : Int) : Nat → List Int → Option (Nat × Int)
  | _, [] => none
  | i, n :: ns => if 0 ≤ n ∧ n ≤ g then bad g (i + 1) ns else some (i, n)
theorem bad_step {g : Int} : ∀ {k : Nat} {ns : List Int} {i : Nat}, bad g (k + i) (ns.drop i) = bad g k ns → ∀ {n : Int}, ns[i]? = some n → (0 ≤ n ∧ n ≤ g → bad g (k + (i + 1)) (ns.drop (i + 1)) = bad g k ns) ∧ (¬ (0 ≤ n ∧ n ≤ g) → bad g k ns = some (k + i, n)) := by
  intro k ns i h n hn
  obtain ⟨hi, e⟩ := List.getElem?_eq_some_iff.mp hn
  rw [List.drop_eq_getElem_cons hi, e] at h
  constructor
  · intro c
    rw [← h, bad, if_pos c]
    rfl
  · intro c
    rw [← h, bad, if_neg c]
theorem bad_end {g : Int} {k : Nat} {ns : List Int} (h : bad g (k + ns.length) (ns.drop ns.length) = bad g k ns) : bad g k ns = none := by
  rw [← h, List.drop_length]
  rfl
theorem bad_none {g : Int} : ∀ {k : Nat} {ns : List Int}, bad g k ns = none ↔ ∀ n ∈ ns, 0 ≤ n ∧ n ≤ g
  | _, [] => by simp [bad]
  | k, n :: ns => by
    rw [bad]
    split
    · rename_i c
      rw [bad_none (ns := ns)]
      simp [c]
    · rename_i c
      simp [c]
def spOneNum (K : PySem.W.Frag) : Sp := fun vs H Q E => ∃ (i n g : Int), vs = [.int i, .int n, .int g] ∧ (¬ (0 ≤ n ∧ n ≤ g) → Rs (c_BadNumber K) (xB i n) H E) ∧ (0 ≤ n ∧ n ≤ g → Q .non H)
theorem ok_check_number (T : Tx K mg) : Ok PG w K mg base (L2.CX PG w) 2 (a_check_number K) p_check_number (spOneNum K) := by
  refine Ok.of 1 T.f_check_number sc_check_number bi_check_number (by decide) (fun vs H Q E h => ?_) (fun cdv A outer s H vs Q E hr h => ?_)
  · obtain ⟨_, _, _, rfl, _⟩ := h
    rfl
  · obtain ⟨i, n, g, rfl, h1, h2⟩ := h
    refine ⟨_, pss_one (ps_if (pt_not (pt_chain op_le op_le pe_int (pv 1) (pv 2))) (pss_one (ps_raiseX rfl T.e_BadNumber (by decide) (by decide) hr (takes_of rfl rfl rfl rfl) rfl (pa_cons (pv 0) (pa_cons (pv 1) pa_nil)))) pss_nil), ?_⟩
    refine ⟨_, rfl, _, _, rfl, rfl, _, rfl, ite2 (fun c => ?_) (fun c => ?_)⟩
    · refine ⟨_, rfl, _, _, rfl, rfl, _, rfl, ite2 (fun d => ?_) (fun d => ?_)⟩
      · exact ⟨_, rfl, _, rfl, rfl, fun z hz => (h1 (fun y => by simp [y.2] at d)).now z hz⟩
      · exact h2 ⟨of_decide_eq_true c, by simpa using d⟩
    · refine ⟨_, rfl, iteT ?_⟩
      exact ⟨_, rfl, _, rfl, rfl, fun z hz => (h1 (fun y => c (decide_eq_true y.1))).now z hz⟩
def spNums (K : PySem.W.Frag) : Sp := fun vs H Q E => ∃ (a : Addr) (ns : List Int) (g : Int), vs = [.ref a, .int g] ∧ SqA K H a (ns.map V.int) ∧
  (∀ i n, bad g 0 ns = some (i, n) → Rs (c_BadNumber K) (xB (i : Nat) n) H E) ∧ (bad g 0 ns = none → ∀ H', Same H H' → Q .non H')
theorem ok_check_numbers (T : Tx K mg) : Ok PG w K mg base (L2.CX PG w) 3 (a_check_numbers K) p_check_numbers (spNums K) := by
  refine Ok.of 2 T.f_check_numbers sc_check_numbers bi_check_numbers (by decide) (fun vs H Q E h => ?_) (fun cdv A outer s H vs Q E hr h => ?_)
  · obtain ⟨n, m, _, rfl, _⟩ := h
    rfl
  · obtain ⟨a, ns, g, rfl, hs, h1, h2⟩ := h
    have nd := sc_check_numbers.nd
    refine ⟨_, pss_one (ps_for (passX rfl) rfl (pi_enumW (by rfl) T.m_enumerate (pa_cons (pv 0) pa_nil)) (pg_tup rfl (pgs_cons (pg_name (i := 2) nd rfl (.inl rfl)) (pgs_cons (pg_name (i := 3) nd rfl (.inl rfl)) pgs_nil)))
      (pss_one (ps_expr (pc (ok_check_number T) hr T.g_check_number px (pa_cons (pv 2) (pa_cons (pv 3) (pa_cons (pv 1) pa_nil))))))), ?_⟩
    refine ⟨_, rfl, a, ns.map V.int, rfl, hs, fun J G hG wk => ?_⟩
    refine for_it wk (fun i σ H' => Same H H' ∧ bad g (0 + i) (ns.drop i) = bad g 0 ns ∧ σ.length = 4 ∧ σ[1]? = some (some (.int g))) ⟨.refl _, rfl, rfl, rfl⟩ (fun i σ H' _ p => hG H' p.1) (fun i x σ H0 H1 hi p y => ?_) (fun σ H' p => ?_)
    · obtain ⟨sm, hb, hl, hg⟩ := p
      obtain ⟨T', x', y', rfl, hT, rfl, e1, e2⟩ := y
      obtain ⟨n, hn, rfl⟩ := map_get e2
      cases e1
      have sm' : Same H (upd H0 T' (.tup [.int (i : Nat), .int n])) := sm.new' hT
      obtain ⟨b1, b2⟩ := bad_step hb hn
      have z2 : ((σ.set 2 (some (V.int (i : Nat)))).set 3 (some (V.int n)))[2]? = some (some (.int (i : Nat))) := by
        rw [List.getElem?_set_ne (by decide), List.getElem?_set_self (by omega)]
      have z3 : ((σ.set 2 (some (V.int (i : Nat)))).set 3 (some (V.int n)))[3]? = some (some (.int n)) := by
        rw [List.getElem?_set_self (by rw [List.length_set]; omega)]
      have z1 : ((σ.set 2 (some (V.int (i : Nat)))).set 3 (some (V.int n)))[1]? = some (some (.int g)) := by
        rw [List.getElem?_set_ne (by decide), List.getElem?_set_ne (by decide)]; exact hg
      refine ⟨T', _, rfl, SqT.of upd_same, rfl, _, _, rfl, _, _, rfl, rfl, ?_⟩
      exact ⟨_, z2, _, z3, _, z1, (i : Nat), n, g, rfl, fun c d H2 s2 hd => h1 i n (by have := b2 c; rwa [Nat.zero_add] at this) _ _ (sm'.trans s2) hd, fun c => ⟨sm', b1 c, by simp [hl], z1⟩⟩
    · refine h2 (bad_end (k := 0) ?_) H' p.1
      have := p.2.1
      rwa [List.length_map] at this
end
end K14
namespace K14
open PySem PySem.Spec PyProof.Rows L2
section
variable {w : World} {K : PySem.W.Frag} {mg : Str → Option Value} {base : Heap}
def spWants (_K : PySem.W.Frag) : Sp := fun vs H Q _ => ∃ (p : Addr) (st : List V) (n m : Int), vs = [.ref p, .int n, .int m] ∧ 0 ≤ n ∧ n ≤ 100 ∧ 0 ≤ m ∧ m < 2 ^ 190 ∧ H p = some (.lst st) ∧ PoolOk st ∧
  ∀ (H' : Hp) (l : Addr) (ns : List Int) (st' : List V), But p H H' → H' p = some (.lst st') → PoolOk st' → H l = none → H' l = some (.lst (ns.map V.int)) → ns.length = n.toNat → (∀ x ∈ ns, 0 ≤ x ∧ x ≤ m) → Q (.ref l) H'
theorem ok_law_wants (T : Tx K mg) : Ok PG w K mg base CX0 4 (a_law_wants K) p_law_wants (spWants K) := by
  refine Ok.of 3 T.f_law_wants sc_law_wants bi_law_wants (by decide) (fun vs H Q E h => ?_) (fun cdv A outer s H vs Q E hr h => ?_)
  · obtain ⟨_, _, _, _, rfl, _⟩ := h
    rfl
  · obtain ⟨p, st, n, m, rfl, n0, n1, m0, m1, hp, ok, q⟩ := h
    have nd := sc_law_wants.nd
    refine ⟨_, pss_one (ps_ret (pe_lc (own := [("night", 3)]) (g := gName 3) (tt := tYes) rfl nd (pi_range1 rfl T.m_range (pa_cons (pv 1) pa_nil)) (blkOk_by (N := n_law_wants) (sc := defScope s_law_wants) (by decide +kernel)) (fun _ _ _ _ _ => pg_name (i := 3) nd rfl (Or.inl rfl)) (fun _ _ _ _ _ => pts_nil)
      (fun _ _ _ _ _ => pc (ok_law_draw T) (hr.mono (by decide)) T.g_law_draw pass0 (pa_cons (pv 0) (pa_cons (pe_op op_add (pv 2) pe_int) pa_nil))))), ?_⟩
    refine ⟨_, rfl, n, rfl, by omega, by omega, fun D hD => ?_⟩
    have hDp : D ≠ p := fun z => by rw [z, hp] at hD; cases hD
    refine lc_range (lo := 0) (n := n.toNat) (fun i H' => ∃ (ns : List Int) (st' : List V), But p H H' ∧ H' p = some (.lst st') ∧ PoolOk st' ∧ H' D = some (.lst (ns.map V.int)) ∧ ns.length = i ∧ ∀ x ∈ ns, 0 ≤ x ∧ x ≤ m) ⟨[], st, .of (.new hD), by rw [upd_ne (Ne.symm hDp)]; exact hp, ok, upd_same, rfl, fun x hx => by cases hx⟩ ?_ ?_
    · rintro i H' hi ⟨ns, st', bt, hp', ok', hl, hn, hb⟩
      refine ⟨rfl, ?_⟩
      refine yesT ?_
      refine ⟨_, rfl, _, rfl, _, _, rfl, rfl, p, st', m + 1, rfl, by omega, ?_, hp', ok', fun v st2 v0 v1 ok2 => ?_⟩
      · have : (m + 1).natAbs < 2 ^ 191 := by omega
        exact Nat.lt_trans this (by decide)
      · refine ⟨ns.map V.int, by rw [upd_ne hDp]; exact hl, by rw [List.length_map, hn, sizeLine_eq]; omega, ns ++ [v], st2, ?_, ?_, ok2, ?_, ?_, ?_⟩
        · intro b o nb hb'
          have nbD : b ≠ D := fun z => by rw [z, hD] at hb'; cases hb'
          rw [upd_ne nbD, upd_ne nb]
          exact bt b o nb hb'
        · rw [upd_ne (Ne.symm hDp), upd_same]
        · rw [upd_same, List.map_append]; rfl
        · rw [List.length_append, hn]; rfl
        · intro x hx
          rcases List.mem_append.mp hx with hx | hx
          · exact hb x hx
          · rw [List.mem_singleton.mp hx]
            exact ⟨v0, by omega⟩
    · rintro H' ⟨ns, st', bt, hp', ok', hl, hn, hb⟩
      exact q H' D ns st' bt hp' ok' hD hl hn hb
end
end K14

set_option maxRecDepth 100000
set_option maxHeartbeats 4000000
/-! # Lists of numbers drawn from a pool -/
namespace L2
open PySem PySem.Spec PyProof.Rows
/-- [f(pool) for x in range(..)] -/
theorem lc_draws {lo : Int} {n i0 : Nat} {te : TE} {vs : List Nat} {σ : L2.St} {H1 : Hp} {D p : Addr} {st : List V} {Qd : Hp → Prop} {C : Int → Prop} (hp : H1 p = some (.lst st)) (ok : PoolOk st) (hD : H1 D = none) (hn : n ≤ 10000)
    (hte : ∀ (i : Nat) (H2 : Hp) (st2 : List V), H2 p = some (.lst st2) → PoolOk st2 → But p H1 H2 → wipe ((wipe σ vs).set i0 (some (.int (lo + (i : Nat))))) vs = wipe σ vs ∧ ∀ Q : VK, (∀ v H3 st3, C v → But p H2 H3 → H3 p = some (.lst st3) → PoolOk st3 → Q (.int v) H3) → te ((wipe σ vs).set i0 (some (.int (lo + (i : Nat))))) H2 Q)
    (hd : ∀ (H' : Hp) (ns : List Int) (st' : List V), But p H1 H' → H' p = some (.lst st') → PoolOk st' → H' D = some (.lst (ns.map V.int)) → ns.length = n → (∀ x ∈ ns, C x) → Qd H') :
    ∃ W : Nat → Nat → Hp → Prop, (∃ m, W 0 m (upd H1 D (.lst []))) ∧ ∀ i m H, W i m H →
      ((Itr lo n).stop i H ∧ Qd H) ∨ ((Itr lo n).go i H ∧ ∃ Nx : Hp → Prop, (∀ H', Nx H' → ∃ m', m' < m ∧ W (i + 1) m' H') ∧ ∀ x H', (Itr lo n).yld i H x H' → gName i0 x (wipe σ vs) H' fun σ2 H2 => wipe σ2 vs = wipe σ vs ∧ tYes σ2 H2 fun b H3 =>
        if b = true then te σ2 H3 fun y H4 => ∃ acc, H4 D = some (.lst acc) ∧ acc.length < sizeLine ∧ Nx (upd H4 D (.lst (acc ++ [y]))) else Nx H3) := by
  have dp : D ≠ p := fun z => by rw [z, hp] at hD; cases hD
  refine lc_range (lo := lo) (n := n) (fun i H' => ∃ (ns : List Int) (st' : List V), But p H1 H' ∧ H' p = some (.lst st') ∧ PoolOk st' ∧ H' D = some (.lst (ns.map V.int)) ∧ ns.length = i ∧ ∀ x ∈ ns, C x) ⟨[], st, .of (.new hD), by rw [upd_ne (Ne.symm dp)]; exact hp, ok, upd_same, rfl, fun x hx => by cases hx⟩ ?_ ?_
  · rintro i H' hi ⟨ns, st', bt, hp', ok', hl, hn', hb⟩
    obtain ⟨e1, e2⟩ := hte i H' st' hp' ok' bt
    refine ⟨e1, yesT (e2 _ fun v H3 st3 hv b3 hp3 ok3 => ?_)⟩
    refine ⟨ns.map V.int, b3 _ _ dp hl, by rw [List.length_map, hn', sizeLine_eq]; omega, ns ++ [v], st3, fun c o nc hc => ?_, ?_, ok3, ?_, ?_, fun x hx => ?_⟩
    · have nD : c ≠ D := fun z => by rw [z, hD] at hc; cases hc
      rw [upd_ne nD]
      exact b3 c o nc (bt c o nc hc)
    · rw [upd_ne (Ne.symm dp)]; exact hp3
    · rw [upd_same, List.map_append]; rfl
    · rw [List.length_append, hn']; rfl
    · rcases List.mem_append.mp hx with hx | hx
      · exact hb x hx
      · rw [List.mem_singleton.mp hx]; exact hv
  · rintro H' ⟨ns, st', bt, hp', ok', hl, hn', hb⟩
    exact hd H' ns st' bt hp' ok' hl hn' hb
theorem But.none {p l : Addr} {H H' : Hp} {o : HO} (b : But p H H') (hp : H' p = some o) (h : H' l = Option.none) : H l = Option.none := by
  cases e : H l with
  | none => rfl
  | some u =>
    have n : l ≠ p := fun z => by rw [z, hp] at h; cases h
    rw [b l u n e] at h
    cases h
end L2

set_option maxRecDepth 100000
set_option maxHeartbeats 4000000
/-! # Plain lemmas: members of rows of numbers; lists of people -/
namespace L2
open PySem PySem.Spec PyProof.Rows
theorem inV_ints (x : Int) (xs : List Int) : inV (.int x) (xs.map V.int) = decide (x ∈ xs) := by
  unfold inV
  rw [List.any_map]
  induction xs with
  | nil => rfl
  | cons y ys ih =>
    rw [List.any_cons, ih]
    by_cases h : y = x
    · subst h; simp [eqV]
    · have h' : ¬ x = y := fun e => h e.symm
      simp [eqV, h, h']
theorem flat_ints (xs : List Int) : (xs.map V.int).all flatV = true := List.all_eq_true.mpr fun v hv => by obtain ⟨x, _, rfl⟩ := List.mem_map.mp hv; rfl
/-- what is wrong first with a list of people: (false, entry): no person; (true, entry): named twice -/
def badP (n : Int) : List Int → List Int → Option (Bool × Int)
  | _, [] => none
  | pre, p :: ps => if 0 ≤ p ∧ p < n then (if p ∈ pre then some (true, p) else badP n (pre ++ [p]) ps) else some (false, p)
theorem badP_step {n : Int} {ps : List Int} {i : Nat} {p : Int} (h : badP n (ps.take i) (ps.drop i) = badP n [] ps) (hp : ps[i]? = some p) :
    (¬ (0 ≤ p ∧ p < n) → badP n [] ps = some (false, p)) ∧ ((0 ≤ p ∧ p < n) → p ∈ ps.take i → badP n [] ps = some (true, p)) ∧ ((0 ≤ p ∧ p < n) → p ∉ ps.take i → badP n (ps.take (i + 1)) (ps.drop (i + 1)) = badP n [] ps) := by
  obtain ⟨hi, rfl⟩ := List.getElem?_eq_some_iff.mp hp
  rw [List.drop_eq_getElem_cons hi] at h
  refine ⟨fun c => ?_, fun c m => ?_, fun c m => ?_⟩
  · rw [← h, badP, if_neg c]
  · rw [← h, badP, if_pos c, if_pos m]
  · rw [← h, badP, if_pos c, if_neg m, List.take_succ, hp]
    rfl
theorem badP_end {n : Int} {ps : List Int} (h : badP n (ps.take ps.length) (ps.drop ps.length) = badP n [] ps) : badP n [] ps = none := by
  rw [← h, List.drop_length, badP]
theorem badP_none {n : Int} : ∀ {ps pre : List Int}, badP n pre ps = none ↔ (∀ p ∈ ps, 0 ≤ p ∧ p < n) ∧ ps.Nodup ∧ ∀ p ∈ ps, p ∉ pre
  | [], pre => by simp [badP]
  | p :: ps, pre => by
    rw [badP]
    split
    · rename_i c
      split
      · rename_i m
        simp [m]
      · rename_i m
        rw [badP_none (ps := ps)]
        constructor
        · rintro ⟨h1, h2, h3⟩
          refine ⟨fun x hx => ?_, List.nodup_cons.mpr ⟨fun z => ?_, h2⟩, fun x hx => ?_⟩
          · rcases List.mem_cons.mp hx with rfl | hx
            · exact c
            · exact h1 x hx
          · exact h3 p z (by simp)
          · rcases List.mem_cons.mp hx with rfl | hx
            · exact m
            · exact fun z => h3 x hx (by simp [z])
        · rintro ⟨h1, h2, h3⟩
          refine ⟨fun x hx => h1 x (by simp [hx]), (List.nodup_cons.mp h2).2, fun x hx z => ?_⟩
          rcases List.mem_append.mp z with z | z
          · exact h3 x (by simp [hx]) z
          · rw [List.mem_singleton.mp z] at hx
            exact (List.nodup_cons.mp h2).1 hx
    · rename_i c
      constructor
      · intro z; cases z
      · rintro ⟨h1, _, _⟩
        exact absurd (h1 p (by simp)) c
theorem badP_run (n : Nat) : badP (n : Nat) [] ((List.range n).map fun i => ((i : Nat) : Int)) = none := by
  rw [badP_none]
  refine ⟨fun p hp => ?_, ?_, fun p _ z => by cases z⟩
  · obtain ⟨i, hi, rfl⟩ := List.mem_map.mp hp
    have := List.mem_range.mp hi
    omega
  · unfold List.Nodup
    rw [List.pairwise_map]
    exact List.Pairwise.imp (fun h e => h (by omega)) (List.nodup_range : (List.range n).Nodup)
/-! ## slices -/
theorem cutTo (xs : List V) (j : Nat) : cutV xs none (some ((j : Nat) : Int)) = xs.take j := by
  unfold cutV
  rw [HT.sIx_none, HT.sIx_nat, List.drop_zero, Nat.sub_zero]
  rcases Nat.le_total j xs.length with h | h
  · rw [Nat.min_eq_left h]
  · rw [Nat.min_eq_right h, List.take_of_length_le h, List.take_of_length_le (Nat.le_refl _)]
theorem cutFrom (xs : List V) (j : Nat) : cutV xs (some ((j : Nat) : Int)) none = xs.drop j := by
  unfold cutV
  rw [HT.sIx_none, HT.sIx_nat]
  rcases Nat.le_total j xs.length with h | h
  · rw [Nat.min_eq_left h, List.take_of_length_le (by rw [List.length_drop]; exact Nat.le_refl _)]
  · rw [Nat.min_eq_right h, Nat.sub_self, List.take_zero, List.drop_of_length_le h]
theorem cutEnd (xs : List V) (j : Nat) : cutV xs (some ((j : Nat) : Int)) (some ((xs.length : Nat) : Int)) = xs.drop j := by
  unfold cutV
  rw [HT.sIx_nat, HT.sIx_nat, Nat.min_self]
  rcases Nat.le_total j xs.length with h | h
  · rw [Nat.min_eq_left h, List.take_of_length_le (by rw [List.length_drop]; exact Nat.le_refl _)]
  · rw [Nat.min_eq_right h, Nat.sub_self, List.take_zero, List.drop_of_length_le h]
/-- len(x) within a comprehension -/
def rLenQ (K : PySem.W.Frag) : List V → Hp → VK → Prop := fun xs H Q => ∃ p ys, xs = [V.ref p] ∧ (SqL K H p ys ∨ SqT K H p ys) ∧ Q (.int ((ys.length : Nat) : Int)) H
/-- a block of two: what the rest asks is shown once, for every memory that the first may leave -/
theorem seqP {t u : TS} {D : Ends} {σ : L2.St} {H : Hp} (P : Hp → Prop) (h2 : ∀ H', P H' → u D σ H') (h1 : (∀ H', P H' → u D σ H') → t { D with nx := u D } σ H) : tSeq t u D σ H := h1 h2
theorem seqQ {t u : TS} {D : Ends} {σ : L2.St} {H : Hp} (P : L2.St → Hp → Prop) (h2 : ∀ σ' H', P σ' H' → u D σ' H') (h1 : (∀ σ' H', P σ' H' → u D σ' H') → t { D with nx := u D } σ H) : tSeq t u D σ H := h1 h2
/-- a drawn place of a written row -/
theorem pick {ms : List Int} {v : Int} (h0 : 0 ≤ v) (h1 : v < ms.length) : ∃ m ∈ ms, atI (ms.map V.int) v = some (.int m) := by
  obtain ⟨j, rfl⟩ : ∃ j : Nat, v = (j : Nat) := ⟨v.toNat, by omega⟩
  have hj : j < ms.length := by omega
  exact ⟨ms[j], List.getElem_mem hj, atI_nat (by rw [List.getElem?_map, List.getElem?_eq_getElem hj]; rfl)⟩
theorem atI_neg1 {α : Type} {xs : List α} {v : α} (h : xs[xs.length - 1]? = some v) : atI xs (-1) = some v := by
  obtain ⟨hi, e⟩ := List.getElem?_eq_some_iff.mp h
  have ne : xs ≠ [] := fun z => by rw [z] at hi; cases hi
  have : xs = xs.dropLast ++ [v] := by
    rw [← e, ← List.getLast_eq_getElem ne]
    exact (List.dropLast_concat_getLast ne).symm
  rw [this]
  exact atI_last _ _
/-- a loop's body -/
def forBodyL : Stmt → List Stmt
  | .For _ _ b _ _ => b
  | _ => []
end L2

set_option maxRecDepth 100000
set_option maxHeartbeats 4000000
/-! # rows of numbers: ==, != -/
namespace L2
open PySem PySem.Spec PyProof.Rows
theorem dp_ints {K : PySem.W.Frag} {H : Hp} : ∀ (ns : List Int), DpAll K H (ns.map V.int) (ns.map PyData.int)
  | [] => .nil
  | n :: ns => .cons (.int n) (dp_ints ns)
theorem eqvAll_ints : ∀ (ns ms : List Int), PyData.eqvAll (ns.map PyData.int) (ms.map PyData.int) = decide (ns = ms)
  | [], [] => rfl
  | [], _ :: _ => rfl
  | _ :: _, [] => rfl
  | n :: ns, m :: ms => by
    rw [List.map_cons, List.map_cons, PyData.eqvAll, eqvAll_ints ns ms]
    show (decide (n = m) && decide (ns = ms)) = _
    by_cases h : n = m <;> by_cases h' : ns = ms <;> simp [h, h']
theorem shaped_tup (ns : List Int) : SeqAt.shaped (.tuple (ns.map PyData.int)) = true := by
  simp [SeqAt.shaped, PyData.canLay0, PyData.depth, PySem.W.ke_canLayAll0, PySem.W.ke_depthAll]
theorem shaped_lst (ns : List Int) : SeqAt.shaped (.list (ns.map PyData.int)) = true := by
  simp [SeqAt.shaped, PyData.canLay0, PyData.depth, PySem.W.ke_canLayAll0, PySem.W.ke_depthAll]
section
variable {X : Cx}
/-- two rows of numbers, both tuples or both lists -/
def rEqRow (K : PySem.W.Frag) (neg : Bool) : R2 := fun x y H Q => ∃ (a b : Addr) (ns ms : List Int), x = .ref a ∧ y = .ref b ∧ ((SqT K H a (ns.map V.int) ∧ SqT K H b (ms.map V.int)) ∨ (SqL K H a (ns.map V.int) ∧ SqL K H b (ms.map V.int))) ∧ Q (.bl (if neg = true then !decide (ns = ms) else decide (ns = ms))) H
theorem op_eqRow (hu : X.A.units + 64 < cLine) : OpR X (compareOp .Eq) (rEqRow X.K false) := by
  intro pins s σ H x y v u Q I rx ry h
  obtain ⟨a, b, ns, ms, rfl, rfl, hs, q⟩ := h
  rcases hs with ⟨h1, h2⟩ | ⟨h1, h2⟩
  · refine op_eqD hu pins s σ H _ _ v u Q I rx ry ⟨.tuple (ns.map PyData.int), .tuple (ms.map PyData.int), .tup h1 (dp_ints ns), .tup h2 (dp_ints ms), shaped_tup ns, shaped_tup ms, ?_⟩
    rw [PyData.eqv, eqvAll_ints]
    exact q
  · refine op_eqD hu pins s σ H _ _ v u Q I rx ry ⟨.list (ns.map PyData.int), .list (ms.map PyData.int), .lst h1 (dp_ints ns), .lst h2 (dp_ints ms), shaped_lst ns, shaped_lst ms, ?_⟩
    rw [PyData.eqv, eqvAll_ints]
    exact q
theorem op_neRow (hu : X.A.units + 64 < cLine) : OpR X (compareOp .NotEq) (rEqRow X.K true) := by
  intro pins s σ H x y v u Q I rx ry h
  obtain ⟨a, b, ns, ms, rfl, rfl, hs, q⟩ := h
  rcases hs with ⟨h1, h2⟩ | ⟨h1, h2⟩
  · refine op_neD hu pins s σ H _ _ v u Q I rx ry ⟨.tuple (ns.map PyData.int), .tuple (ms.map PyData.int), .tup h1 (dp_ints ns), .tup h2 (dp_ints ms), shaped_tup ns, shaped_tup ms, ?_⟩
    rw [PyData.eqv, eqvAll_ints]
    exact q
  · refine op_neD hu pins s σ H _ _ v u Q I rx ry ⟨.list (ns.map PyData.int), .list (ms.map PyData.int), .lst h1 (dp_ints ns), .lst h2 (dp_ints ms), shaped_lst ns, shaped_lst ms, ?_⟩
    rw [PyData.eqv, eqvAll_ints]
    exact q
end
end L2

set_option maxRecDepth 100000
set_option maxHeartbeats 4000000
/-! # Readings answered step by step -/
namespace L2
open PySem PySem.Spec PyProof.Rows
theorem Same.get {H H' : Hp} {b : Addr} {o : HO} (s : Same H H') (h : H b = some o) : H' b = some o := s b o h
theorem But.get {p : Addr} {H H' : Hp} {b : Addr} {o : HO} (s : But p H H') (n : b ≠ p) (h : H b = some o) : H' b = some o := s b o n h
theorem ne_free {H : Hp} {a p : Addr} (hp : H p = none) (h : ∃ o, H a = some o) : a ≠ p := fun z => by
  obtain ⟨o, h⟩ := h
  rw [z, hp] at h; cases h
theorem iteD {p A B : Prop} [Decidable p] (h1 : p → A) (h2 : ¬ p → B) : if decide p = true then A else B := by
  by_cases c : p
  · rw [if_pos (decide_eq_true c)]; exact h1 c
  · rw [if_neg (fun z => c (of_decide_eq_true z))]; exact h2 c
theorem iteN {p A B : Prop} [Decidable p] (h1 : ¬ p → A) (h2 : p → B) : if (!decide p) = true then A else B := by
  by_cases c : p
  · rw [decide_eq_true c]; exact iteF (h2 c)
  · rw [decide_eq_false c]; exact iteT (h1 c)
theorem iteB {b : Bool} {A B : Prop} (h1 : b = true → A) (h2 : b = false → B) : if b = true then A else B := by
  cases b with
  | true => exact iteT (h1 rfl)
  | false => exact iteF (h2 rfl)
theorem iteNB {b : Bool} {A B : Prop} (h1 : b = false → A) (h2 : b = true → B) : if (!b) = true then A else B := by
  cases b with
  | true => exact iteF (h2 rfl)
  | false => exact iteT (h1 rfl)
theorem at1 {ms : List Int} {j : Nat} (h : j < ms.length) : atI (ms.map V.int) ((j : Nat) : Int) = some (V.int (ms.getD j 0)) := atI_nat (by rw [List.getElem?_map, List.getD_eq_getElem?_getD, List.getElem?_eq_getElem h]; rfl)
theorem at0 {ms : List Int} {j : Nat} (h : j < ms.length) : atI (ms.map V.int) (0 + ((j : Nat) : Int)) = some (V.int (ms.getD j 0)) := by rw [Int.zero_add]; exact at1 h
theorem atI_z {ms : List Int} {j : Int} (h0 : 0 ≤ j) (h : j < ms.length) : atI (ms.map V.int) j = some (V.int (ms.getD j.toNat 0)) := by
  obtain ⟨k, rfl⟩ : ∃ k : Nat, j = k := ⟨j.toNat, by omega⟩
  exact at1 (by omega)
theorem sizeLe {n : Nat} (h : n.ble 1000 = true) : n ≤ sizeLine := by
  have := Nat.le_of_ble_eq_true h
  rw [sizeLine_eq]; omega
theorem drawOk {m : Int} (h0 : 0 < m) (h : m < 2 ^ 190) : m.natAbs < 2 ^ 200 := by
  have : m.natAbs < 2 ^ 190 := by omega
  exact Nat.lt_trans this (by decide)
theorem flat_one {α : Type} (v : α) : ∀ n : Nat, (List.replicate n [v]).flatten = List.replicate n v
  | 0 => rfl
  | n + 1 => by rw [List.replicate_succ, List.flatten_cons, flat_one v n, List.replicate_succ]; rfl
theorem rep_int (n : Nat) (v : Int) : List.replicate n (V.int v) = (List.replicate n v).map V.int := by rw [List.map_replicate]
theorem tyL {K : PySem.W.Frag} {H : Hp} {p : Addr} (h : ∃ xs, H p = some (.lst xs)) : tyV K "list" (.ref p) H := let ⟨_, h⟩ := h; .inl ⟨rfl, _, SqL.of h⟩
theorem ixN_ok {n : Nat} {i : Int} (h0 : 0 ≤ i) (h : i < n) : ixN n i = some i.toNat := by
  unfold ixN
  rw [if_pos h0, if_pos h]
theorem butLate {p L : Addr} {H H' : Hp} {o : HO} (b : But p H H') (h : H L = none) : But p H (upd H' L o) := fun c u n e => by
  rw [upd_ne (fun z => by rw [z, h] at e; cases e)]
  exact b c u n e
theorem atG {xs : List V} {i : Int} {v : V} (h : atI xs i = some v) : atI xs i = some v := h
theorem tf {G : Prop} (h : true = false) : G := nomatch h
theorem ft {G : Prop} (h : false = true) : G := nomatch h
theorem sameLate {L : Addr} {H H' : Hp} {o : HO} (b : Same H H') (h : H L = none) : Same H (upd H' L o) := fun c u e => by
  rw [upd_ne (fun z => by rw [z, h] at e; cases e)]
  exact b c u e
/-- two lists, or two tuples, of numbers -/
def rEqL (K : PySem.W.Frag) : R2 := fun x y H Q => ∃ (a b : Addr) (ns ms : List Int), x = .ref a ∧ y = .ref b ∧ SqL K H a (ns.map V.int) ∧ SqL K H b (ms.map V.int) ∧ Q (.bl (decide (ns = ms))) H
def rNeL (K : PySem.W.Frag) : R2 := fun x y H Q => ∃ (a b : Addr) (ns ms : List Int), x = .ref a ∧ y = .ref b ∧ SqL K H a (ns.map V.int) ∧ SqL K H b (ms.map V.int) ∧ Q (.bl (!decide (ns = ms))) H
def rEqT (K : PySem.W.Frag) : R2 := fun x y H Q => ∃ (a b : Addr) (ns ms : List Int), x = .ref a ∧ y = .ref b ∧ SqT K H a (ns.map V.int) ∧ SqT K H b (ms.map V.int) ∧ Q (.bl (decide (ns = ms))) H
def rNeT (K : PySem.W.Frag) : R2 := fun x y H Q => ∃ (a b : Addr) (ns ms : List Int), x = .ref a ∧ y = .ref b ∧ SqT K H a (ns.map V.int) ∧ SqT K H b (ms.map V.int) ∧ Q (.bl (!decide (ns = ms))) H
theorem op_eqL {X : Cx} (hu : X.A.units + 64 < cLine) : OpR X (compareOp .Eq) (rEqL X.K) := by
  intro pins s σ H x y v u Q I rx ry h
  obtain ⟨a, b, ns, ms, e1, e2, h1, h2, q⟩ := h
  exact op_eqRow hu pins s σ H x y v u Q I rx ry ⟨a, b, ns, ms, e1, e2, .inr ⟨h1, h2⟩, q⟩
theorem op_neL {X : Cx} (hu : X.A.units + 64 < cLine) : OpR X (compareOp .NotEq) (rNeL X.K) := by
  intro pins s σ H x y v u Q I rx ry h
  obtain ⟨a, b, ns, ms, e1, e2, h1, h2, q⟩ := h
  exact op_neRow hu pins s σ H x y v u Q I rx ry ⟨a, b, ns, ms, e1, e2, .inr ⟨h1, h2⟩, q⟩
theorem op_eqT {X : Cx} (hu : X.A.units + 64 < cLine) : OpR X (compareOp .Eq) (rEqT X.K) := by
  intro pins s σ H x y v u Q I rx ry h
  obtain ⟨a, b, ns, ms, e1, e2, h1, h2, q⟩ := h
  exact op_eqRow hu pins s σ H x y v u Q I rx ry ⟨a, b, ns, ms, e1, e2, .inl ⟨h1, h2⟩, q⟩
theorem op_neT {X : Cx} (hu : X.A.units + 64 < cLine) : OpR X (compareOp .NotEq) (rNeT X.K) := by
  intro pins s σ H x y v u Q I rx ry h
  obtain ⟨a, b, ns, ms, e1, e2, h1, h2, q⟩ := h
  exact op_neRow hu pins s σ H x y v u Q I rx ry ⟨a, b, ns, ms, e1, e2, .inl ⟨h1, h2⟩, q⟩
theorem lateMid {L : Addr} {H0 H H' : Hp} {o : HO} (h : H L = none) (s0 : Same H0 H) (s : Same H H') : Same H0 (upd H' L o) := s0.trans (sameLate s h)
theorem getLate {H H' : Hp} {x b : Addr} {o u : HO} (hx : H x = none) (s : Same H H') (h : H b = some u) : upd H' x o b = some u := sameLate s hx _ _ h
theorem at_hd {v : V} {r : List V} : atI (v :: r) 0 = some v := atI_nat (j := 0) rfl
theorem repL {K : PySem.W.Frag} {H : Hp} {a : Addr} {n : Nat} {v : Int} (h : H a = some (.lst (List.replicate n [V.int v]).flatten)) : SqL K H a ((List.replicate n v).map V.int) := by
  rw [flat_one, rep_int] at h
  exact .of h
/-- [i] * k -/
def rRepI : R2 := fun x y H Q => ∃ (l : Addr) (k i : Int), x = .ref l ∧ y = .int k ∧ H l = some (.lst [.int i]) ∧ -(2 ^ 63) ≤ k ∧ k < 2 ^ 63 ∧ k.toNat ≤ sizeLine ∧ ∀ p, H p = none → Q (.ref p) (upd H p (.lst ((List.replicate k.toNat i).map V.int)))
theorem op_repI {X : Cx} : OpR X (binaryOp .Mult) rRepI := by
  intro pins s σ H x y v u Q I rx ry h
  obtain ⟨l, k, i, e1, e2, hl, a, b, c, q⟩ := h
  refine op_rep pins s σ H x y v u Q I rx ry ⟨l, k, _, e1, e2, hl, a, b, by show 1 * k.toNat ≤ _; omega, fun p hp => ?_⟩
  rw [flat_one, rep_int]
  exact q p hp
theorem at2I {w a b : Int} (h0 : 0 ≤ w) (h : w < 2) : atI [V.int a, V.int b] w = some (V.int (if w = 0 then a else b)) := by
  rcases (by omega : w = 0 ∨ w = 1) with rfl | rfl <;> rfl
theorem at3I {w a b c : Int} (h0 : 0 ≤ w) (h : w < 3) : atI [V.int a, V.int b, V.int c] w = some (V.int (if w = 0 then a else if w = 1 then b else c)) := by
  rcases (by omega : w = 0 ∨ w = 1 ∨ w = 2) with rfl | rfl | rfl <;> rfl
theorem at4I {w a b c d : Int} (h0 : 0 ≤ w) (h : w < 4) : atI [V.int a, V.int b, V.int c, V.int d] w = some (V.int (if w = 0 then a else if w = 1 then b else if w = 2 then c else d)) := by
  rcases (by omega : w = 0 ∨ w = 1 ∨ w = 2 ∨ w = 3) with rfl | rfl | rfl | rfl <;> rfl
theorem at5I {w a b c d e : Int} (h0 : 0 ≤ w) (h : w < 5) : atI [V.int a, V.int b, V.int c, V.int d, V.int e] w = some (V.int (if w = 0 then a else if w = 1 then b else if w = 2 then c else if w = 3 then d else e)) := by
  rcases (by omega : w = 0 ∨ w = 1 ∨ w = 2 ∨ w = 3 ∨ w = 4) with rfl | rfl | rfl | rfl | rfl <;> rfl
theorem exV {P : V → Prop} {x : V} (h : P x) : ∃ x, P x := ⟨x, h⟩
theorem exA {P : Addr → Prop} {x : Addr} (h : P x) : ∃ x, P x := ⟨x, h⟩
theorem exI {P : Int → Prop} {x : Int} (h : P x) : ∃ x, P x := ⟨x, h⟩
theorem exL {α : Type} {P : List α → Prop} {x : List α} (h : P x) : ∃ x, P x := ⟨x, h⟩
theorem exB {P : Bool → Prop} {x : Bool} (h : P x) : ∃ x, P x := ⟨x, h⟩
theorem exS {P : Str → Prop} {x : Str} (h : P x) : ∃ x, P x := ⟨x, h⟩
theorem exVal {P : Value → Prop} {x : Value} (h : P x) : ∃ x, P x := ⟨x, h⟩
theorem exPI {P : PyData → Prop} {x : PyData} (h : P x) : ∃ x, P x := ⟨x, h⟩
theorem exF {α β : Type} {P : List (α × β) → Prop} {x : List (α × β)} (h : P x) : ∃ x, P x := ⟨x, h⟩
theorem iteX {c A B : Prop} [Decidable c] (h : if c then A else B) : if c then A else B := h
theorem iteDI {a b : Int} {A B : Prop} (h1 : a = b → A) (h2 : a ≠ b → B) : if decide (V.int a = V.int b) = true then A else B := iteD (fun h => h1 (V.int.inj h)) (fun h => h2 fun e => h (by rw [e]))
theorem iteNI {a b : Int} {A B : Prop} (h1 : a ≠ b → A) (h2 : a = b → B) : if (!decide (V.int a = V.int b)) = true then A else B := iteN (fun h => h1 fun e => h (by rw [e])) (fun h => h2 (V.int.inj h))
/-- two statements, one behind the other: here a reading may be cut -/
@[irreducible] def tCutI (t u : TS) : TS := tSeq t u
theorem tCutI_eq (t u : TS) : tCutI t u = tSeq t u := by unfold tCutI; rfl
theorem pss_cutI {X : Cx} {st : Stmt} {sts : List Stmt} {t u : TS} (h1 : PS X st t) (h2 : PSs X sts u) : PSs X (st :: sts) (tCutI t u) := by rw [tCutI_eq]; exact pss_cons h1 h2
theorem cutI {t u : TS} {D : Ends} {σ : L2.St} {H : Hp} (P : L2.St → Hp → Prop) (h1 : ∀ N : L2.St → Hp → Prop, (∀ σ' H', P σ' H' → N σ' H') → t { D with nx := N } σ H) (h2 : ∀ σ' H', P σ' H' → u D σ' H') : tCutI t u D σ H := by
  rw [tCutI_eq]
  exact h1 _ h2
theorem noCut {t u : TS} {D : Ends} {σ : L2.St} {H : Hp} (h : tSeq t u D σ H) : tCutI t u D σ H := by rw [tCutI_eq]; exact h
end L2
open L2
/- the chain of heaps -/
local macro_rules | `(tactic| o_fieldsN) => `(tactic| first
  | exact L2.Same.refl _
  | with_reducible assumption
  | (refine L2.Same.new' ?_ (by with_reducible assumption); o_fieldsN)
  | (refine L2.sameLate ?_ (by with_reducible assumption); o_fieldsN)
  | (refine L2.Same.new' ?_ ((L2.upd_ne (Ne.symm (by with_reducible assumption))).trans (by with_reducible assumption)); o_fieldsN)
  | (refine L2.Same.trans ?_ (by with_reducible assumption); o_fieldsN)
  | (refine L2.lateMid (by with_reducible assumption) ?_ ?_; (· o_fieldsN); (· o_fieldsN))
  | exact L2.But.refl _ _
  | (refine L2.But.trans ?_ (L2.But.of (L2.Same.new (by with_reducible assumption))); o_fieldsN)
  | (refine L2.But.trans ?_ L2.But.set; o_fieldsN)
  | (refine L2.butLate ?_ (by with_reducible assumption); o_fieldsN)
  | (refine L2.But.trans ?_ (by with_reducible assumption); o_fieldsN)
  | (refine L2.But.trans ?_ (L2.But.of (by with_reducible assumption)); o_fieldsN))
/- two places differ -/
local macro_rules | `(tactic| wrow_none_raised) => `(tactic| first
  | with_reducible assumption
  | (refine Ne.symm ?_; with_reducible assumption)
  | (refine L2.ne_free (by with_reducible assumption) ?_; apply Exists.intro; reads_via_all)
  | (refine Ne.symm ?_; refine L2.ne_free (by with_reducible assumption) ?_; apply Exists.intro; reads_via_all))
/- what stands at a place -/
local macro_rules | `(tactic| reads_via_all) => `(tactic| first
  | with_reducible assumption
  | exact L2.upd_same
  | (refine L2.Same.get (L2.Same.new (by with_reducible assumption)) ?_; reads_via_all)
  | (refine L2.getLate (by with_reducible assumption) ?_ ?_; (· o_fieldsN); (· reads_via_all))
  | (refine (L2.upd_ne ?_).trans ?_; (· wrow_none_raised); (· reads_via_all))
  | (refine L2.Same.get (by with_reducible assumption) ?_; reads_via_all)
  | (refine L2.But.get (by with_reducible assumption) ?_ ?_; (· wrow_none_raised); (· reads_via_all)))
/- a side condition -/
local macro_rules | `(tactic| o_readsAll) => `(tactic| first
  | exact rfl
  | with_reducible assumption
  | exact L2.sizeLe rfl
  | reads_via_all
  | exact ⟨by decide, by decide, by decide⟩
  | exact fun _ r => r
  | exact L2.Eqd.atom (.bl _) | exact L2.Eqd.atom (.int _)
  | (refine L2.Same.seq ?_ (by with_reducible assumption); o_fieldsN)
  | (refine L2.Same.seqT ?_ (by with_reducible assumption); o_fieldsN)
  | (refine L2.Same.seqA ?_ (by with_reducible assumption); o_fieldsN)
  | (refine L2.SqL.of ?_; reads_via_all)
  | (refine L2.SqT.of ?_; reads_via_all)
  | ((with_reducible apply Exists.intro); o_readsAll)
  | (refine L2.tyL ?_; (with_reducible apply Exists.intro); reads_via_all)
  | (refine Or.inl ?_; o_readsAll)
  | (refine Or.inr ?_; o_readsAll)
  | wrow_none_raised
  | exact L2.at_hd
  | exact L2.at0 (by omega)
  | exact L2.at1 (by omega)
  | exact L2.atI_z (by omega) (by omega)
  | exact L2.at2I (by omega) (by omega)
  | exact L2.at3I (by omega) (by omega)
  | exact L2.at4I (by omega) (by omega)
  | exact L2.at5I (by omega) (by omega)
  | exact List.getElem?_eq_getElem (by omega)
  | (apply L2.ixN_ok <;> omega)
  | omega
  | exact L2.drawOk (by omega) (by omega)
  | (simp only [L2.flat_one, List.length_map, List.length_append, List.length_replicate, List.length_cons, List.length_nil, PySem.sizeLine_eq]; omega)
  | decide
  | assumption)
/- one step -/
local macro_rules | `(tactic| fold_depth) => `(tactic| first
  | (with_reducible exact L2.tf) | (with_reducible exact L2.ft)
  | (with_reducible intro _)
  | ((with_reducible apply L2.exV)) | ((with_reducible apply L2.exA)) | ((with_reducible apply L2.exI)) | ((with_reducible apply L2.exB)) | ((with_reducible apply L2.exL)) | ((with_reducible apply L2.exS)) | ((with_reducible apply L2.exVal))
  | ((with_reducible refine And.intro ?_ ?_); (· o_readsAll))
  | (with_reducible refine And.intro (fun _ => ?_) ?_)
  | ((with_reducible refine L2.iteX ?_); first
    | (with_reducible refine L2.iteT ?_)
    | (with_reducible refine L2.iteF ?_)
    | ((with_reducible refine L2.iteDI ?_ ?_) <;> intro h <;> first | (exfalso; omega) | exact absurd rfl h | skip)
    | ((with_reducible refine L2.iteNI ?_ ?_) <;> intro h <;> first | (exfalso; omega) | exact absurd rfl h | skip)
    | ((with_reducible refine L2.iteD ?_ ?_) <;> intro h <;> first | (exfalso; omega) | exact absurd rfl h | skip)
    | ((with_reducible refine L2.iteN ?_ ?_) <;> intro h <;> first | (exfalso; omega) | exact absurd rfl h | skip)
    | refine L2.iteT ?_
    | refine L2.iteF ?_
    | ((with_reducible refine L2.iteNB ?_ ?_) <;> intro h <;> first | (exfalso; omega) | exact absurd rfl h | skip)
    | ((with_reducible refine L2.iteB ?_ ?_) <;> intro h <;> first | (exfalso; omega) | exact absurd rfl h | skip))
  | ((with_reducible refine Or.inl ?_); (with_reducible refine And.intro ?_ ?_); (· o_readsAll))
  | ((with_reducible refine Or.inr ?_); (with_reducible refine And.intro ?_ ?_); (· o_readsAll)))
local macro_rules | `(tactic| o_reads) => `(tactic| ((repeat' (first | fold_depth | ((conv => whnf); fold_depth))) <;> try ((fail_if_success (with_reducible refine Exists.intro (fun (_ : Nat) => ?_) ?_)); dsimp only)))

set_option maxRecDepth 100000
set_option maxHeartbeats 4000000
/-! # [f(pool, x) for x in xs] -/
namespace L2
open PySem PySem.Spec PyProof.Rows
theorem lc_drawsL {K : PySem.W.Frag} {a : Addr} {ms : List Int} {i0 : Nat} {te : TE} {vs : List Nat} {σ : L2.St} {H1 : Hp} {D p : Addr} {st : List V} {Qd : Hp → Prop} {C : Int → Prop} (hp : H1 p = some (.lst st)) (ok : PoolOk st) (hD : H1 D = none) (ha : H1 a = some (.lst (ms.map V.int))) (na : a ≠ p) (hn : ms.length ≤ 10000)
    (hte : ∀ (x : Int) (H2 : Hp) (st2 : List V), x ∈ ms → H2 p = some (.lst st2) → PoolOk st2 → But p H1 H2 → wipe ((wipe σ vs).set i0 (some (.int x))) vs = wipe σ vs ∧ ∀ Q : VK, (∀ v H3 st3, C v → But p H2 H3 → H3 p = some (.lst st3) → PoolOk st3 → Q (.int v) H3) → te ((wipe σ vs).set i0 (some (.int x))) H2 Q)
    (hd : ∀ (H' : Hp) (ns : List Int) (st' : List V), But p H1 H' → H' p = some (.lst st') → PoolOk st' → D ≠ p → H' D = some (.lst (ns.map V.int)) → ns.length = ms.length → (∀ x ∈ ns, C x) → Qd H') :
    ∃ W : Nat → Nat → Hp → Prop, (∃ m, W 0 m (upd H1 D (.lst []))) ∧ ∀ i m H, W i m H →
      ((Itl K a).stop i H ∧ Qd H) ∨ ((Itl K a).go i H ∧ ∃ Nx : Hp → Prop, (∀ H', Nx H' → ∃ m', m' < m ∧ W (i + 1) m' H') ∧ ∀ x H', (Itl K a).yld i H x H' → gName i0 x (wipe σ vs) H' fun σ2 H2 => wipe σ2 vs = wipe σ vs ∧ tYes σ2 H2 fun b H3 =>
        if b = true then te σ2 H3 fun y H4 => ∃ acc, H4 D = some (.lst acc) ∧ acc.length < sizeLine ∧ Nx (upd H4 D (.lst (acc ++ [y]))) else Nx H3) := by
  have dp : D ≠ p := fun z => by rw [z, hp] at hD; cases hD
  refine lc_list (xs := ms.map V.int) (fun i H' => ∃ (ns : List Int) (st' : List V), But p H1 H' ∧ H' p = some (.lst st') ∧ PoolOk st' ∧ H' D = some (.lst (ns.map V.int)) ∧ ns.length = i ∧ ∀ x ∈ ns, C x) ⟨[], st, .of (.new hD), by rw [upd_ne (Ne.symm dp)]; exact hp, ok, upd_same, rfl, fun x hx => by cases hx⟩ (fun i H' _ ⟨ns, st', bt, _⟩ => .of (bt _ _ na ha)) ?_ ?_
  · rintro i x H' hx ⟨ns, st', bt, hp', ok', hl, hn', hb⟩
    obtain ⟨v, hv, rfl⟩ := map_get hx
    obtain ⟨e1, e2⟩ := hte v H' st' (List.mem_of_getElem? hv) hp' ok' bt
    have hi : i < ms.length := (List.getElem?_eq_some_iff.mp hv).1
    refine ⟨e1, yesT (e2 _ fun v H3 st3 hv b3 hp3 ok3 => ?_)⟩
    refine ⟨ns.map V.int, b3 _ _ dp hl, by rw [List.length_map, hn', sizeLine_eq]; omega, ns ++ [v], st3, fun c o nc hc => ?_, ?_, ok3, ?_, ?_, fun x hx => ?_⟩
    · have nD : c ≠ D := fun z => by rw [z, hD] at hc; cases hc
      rw [upd_ne nD]
      exact b3 c o nc (bt c o nc hc)
    · rw [upd_ne (Ne.symm dp)]; exact hp3
    · rw [upd_same, List.map_append]; rfl
    · rw [List.length_append, hn']; rfl
    · rcases List.mem_append.mp hx with hx | hx
      · exact hb x hx
      · rw [List.mem_singleton.mp hx]; exact hv
  · rintro H' ⟨ns, st', bt, hp', ok', hl, hn', hb⟩
    rw [List.length_map] at hn'
    exact hd H' ns st' bt hp' ok' dp hl hn' hb
/-- [f(x) for x in xs], f tells a number and changes nothing -/
theorem lc_mapL {K : PySem.W.Frag} {a : Addr} {ms : List Int} {f : Int → Int} {i0 : Nat} {te : TE} {vs : List Nat} {σ : L2.St} {H1 : Hp} {D : Addr} {Qd : Hp → Prop} (ha : SqL K H1 a (ms.map V.int)) (hD : H1 D = none) (hn : ms.length ≤ 10000)
    (hte : ∀ (x : Int) (H2 : Hp), x ∈ ms → Same H1 H2 → wipe ((wipe σ vs).set i0 (some (.int x))) vs = wipe σ vs ∧ ∀ Q : VK, (∀ H3, Same H2 H3 → Q (.int (f x)) H3) → te ((wipe σ vs).set i0 (some (.int x))) H2 Q)
    (hd : ∀ (H' : Hp), Same H1 H' → H' D = some (.lst ((ms.map f).map V.int)) → Qd H') :
    ∃ W : Nat → Nat → Hp → Prop, (∃ m, W 0 m (upd H1 D (.lst []))) ∧ ∀ i m H, W i m H →
      ((Itl K a).stop i H ∧ Qd H) ∨ ((Itl K a).go i H ∧ ∃ Nx : Hp → Prop, (∀ H', Nx H' → ∃ m', m' < m ∧ W (i + 1) m' H') ∧ ∀ x H', (Itl K a).yld i H x H' → gName i0 x (wipe σ vs) H' fun σ2 H2 => wipe σ2 vs = wipe σ vs ∧ tYes σ2 H2 fun b H3 =>
        if b = true then te σ2 H3 fun y H4 => ∃ acc, H4 D = some (.lst acc) ∧ acc.length < sizeLine ∧ Nx (upd H4 D (.lst (acc ++ [y]))) else Nx H3) := by
  refine lc_list (xs := ms.map V.int) (fun i H' => Same H1 H' ∧ H' D = some (.lst (((ms.map f).take i).map V.int)) ∧ i ≤ ms.length) ⟨.new hD, upd_same, Nat.zero_le _⟩ (fun i H' _ z => z.1.seq ha) ?_ ?_
  · rintro i x H' hx ⟨s, hl, hi⟩
    obtain ⟨v, hv, rfl⟩ := map_get hx
    obtain ⟨e1, e2⟩ := hte v H' (List.mem_of_getElem? hv) s
    have hi : i < ms.length := (List.getElem?_eq_some_iff.mp hv).1
    refine ⟨e1, yesT (e2 _ fun H3 s3 => ?_)⟩
    refine ⟨_, s3 _ _ hl, by rw [List.length_map, List.length_take, sizeLine_eq]; omega, sameLate (s.trans s3) hD, ?_, hi⟩
    rw [upd_same, List.take_succ, List.getElem?_map, hv, List.map_append]
    rfl
  · rintro H' ⟨s, hl, hi⟩
    rw [List.length_map, List.take_of_length_le (by rw [List.length_map]; exact Nat.le_refl _)] at hl
    exact hd H' s hl
/-- [f(i) for i in range(n)] -/
theorem lc_rangeF {n : Nat} {f : Nat → Int} {i0 : Nat} {te : TE} {vs : List Nat} {σ : L2.St} {H1 : Hp} {D : Addr} {Qd : Hp → Prop} (hD : H1 D = none) (hn : n ≤ 10000)
    (hte : ∀ (i : Nat) (H2 : Hp), i < n → Same H1 H2 → wipe ((wipe σ vs).set i0 (some (.int (0 + ((i : Nat) : Int))))) vs = wipe σ vs ∧ ∀ Q : VK, (∀ H3, Same H2 H3 → Q (.int (f i)) H3) → te ((wipe σ vs).set i0 (some (.int (0 + ((i : Nat) : Int))))) H2 Q)
    (hd : ∀ (H' : Hp), Same H1 H' → H' D = some (.lst (((List.range n).map f).map V.int)) → Qd H') :
    ∃ W : Nat → Nat → Hp → Prop, (∃ m, W 0 m (upd H1 D (.lst []))) ∧ ∀ i m H, W i m H →
      ((Itr 0 n).stop i H ∧ Qd H) ∨ ((Itr 0 n).go i H ∧ ∃ Nx : Hp → Prop, (∀ H', Nx H' → ∃ m', m' < m ∧ W (i + 1) m' H') ∧ ∀ x H', (Itr 0 n).yld i H x H' → gName i0 x (wipe σ vs) H' fun σ2 H2 => wipe σ2 vs = wipe σ vs ∧ tYes σ2 H2 fun b H3 =>
        if b = true then te σ2 H3 fun y H4 => ∃ acc, H4 D = some (.lst acc) ∧ acc.length < sizeLine ∧ Nx (upd H4 D (.lst (acc ++ [y]))) else Nx H3) := by
  refine lc_range (lo := 0) (n := n) (fun i H' => Same H1 H' ∧ H' D = some (.lst (((List.range i).map f).map V.int))) ⟨.new hD, upd_same⟩ ?_ ?_
  · rintro i H' hi ⟨s, hl⟩
    obtain ⟨e1, e2⟩ := hte i H' hi s
    refine ⟨e1, yesT (e2 _ fun H3 s3 => ?_)⟩
    refine ⟨_, s3 _ _ hl, by rw [List.length_map, List.length_map, List.length_range, sizeLine_eq]; omega, sameLate (s.trans s3) hD, ?_⟩
    rw [upd_same, List.range_succ, List.map_append, List.map_append]
    rfl
  · rintro H' ⟨s, hl⟩
    exact hd H' s hl
end L2

set_option maxRecDepth 100000
set_option maxHeartbeats 4000000
/-! # Values as trees: what a value tells, over a frozen part of the heap; cells that may change -/
namespace VL
open PySem PySem.Spec PyProof.Rows L2
inductive Tr where
  | a (v : V)
  | tup (ts : List Tr)
  | lst (ts : List Tr)
  | ins (C : Addr) (fs : List (Str × Tr))
  /-- the script -/
  | scr (ns : List Int)
abbrev trI (n : Int) : Tr := .a (.int n)
abbrev trB (b : Bool) : Tr := .a (.bl b)
abbrev trS (s : Str) : Tr := .a (.str s)
abbrev trN : Tr := .a .non
abbrev trLI (ns : List Int) : Tr := .lst (ns.map trI)
abbrev trTI (ns : List Int) : Tr := .tup (ns.map trI)
/-- v tells the tree t over F -/
inductive Rp (K : PySem.W.Frag) (F : Hp) : V → Tr → Prop where
  | a (v : V) : Rp K F v (.a v)
  | tup {p : Addr} {xs : List V} {ts : List Tr} (h : SqT K F p xs) (b : xs.length ≤ sizeLine) (l : xs.length = ts.length) (r : ∀ (i : Nat) (v : V) (t : Tr), xs[i]? = some v → ts[i]? = some t → Rp K F v t) : Rp K F (.ref p) (.tup ts)
  | lst {p : Addr} {xs : List V} {ts : List Tr} (h : F p = some (.lst xs)) (b : xs.length ≤ sizeLine) (l : xs.length = ts.length) (r : ∀ (i : Nat) (v : V) (t : Tr), xs[i]? = some v → ts[i]? = some t → Rp K F v t) : Rp K F (.ref p) (.lst ts)
  | ins {p C dx : Addr} {fs : List (Str × V)} {ts : List (Str × Tr)} (h : F p = some (.ins C dx fs)) (l : fs.map Prod.fst = ts.map Prod.fst) (r : ∀ (i : Nat) (v : Str × V) (t : Str × Tr), fs[i]? = some v → ts[i]? = some t → Rp K F v.2 t.2) : Rp K F (.ref p) (.ins C ts)
  | scr {p : Addr} {ns : List Int} (h : SqL K F p (ns.map V.int)) : Rp K F (.ref p) (.scr ns)
def Rq (K : PySem.W.Frag) (F : Hp) (xs : List V) (ts : List Tr) : Prop := xs.length = ts.length ∧ ∀ (i : Nat) (v : V) (t : Tr), xs[i]? = some v → ts[i]? = some t → Rp K F v t
section
variable {K : PySem.W.Frag} {F F' : Hp}
theorem Rp.same {v : V} {t : Tr} (h : Rp K F v t) (s : Same F F') : Rp K F' v t := by
  induction h with
  | a v => exact .a v
  | tup h b l r ih => exact .tup (s.seqT h) b l ih
  | lst h b l r ih => exact .lst (s _ _ h) b l ih
  | ins h l r ih => exact .ins (s _ _ h) l ih
  | scr h => exact .scr (s.seq h)
theorem Rq.same {xs : List V} {ts : List Tr} (h : Rq K F xs ts) (s : Same F F') : Rq K F' xs ts := ⟨h.1, fun i v t e f => (h.2 i v t e f).same s⟩
theorem Rq.nil : Rq K F [] [] := ⟨rfl, fun i v t e => by cases e⟩
theorem Rq.cons {v : V} {t : Tr} {xs : List V} {ts : List Tr} (h : Rp K F v t) (r : Rq K F xs ts) : Rq K F (v :: xs) (t :: ts) := ⟨by rw [List.length_cons, List.length_cons, r.1], fun i v' t' e f => by
  cases i with
  | zero => cases e; cases f; exact h
  | succ i => exact r.2 i v' t' e f⟩
theorem Rq.inv {v : V} {xs : List V} {ts : List Tr} (h : Rq K F (v :: xs) ts) : ∃ t r, ts = t :: r ∧ Rp K F v t ∧ Rq K F xs r := by
  obtain ⟨l, g⟩ := h
  cases ts with
  | nil => cases l
  | cons t r => exact ⟨t, r, rfl, g 0 v t rfl rfl, Nat.succ.inj l, fun i a b e f => g (i + 1) a b e f⟩
theorem Rq.inv' {t : Tr} {xs : List V} {ts : List Tr} (h : Rq K F xs (t :: ts)) : ∃ v r, xs = v :: r ∧ Rp K F v t ∧ Rq K F r ts := by
  obtain ⟨l, g⟩ := h
  cases xs with
  | nil => cases l
  | cons v r => exact ⟨v, r, rfl, g 0 v t rfl rfl, Nat.succ.inj l, fun i a b e f => g (i + 1) a b e f⟩
theorem Rq.nil' {xs : List V} (h : Rq K F xs []) : xs = [] := List.length_eq_zero_iff.mp h.1
theorem Rq.append {xs ys : List V} {ts us : List Tr} (h : Rq K F xs ts) (g : Rq K F ys us) : Rq K F (xs ++ ys) (ts ++ us) := ⟨by rw [List.length_append, List.length_append, h.1, g.1], fun i v t e f => by
  by_cases hi : i < xs.length
  · rw [List.getElem?_append_left hi] at e
    rw [List.getElem?_append_left (by rw [← h.1]; exact hi)] at f
    exact h.2 i v t e f
  · rw [List.getElem?_append_right (by omega)] at e
    rw [List.getElem?_append_right (by rw [← h.1]; omega), ← h.1] at f
    exact g.2 _ v t e f⟩
theorem Rq.take {xs : List V} {ts : List Tr} (h : Rq K F xs ts) (n : Nat) : Rq K F (xs.take n) (ts.take n) := ⟨by rw [List.length_take, List.length_take, h.1], fun i v t e f => by
  rw [List.getElem?_take] at e f
  split at e
  · rename_i c
    rw [if_pos c] at f
    exact h.2 i v t e f
  · cases e⟩
theorem Rq.drop {xs : List V} {ts : List Tr} (h : Rq K F xs ts) (n : Nat) : Rq K F (xs.drop n) (ts.drop n) := ⟨by rw [List.length_drop, List.length_drop, h.1], fun i v t e f => by
  rw [List.getElem?_drop] at e f
  exact h.2 _ v t e f⟩
theorem Rq.set {xs : List V} {ts : List Tr} {v : V} {t : Tr} (h : Rq K F xs ts) (g : Rp K F v t) (n : Nat) : Rq K F (xs.set n v) (ts.set n t) := ⟨by rw [List.length_set, List.length_set, h.1], fun i a b e f => by
  rw [List.getElem?_set] at e f
  by_cases c : n = i
  · rw [if_pos c] at e f
    split at e
    · rename_i l
      rw [if_pos (by rw [← h.1]; exact l)] at f
      cases e; cases f; exact g
    · cases e
  · rw [if_neg c] at e f
    exact h.2 i a b e f⟩
theorem Rq.reverse {xs : List V} {ts : List Tr} (h : Rq K F xs ts) : Rq K F xs.reverse ts.reverse := ⟨by rw [List.length_reverse, List.length_reverse, h.1], fun i a b e f => by
  have hi : i < xs.length := by
    have := (List.getElem?_eq_some_iff.mp e).1
    rw [List.length_reverse] at this; exact this
  rw [List.getElem?_reverse hi] at e
  rw [List.getElem?_reverse (by rw [← h.1]; exact hi), ← h.1] at f
  exact h.2 _ a b e f⟩
theorem Rq.get {xs : List V} {ts : List Tr} {i : Nat} {t : Tr} (h : Rq K F xs ts) (e : ts[i]? = some t) : ∃ v, xs[i]? = some v ∧ Rp K F v t := by
  have hi : i < xs.length := by rw [h.1]; exact (List.getElem?_eq_some_iff.mp e).1
  exact ⟨xs[i], List.getElem?_eq_getElem hi, h.2 i _ t (List.getElem?_eq_getElem hi) e⟩
theorem Rp.atom {v w : V} (h : Rp K F v (.a w)) : v = w := by cases h; rfl
theorem Rq.atoms {xs ws : List V} (h : Rq K F xs (ws.map Tr.a)) : xs = ws := by
  refine List.ext_getElem? fun i => ?_
  obtain ⟨l, g⟩ := h
  rw [List.length_map] at l
  by_cases hi : i < xs.length
  · have e1 : xs[i]? = some xs[i] := List.getElem?_eq_getElem hi
    have e2 : ws[i]? = some ws[i] := List.getElem?_eq_getElem (by omega)
    have := (g i _ _ e1 (by rw [List.getElem?_map, e2]; rfl)).atom
    rw [e1, e2, this]
  · rw [List.getElem?_eq_none (by omega), List.getElem?_eq_none (by omega)]
theorem Rq.fns {α : Type} {f : α → V} {xs : List V} {ns : List α} (h : Rq K F xs (ns.map fun n => Tr.a (f n))) : xs = ns.map f := by
  refine Rq.atoms (K := K) (F := F) ?_
  rw [List.map_map]; exact h
theorem Rq.ints {xs : List V} {ns : List Int} (h : Rq K F xs (ns.map trI)) : xs = ns.map V.int := Rq.fns h
theorem Rq.of {xs : List V} : Rq K F xs (xs.map Tr.a) := ⟨by rw [List.length_map], fun i v t e f => by
  rw [List.getElem?_map, e] at f
  cases f; exact .a v⟩
theorem Rq.ofI {ns : List Int} : Rq K F (ns.map V.int) (ns.map trI) := by
  have := Rq.of (K := K) (F := F) (xs := ns.map V.int)
  rw [List.map_map] at this; exact this
theorem Rp.inv_lst {v : V} {ts : List Tr} (h : Rp K F v (.lst ts)) : ∃ p xs, v = .ref p ∧ F p = some (.lst xs) ∧ xs.length ≤ sizeLine ∧ Rq K F xs ts := by
  cases h with
  | lst h b l r => exact ⟨_, _, rfl, h, b, l, r⟩
theorem Rp.inv_tup {v : V} {ts : List Tr} (h : Rp K F v (.tup ts)) : ∃ p xs, v = .ref p ∧ SqT K F p xs ∧ xs.length ≤ sizeLine ∧ Rq K F xs ts := by
  cases h with
  | tup h b l r => exact ⟨_, _, rfl, h, b, l, r⟩
def Rf (K : PySem.W.Frag) (F : Hp) (fs : List (Str × V)) (ts : List (Str × Tr)) : Prop := fs.map Prod.fst = ts.map Prod.fst ∧ ∀ (i : Nat) (v : Str × V) (t : Str × Tr), fs[i]? = some v → ts[i]? = some t → Rp K F v.2 t.2
theorem Rp.inv_ins {v : V} {C : Addr} {ts : List (Str × Tr)} (h : Rp K F v (.ins C ts)) : ∃ p dx fs, v = .ref p ∧ F p = some (.ins C dx fs) ∧ Rf K F fs ts := by
  cases h with
  | ins h l r => exact ⟨_, _, _, rfl, h, l, r⟩
theorem Rf.same {fs : List (Str × V)} {ts : List (Str × Tr)} (h : Rf K F fs ts) (s : Same F F') : Rf K F' fs ts := ⟨h.1, fun i v t e f => (h.2 i v t e f).same s⟩
theorem Rf.nil : Rf K F [] [] := ⟨rfl, fun i v t e => by cases e⟩
theorem Rf.cons {x : Str} {v : V} {t : Tr} {fs : List (Str × V)} {ts : List (Str × Tr)} (h : Rp K F v t) (r : Rf K F fs ts) : Rf K F ((x, v) :: fs) ((x, t) :: ts) := ⟨by rw [List.map_cons, List.map_cons, r.1], fun i v' t' e f => by
  cases i with
  | zero => cases e; cases f; exact h
  | succ i => exact r.2 i v' t' e f⟩
theorem Rf.inv' {x : Str} {t : Tr} {fs : List (Str × V)} {ts : List (Str × Tr)} (h : Rf K F fs ((x, t) :: ts)) : ∃ v r, fs = (x, v) :: r ∧ Rp K F v t ∧ Rf K F r ts := by
  obtain ⟨l, g⟩ := h
  cases fs with
  | nil => cases l
  | cons v r =>
    rw [List.map_cons, List.map_cons] at l
    injection l with l1 l2
    obtain ⟨y, v⟩ := v
    cases l1
    exact ⟨v, r, rfl, g 0 (_, v) (_, t) rfl rfl, l2, fun i a b e f => g (i + 1) a b e f⟩
theorem Rf.nil' {fs : List (Str × V)} (h : Rf K F fs []) : fs = [] := List.map_eq_nil_iff.mp h.1
theorem Rf.lookup : ∀ {ts : List (Str × Tr)} {fs : List (Str × V)} {f : Str}, Rf K F fs ts → (∀ t, ts.lookup f = some t → ∃ v, fs.lookup f = some v ∧ Rp K F v t) ∧ (ts.lookup f = none → fs.lookup f = none)
  | [], fs, f, h => by
    rw [h.nil']
    exact ⟨fun t e => (nomatch e), fun _ => rfl⟩
  | (x, t) :: ts, fs, f, h => by
    obtain ⟨v, r, rfl, h1, h2⟩ := h.inv'
    obtain ⟨g1, g2⟩ := Rf.lookup (f := f) h2
    rw [List.lookup_cons, List.lookup_cons]
    cases c : f == x with
    | true => exact ⟨fun t e => ⟨v, rfl, by cases e; exact h1⟩, fun z => (nomatch z)⟩
    | false => exact ⟨g1, g2⟩
end
/-! ### cells -/
inductive Cell where
  | lst (ts : List Tr)
  /-- an instance that may change -/
  | obj (C : Addr) (fs : List (Str × Tr))
  | pool
  | dead
  /-- a list of lists that may change -/
  | grid (rs : List (List Tr))
  /-- a new tuple: of what holds no place, and of new lists -/
  | nest (ts : List Tr)
/-- atoms and tuples of such: no place that may change -/
inductive Pure : Tr → Prop where
  | a (v : V) : Pure (.a v)
  | tup {ts : List Tr} (h : ∀ t ∈ ts, Pure t) : Pure (.tup ts)
inductive Sv where
  | p (t : Tr)
  | c (k : Nat)
structure Z where
  e : List (Option Sv)
  c : List Cell
def Rv (K : PySem.W.Frag) (F : Hp) (α : List Addr) (v : V) : Sv → Prop
  | .p t => Rp K F v t
  | .c k => ∃ a, α[k]? = some a ∧ v = .ref a
def CellOk (K : PySem.W.Frag) (α : List Addr) (B F H : Hp) (a : Addr) : Cell → Prop
  | .lst ts => F a = none ∧ B a = none ∧ ∃ xs, H a = some (.lst xs) ∧ Rq K F xs ts
  | .obj C ts => F a = none ∧ B a = none ∧ ∃ dx fs, H a = some (.ins C dx fs) ∧ Rf K F fs ts
  | .pool => F a = none ∧ B a = none ∧ ∃ st, H a = some (.lst st) ∧ PoolOk st
  | .dead => ∃ o, H a = some o
  | .grid rs => F a = none ∧ B a = none ∧ ∃ bs : List Addr, H a = some (.lst (bs.map V.ref)) ∧ bs.length = rs.length ∧ bs.Nodup ∧ ∀ (i : Nat) (b : Addr) (r : List Tr), bs[i]? = some b → rs[i]? = some r → F b = none ∧ B b = none ∧ b ∉ α ∧ ∃ ys, H b = some (.lst ys) ∧ Rq K F ys r
  | .nest ts => ∃ xs : List V, H a = some (.tup xs) ∧ xs.length ≤ sizeLine ∧ xs.length = ts.length ∧ ∀ (i : Nat) (v : V) (t : Tr), xs[i]? = some v → ts[i]? = some t → (Pure t ∧ Rp K F v t) ∨ ∃ (b : Addr) (us : List Tr) (ys : List V), v = .ref b ∧ t = .lst us ∧ F b = none ∧ B b = none ∧ b ∉ α ∧ ys.length ≤ sizeLine ∧ H b = some (.lst ys) ∧ Rq K F ys us
theorem nd_inj {α : Type} {xs : List α} (h : xs.Nodup) {i j : Nat} (hi : i < xs.length) (hj : j < xs.length) (e : xs[i] = xs[j]) : i = j := by
  rcases Nat.lt_trichotomy i j with c | c | c
  · exact absurd e (List.pairwise_iff_getElem.mp h i j hi hj c)
  · exact c
  · exact absurd e.symm (List.pairwise_iff_getElem.mp h j i hj hi c)
structure Cor (K : PySem.W.Frag) (B F : Hp) (α : List Addr) (z : Z) (σ : L2.St) (H : Hp) : Prop where
  keep : Same B H
  same : Same F H
  len : α.length = z.c.length
  nd : α.Nodup
  cell : ∀ (k : Nat) (a : Addr) (c : Cell), α[k]? = some a → z.c[k]? = some c → CellOk K α B F H a c
  elen : σ.length = z.e.length
  env : ∀ (i : Nat) (r : Sv), z.e[i]? = some (some r) → ∃ v, σ[i]? = some (some v) ∧ Rv K F α v r
def isMut : HO → Prop
  | .lst _ => True
  | .ins _ _ _ => True
  | _ => False
/-- the lists and instances that F' has and F has not are new -/
def NoL (B F F' : Hp) : Prop := ∀ a o, isMut o → F' a = some o → F a = some o ∨ B a = none
def XTE (B F : Hp) (α : List Addr) (F' : Hp) (α' : List Addr) : Prop := Same F F' ∧ (∃ β, α' = α ++ β) ∧ NoL B F F'
theorem NoL.new {B F : Hp} {p : Addr} {o : HO} (h : B p = none) : NoL B F (upd F p o) := fun a xs _ e => by
  by_cases q : a = p
  · subst q; exact .inr h
  · rw [upd_ne q] at e; exact .inl e
theorem NoL.refl {B F : Hp} : NoL B F F := fun _ _ _ e => .inl e
theorem NoL.trans {B F F' F'' : Hp} (h : NoL B F F') (g : NoL B F' F'') : NoL B F F'' := fun a xs m e => (g a xs m e).elim (h a xs m) .inr
section
variable {K : PySem.W.Frag} {B F F' F'' H : Hp} {α α' α'' : List Addr} {z : Z} {σ : L2.St}
theorem XTE.refl : XTE B F α F α := ⟨.refl _, ⟨[], by rw [List.append_nil]⟩, .refl⟩
theorem XTE.trans (h : XTE B F α F' α') (g : XTE B F' α' F'' α'') : XTE B F α F'' α'' := by
  obtain ⟨s, ⟨β, rfl⟩, n⟩ := h
  obtain ⟨s', ⟨γ, rfl⟩, n'⟩ := g
  exact ⟨s.trans s', ⟨β ++ γ, by rw [List.append_assoc]⟩, n.trans n'⟩
theorem XTE.get (h : XTE B F α F' α') {k : Nat} {a : Addr} (e : α[k]? = some a) : α'[k]? = some a := by
  obtain ⟨_, ⟨β, rfl⟩, _⟩ := h
  rw [List.getElem?_append_left (List.getElem?_eq_some_iff.mp e).1]; exact e
theorem Rv.ext {v : V} {r : Sv} (h : Rv K F α v r) (x : XTE B F α F' α') : Rv K F' α' v r := by
  cases r with
  | p t => exact Rp.same h x.1
  | c k => obtain ⟨a, e, q⟩ := h; exact ⟨a, x.get e, q⟩
theorem CellOk.has {a : Addr} {c : Cell} (h : CellOk K α B F H a c) : ∃ o, H a = some o := by
  cases c with
  | lst ts => obtain ⟨_, _, xs, e, _⟩ := h; exact ⟨_, e⟩
  | pool => obtain ⟨_, _, xs, e, _⟩ := h; exact ⟨_, e⟩
  | obj C fs => obtain ⟨_, _, _, _, e, _⟩ := h; exact ⟨_, e⟩
  | dead => exact h
  | grid rs => obtain ⟨_, _, bs, e, _⟩ := h; exact ⟨_, e⟩
  | nest ts => obtain ⟨xs, e, _⟩ := h; exact ⟨_, e⟩
theorem CellOk.mono {a : Addr} {c : Cell} {H' : Hp} (h : CellOk K α B F H a c) (s : Same F F') (x : ∀ b o, H b = some o → b ∉ α → b ∉ α') (n : ∀ b o, isMut o → H b = some o → b = a ∨ b ∉ α → F b = none → F' b = none) (g : ∀ b o, H b = some o → b = a ∨ b ∉ α → H' b = some o) : CellOk K α' B F' H' a c := by
  cases c with
  | lst ts => obtain ⟨h1, h2, xs, e, q⟩ := h; exact ⟨n _ (.lst xs) trivial e (.inl rfl) h1, h2, xs, g _ _ e (.inl rfl), q.same s⟩
  | pool => obtain ⟨h1, h2, xs, e, q⟩ := h; exact ⟨n _ (.lst xs) trivial e (.inl rfl) h1, h2, xs, g _ _ e (.inl rfl), q⟩
  | obj C fs => obtain ⟨h1, h2, dx, xs, e, q⟩ := h; exact ⟨n _ (.ins C dx xs) trivial e (.inl rfl) h1, h2, dx, xs, g _ _ e (.inl rfl), q.same s⟩
  | dead => obtain ⟨o, e⟩ := h; exact ⟨o, g _ _ e (.inl rfl)⟩
  | grid rs =>
    obtain ⟨h1, h2, bs, e, l, nd, q⟩ := h
    refine ⟨n _ (.lst (bs.map V.ref)) trivial e (.inl rfl) h1, h2, bs, g _ _ e (.inl rfl), l, nd, fun i b r e1 e2 => ?_⟩
    obtain ⟨q1, q2, q3, ys, q4, q5⟩ := q i b r e1 e2
    exact ⟨n _ (.lst ys) trivial q4 (.inr q3) q1, q2, x _ _ q4 q3, ys, g _ _ q4 (.inr q3), q5.same s⟩
  | nest ts =>
    obtain ⟨xs, e, lx, l, q⟩ := h
    refine ⟨xs, g _ _ e (.inl rfl), lx, l, fun i v t e1 e2 => ?_⟩
    rcases q i v t e1 e2 with ⟨p, r⟩ | ⟨b, us, ys, q0, q0', q1, q2, q3, q6, q4, q5⟩
    · exact .inl ⟨p, r.same s⟩
    · exact .inr ⟨b, us, ys, q0, q0', n _ (.lst ys) trivial q4 (.inr q3) q1, q2, x _ _ q4 q3, q6, g _ _ q4 (.inr q3), q5.same s⟩
theorem Cor.has (C : Cor K B F α z σ H) {k : Nat} {a : Addr} (e : α[k]? = some a) : ∃ o, H a = some o := by
  have hk : k < z.c.length := by rw [← C.len]; exact (List.getElem?_eq_some_iff.mp e).1
  exact (C.cell k a _ e (List.getElem?_eq_getElem hk)).has
theorem Cor.notin (C : Cor K B F α z σ H) {p : Addr} (hp : H p = none) : p ∉ α := fun m => by
  obtain ⟨k, hk⟩ := List.getElem?_of_mem m
  obtain ⟨o, e⟩ := C.has hk
  rw [hp] at e; cases e
/-- a new frozen thing -/
theorem Cor.fz (C : Cor K B F α z σ H) {p : Addr} (o : HO) (hp : H p = none) : Cor K B (upd F p o) α z σ (upd H p o) ∧ XTE B F α (upd F p o) α := by
  have fp : F p = none := C.same.free hp
  have sF : Same F (upd F p o) := .new fp
  refine ⟨⟨C.keep.new' hp, fun b u e => ?_, C.len, C.nd, fun k a c e f => ?_, C.elen, fun i r e => ?_⟩, sF, ⟨[], by rw [List.append_nil]⟩, .new (C.keep.free hp)⟩
  · by_cases hb : b = p
    · subst hb; rw [upd_same] at e ⊢; exact e
    · rw [upd_ne hb] at e ⊢; exact C.same b u e
  · have ne : a ≠ p := fun q => C.notin hp (by rw [← q]; exact List.mem_of_getElem? e)
    exact (C.cell k a c e f).mono sF (fun _ _ _ h => h) (fun b o _ e _ h => by rw [upd_ne (fun q => by rw [q, hp] at e; cases e)]; exact h) (fun b o e _ => by rw [upd_ne (fun q => by rw [q, hp] at e; cases e)]; exact e)
  · obtain ⟨v, e1, e2⟩ := C.env i r e
    exact ⟨v, e1, e2.ext (B := B) ⟨sF, ⟨[], by rw [List.append_nil]⟩, .new (C.keep.free hp)⟩⟩
/-- a new cell -/
theorem Cor.cl (C : Cor K B F α z σ H) {p : Addr} {xs : List V} {ts : List Tr} (hp : H p = none) (hq : Rq K F xs ts) : Cor K B F (α ++ [p]) ⟨z.e, z.c ++ [.lst ts]⟩ σ (upd H p (.lst xs)) ∧ XTE B F α F (α ++ [p]) := by
  have x : XTE B F α F (α ++ [p]) := ⟨.refl _, ⟨[p], rfl⟩, .refl⟩
  refine ⟨⟨C.keep.new' hp, C.same.new' hp, by rw [List.length_append, List.length_append, C.len]; rfl, ?_, fun k a c e f => ?_, C.elen, fun i r e => ?_⟩, x⟩
  · rw [List.nodup_append]
    refine ⟨C.nd, by simp, fun a ha b hb => ?_⟩
    rw [List.mem_singleton] at hb
    intro q
    exact C.notin hp (by rw [← hb, ← q]; exact ha)
  · by_cases hk : k < α.length
    · rw [List.getElem?_append_left hk] at e
      rw [List.getElem?_append_left (by rw [← C.len]; exact hk)] at f
      have ne : a ≠ p := fun q => C.notin hp (by rw [← q]; exact List.mem_of_getElem? e)
      exact (C.cell k a c e f).mono (.refl _) (fun b o e h => by rw [List.mem_append, List.mem_singleton]; exact fun q => q.elim h (fun q => by rw [q, hp] at e; cases e)) (fun _ _ _ _ _ h => h) (fun b o e _ => by rw [upd_ne (fun q => by rw [q, hp] at e; cases e)]; exact e)
    · have : k = α.length := by
        have := (List.getElem?_eq_some_iff.mp e).1
        rw [List.length_append] at this
        have : k < α.length + 1 := this
        omega
      subst this
      rw [List.getElem?_concat_length] at e
      rw [C.len, List.getElem?_concat_length] at f
      cases e; cases f
      exact ⟨C.same.free hp, C.keep.free hp, xs, upd_same, hq⟩
  · obtain ⟨v, e1, e2⟩ := C.env i r e
    exact ⟨v, e1, e2.ext x⟩
/-- a new pool -/
theorem Cor.mkPool (C : Cor K B F α z σ H) {p : Addr} {st : List V} (hp : H p = none) (ok : PoolOk st) : Cor K B F (α ++ [p]) ⟨z.e, z.c ++ [.pool]⟩ σ (upd H p (.lst st)) ∧ XTE B F α F (α ++ [p]) := by
  have x : XTE B F α F (α ++ [p]) := ⟨.refl _, ⟨[p], rfl⟩, .refl⟩
  refine ⟨⟨C.keep.new' hp, C.same.new' hp, by rw [List.length_append, List.length_append, C.len]; rfl, ?_, fun k a c e f => ?_, C.elen, fun i r e => ?_⟩, x⟩
  · rw [List.nodup_append]
    refine ⟨C.nd, by simp, fun a ha b hb => ?_⟩
    rw [List.mem_singleton] at hb
    intro q
    exact C.notin hp (by rw [← hb, ← q]; exact ha)
  · by_cases hk : k < α.length
    · rw [List.getElem?_append_left hk] at e
      rw [List.getElem?_append_left (by rw [← C.len]; exact hk)] at f
      have ne : a ≠ p := fun q => C.notin hp (by rw [← q]; exact List.mem_of_getElem? e)
      exact (C.cell k a c e f).mono (.refl _) (fun b o e h => by rw [List.mem_append, List.mem_singleton]; exact fun q => q.elim h (fun q => by rw [q, hp] at e; cases e)) (fun _ _ _ _ _ h => h) (fun b o e _ => by rw [upd_ne (fun q => by rw [q, hp] at e; cases e)]; exact e)
    · have : k = α.length := by
        have := (List.getElem?_eq_some_iff.mp e).1
        rw [List.length_append] at this
        have : k < α.length + 1 := this
        omega
      subst this
      rw [List.getElem?_concat_length] at e
      rw [C.len, List.getElem?_concat_length] at f
      cases e; cases f
      exact ⟨C.same.free hp, C.keep.free hp, st, upd_same, ok⟩
  · obtain ⟨v, e1, e2⟩ := C.env i r e
    exact ⟨v, e1, e2.ext x⟩
/-- the thing at a cell's place is another -/
theorem Cor.put (C : Cor K B F α z σ H) {k : Nat} {a : Addr} {c c' : Cell} {o : HO} (ea : α[k]? = some a) (ec : z.c[k]? = some c) (hF : F a = none) (hB : B a = none) (h : CellOk K α B F (upd H a o) a c') : Cor K B F α ⟨z.e, z.c.set k c'⟩ σ (upd H a o) := by
  refine ⟨fun b u e => ?_, fun b u e => ?_, by rw [C.len]; exact (List.length_set ..).symm, C.nd, fun j b d e f => ?_, C.elen, C.env⟩
  · rw [upd_ne (fun q => by rw [q, hB] at e; cases e)]; exact C.keep b u e
  · rw [upd_ne (fun q => by rw [q, hF] at e; cases e)]; exact C.same b u e
  · have hk : k < z.c.length := (List.getElem?_eq_some_iff.mp ec).1
    by_cases q : k = j
    · subst q
      rw [ea] at e; cases e
      have f : (z.c.set k c')[k]? = some d := f
      rw [List.getElem?_set_self hk] at f
      cases f; exact h
    · have f : (z.c.set k c')[j]? = some d := f
      rw [List.getElem?_set_ne q] at f
      have ne : b ≠ a := fun y => by
        subst y
        have h1 := (List.getElem?_eq_some_iff.mp ea)
        have h2 := (List.getElem?_eq_some_iff.mp e)
        exact q (nd_inj C.nd h1.1 h2.1 (h1.2.trans h2.2.symm))
      exact (C.cell j b d e f).mono (.refl _) (fun _ _ _ h => h) (fun _ _ _ _ _ h => h) (fun b' o h y => by rw [upd_ne (y.elim (fun y => y ▸ ne) (fun y w => y (by rw [w]; exact List.mem_of_getElem? ea)))]; exact h)
/-- a slot is set -/
theorem Cor.slot (C : Cor K B F α z σ H) {v : V} {r : Sv} (i : Nat) (h : Rv K F α v r) : Cor K B F α ⟨z.e.set i (some r), z.c⟩ (σ.set i (some v)) H := by
  refine ⟨C.keep, C.same, C.len, C.nd, C.cell, by rw [List.length_set, C.elen]; exact (List.length_set ..).symm, fun j s e => ?_⟩
  have e : (z.e.set i (some r))[j]? = some (some s) := e
  by_cases q : i = j
  · subst q
    by_cases hi : i < z.e.length
    · rw [List.getElem?_set_self hi] at e
      cases e
      exact ⟨v, List.getElem?_set_self (by rw [C.elen]; exact hi), h⟩
    · rw [List.getElem?_eq_none (by rw [List.length_set]; omega)] at e; cases e
  · rw [List.getElem?_set_ne q] at e
    obtain ⟨u, e1, e2⟩ := C.env j s e
    exact ⟨u, by rw [List.getElem?_set_ne q]; exact e1, e2⟩
end
/-! ### a cell freezes -/
def frE (k : Nat) (t : Tr) : Option Sv → Option Sv
  | some (.c j) => if j = k then some (.p t) else some (.c j)
  | some (.p u) => some (.p u)
  | none => none
def Z.kill (z : Z) (k : Nat) (t : Tr) : Z := ⟨z.e.map (frE k t), z.c.set k .dead⟩
section
variable {K : PySem.W.Frag} {B F F' F'' H : Hp} {α α' α'' : List Addr} {z : Z} {σ : L2.St}
theorem Cor.kill0 (C : Cor K B F α z σ H) {k : Nat} {a : Addr} {cl : Cell} {o : HO} {t : Tr} (ea : α[k]? = some a) (ec : z.c[k]? = some cl) (hx : H a = some o) (hF : F a = none) (hB : B a = none) (hrp : Same F (upd F a o) → Rp K (upd F a o) (.ref a) t) : ∃ F', XTE B F α F' α ∧ Cor K B F' α (z.kill k t) σ H ∧ Rp K F' (.ref a) t := by
  have sF : Same F (upd F a o) := .new hF
  have x : XTE B F α (upd F a o) α := ⟨sF, ⟨[], by rw [List.append_nil]⟩, .new hB⟩
  have rp := hrp sF
  refine ⟨_, x, ⟨C.keep, fun c u e => ?_, by rw [C.len]; exact (List.length_set ..).symm, C.nd, fun j c d e f => ?_, by rw [C.elen]; exact (List.length_map ..).symm, fun i r e => ?_⟩, rp⟩
  · by_cases q : c = a
    · subst q; rw [upd_same] at e; rw [hx]; exact e
    · rw [upd_ne q] at e; exact C.same c u e
  · have f : (z.c.set k .dead)[j]? = some d := f
    have hk : k < z.c.length := (List.getElem?_eq_some_iff.mp ec).1
    by_cases q : k = j
    · subst q
      rw [ea] at e; cases e
      rw [List.getElem?_set_self hk] at f
      cases f; exact ⟨_, hx⟩
    · rw [List.getElem?_set_ne q] at f
      have ne : c ≠ a := fun y => by
        subst y
        have h1 := (List.getElem?_eq_some_iff.mp ea)
        have h2 := (List.getElem?_eq_some_iff.mp e)
        exact q (nd_inj C.nd h1.1 h2.1 (h1.2.trans h2.2.symm))
      exact (C.cell j c d e f).mono sF (fun _ _ _ h => h) (fun b' o _ _ y h => by rw [upd_ne (y.elim (fun y => y ▸ ne) (fun y w => y (by rw [w]; exact List.mem_of_getElem? ea)))]; exact h) (fun _ _ h _ => h)
  · have e : (z.e.map (frE k t))[i]? = some (some r) := e
    rw [List.getElem?_map] at e
    cases q : z.e[i]? with
    | none => rw [q] at e; cases e
    | some s =>
      rw [q] at e
      have e : some (frE k t s) = some (some r) := e
      injection e with e
      cases s with
      | none => cases e
      | some s =>
        obtain ⟨v, e1, e2⟩ := C.env i s q
        refine ⟨v, e1, ?_⟩
        cases s with
        | p t' =>
          have e : some (Sv.p t') = some r := e
          cases e
          exact Rp.same e2 sF
        | c j =>
          have e : (if j = k then some (Sv.p t) else some (.c j)) = some r := e
          by_cases w : j = k
          · rw [if_pos w] at e
            cases e
            obtain ⟨a', ha', rfl⟩ := e2
            subst w
            rw [ea] at ha'; cases ha'
            exact rp
          · rw [if_neg w] at e
            cases e
            exact e2
theorem Cor.kill (C : Cor K B F α z σ H) {k : Nat} {a : Addr} {ts : List Tr} (ea : α[k]? = some a) (ec : z.c[k]? = some (.lst ts)) (b : ts.length ≤ sizeLine) : ∃ F', XTE B F α F' α ∧ Cor K B F' α (z.kill k (.lst ts)) σ H ∧ Rp K F' (.ref a) (.lst ts) := by
  obtain ⟨hF, hB, xs, hx, hq⟩ := C.cell k a _ ea ec
  exact C.kill0 ea ec hx hF hB fun sF => .lst upd_same (by rw [hq.1]; exact b) hq.1 (hq.same sF).2
theorem Cor.killO (C : Cor K B F α z σ H) {k : Nat} {a C0 : Addr} {fs : List (Str × Tr)} (ea : α[k]? = some a) (ec : z.c[k]? = some (.obj C0 fs)) : ∃ F', XTE B F α F' α ∧ Cor K B F' α (z.kill k (.ins C0 fs)) σ H ∧ Rp K F' (.ref a) (.ins C0 fs) := by
  obtain ⟨hF, hB, dx, gs, hx, hq⟩ := C.cell k a _ ea ec
  exact C.kill0 ea ec hx hF hB fun sF => .ins upd_same hq.1 (hq.same sF).2
def frz (r : Sv) (z : Z) (k : Tr → Z → Prop) : Prop := match r with
  | .p t => k t z
  | .c j => match z.c[j]? with
    | some (.lst ts) => ts.length ≤ sizeLine ∧ k (.lst ts) (z.kill j (.lst ts))
    | some (.obj C fs) => k (.ins C fs) (z.kill j (.ins C fs))
    | _ => False
theorem frz_ok {r : Sv} {k : Tr → Z → Prop} {v : V} (h : frz r z k) (C : Cor K B F α z σ H) (hv : Rv K F α v r) : ∃ F' t z', k t z' ∧ XTE B F α F' α ∧ Cor K B F' α z' σ H ∧ Rp K F' v t := by
  cases r with
  | p t => exact ⟨F, t, z, h, .refl, C, hv⟩
  | c j =>
    obtain ⟨a, ea, rfl⟩ := hv
    have h : (match z.c[j]? with
      | some (.lst ts) => ts.length ≤ sizeLine ∧ k (.lst ts) (z.kill j (.lst ts))
      | some (.obj C fs) => k (.ins C fs) (z.kill j (.ins C fs))
      | _ => False) := h
    split at h
    · rename_i ts e
      obtain ⟨F', x, C', rp⟩ := C.kill ea e h.1
      exact ⟨F', _, _, h.2, x, C', rp⟩
    · rename_i C0 fs e
      obtain ⟨F', x, C', rp⟩ := C.killO ea e
      exact ⟨F', _, _, h, x, C', rp⟩
    · exact h.elim
/-- what a value tells, be it a cell -/
def vw (r : Sv) (z : Z) : Option Tr := match r with
  | .p t => some t
  | .c j => match z.c[j]? with
    | some (.lst ts) => some (.lst ts)
    | some (.obj C fs) => some (.ins C fs)
    | _ => none
theorem vwc {j : Nat} {t : Tr} (h : vw (.c j) z = some t) : (∃ ts, z.c[j]? = some (.lst ts) ∧ t = .lst ts) ∨ ∃ C fs, z.c[j]? = some (.obj C fs) ∧ t = .ins C fs := by
  have h : (match z.c[j]? with | some (.lst ts) => some (Tr.lst ts) | some (.obj C fs) => some (.ins C fs) | _ => none) = some t := h
  split at h
  · rename_i ts e; cases h; exact .inl ⟨ts, e, rfl⟩
  · rename_i C fs e; cases h; exact .inr ⟨C, fs, e, rfl⟩
  · cases h
theorem vw_lst {r : Sv} {v : V} {ts : List Tr} (h : vw r z = some (.lst ts)) (C : Cor K B F α z σ H) (hv : Rv K F α v r) : ∃ a xs, v = .ref a ∧ H a = some (.lst xs) ∧ Rq K F xs ts := by
  cases r with
  | p t =>
    cases h
    obtain ⟨p, xs, rfl, h1, _, h2⟩ := Rp.inv_lst hv
    exact ⟨p, xs, rfl, C.same _ _ h1, h2⟩
  | c j =>
    obtain ⟨a, ea, rfl⟩ := hv
    rcases vwc h with ⟨us, e, q⟩ | ⟨_, _, _, q⟩
    · cases q
      obtain ⟨_, _, xs, e1, e2⟩ := C.cell j a _ ea e
      exact ⟨a, xs, rfl, e1, e2⟩
    · cases q
theorem vw_tup {r : Sv} {v : V} {ts : List Tr} (h : vw r z = some (.tup ts)) (C : Cor K B F α z σ H) (hv : Rv K F α v r) : ∃ a xs, v = .ref a ∧ SqT K H a xs ∧ Rq K F xs ts := by
  cases r with
  | p t =>
    cases h
    obtain ⟨p, xs, rfl, h1, _, h2⟩ := Rp.inv_tup hv
    exact ⟨p, xs, rfl, C.same.seqT h1, h2⟩
  | c j => rcases vwc h with ⟨us, e, q⟩ | ⟨_, _, _, q⟩ <;> cases q
theorem vw_ins {r : Sv} {v : V} {C0 : Addr} {ts : List (Str × Tr)} (h : vw r z = some (.ins C0 ts)) (C : Cor K B F α z σ H) (hv : Rv K F α v r) : ∃ a dx fs, v = .ref a ∧ H a = some (.ins C0 dx fs) ∧ Rf K F fs ts := by
  cases r with
  | p t =>
    cases h
    obtain ⟨p, dx, xs, rfl, h1, h2⟩ := Rp.inv_ins hv
    exact ⟨p, dx, xs, rfl, C.same _ _ h1, h2⟩
  | c j =>
    obtain ⟨a, ea, rfl⟩ := hv
    rcases vwc h with ⟨us, e, q⟩ | ⟨C1, us, e, q⟩
    · cases q
    · cases q
      obtain ⟨_, _, dx, xs, e1, e2⟩ := C.cell j a _ ea e
      exact ⟨a, dx, xs, rfl, e1, e2⟩
theorem vw_rp {r : Sv} {v : V} {t : Tr} (h : vw r z = some t) (bd : ∀ ts, t = .lst ts → ts.length ≤ sizeLine) (C : Cor K B F α z σ H) (hv : Rv K F α v r) : Rp K H v t := by
  cases r with
  | p t' => cases h; exact Rp.same hv C.same
  | c j =>
    obtain ⟨a, ea, rfl⟩ := hv
    rcases vwc h with ⟨us, e, rfl⟩ | ⟨C1, us, e, rfl⟩
    · obtain ⟨_, _, xs, e1, e2⟩ := C.cell j a _ ea e
      exact .lst e1 (by rw [e2.1]; exact bd _ rfl) e2.1 (e2.same C.same).2
    · obtain ⟨_, _, dx, xs, e1, e2⟩ := C.cell j a _ ea e
      exact .ins e1 e2.1 (e2.same C.same).2
end
end VL

set_option maxRecDepth 100000
set_option maxHeartbeats 4000000
/-! # Readings told by trees: what a reading is to be told of trees alone -/
namespace VL
open PySem PySem.Spec PyProof.Rows L2
abbrev Gx := Addr → HO → Prop
def ErOk (B : Hp) (E : XK) (G : Gx) : Prop := ∀ C o, G C o → L2.Rs C o B E
abbrev VE := Gx → Z → (Sv → Z → Prop) → Prop
abbrev VC := Gx → Z → (List Tr → Z → Prop) → Prop
abbrev VT := Gx → Z → (Bool → Z → Prop) → Prop
abbrev VA := Gx → Z → (List Sv → Z → Prop) → Prop
abbrev VG := Tr → Z → (Z → Prop) → Prop
abbrev VGs := List Tr → Z → (Z → Prop) → Prop
structure VEnds where
  nx : Z → Prop
  rt : Sv → Z → Prop
  bk : Z → Prop := fun _ => False
  ct : Z → Prop := fun _ => False
abbrev VS := Gx → VEnds → Z → Prop
def RE (K : PySem.W.Frag) (E : XK) (t : TE) (f : VE) : Prop := ∀ (B F : Hp) (α : List Addr) (z : Z) (σ : L2.St) (H : Hp) (G : Gx) (Qv : Sv → Z → Prop) (Q : VK), ErOk B E G → f G z Qv → Cor K B F α z σ H →
  (∀ F' α' z' r v H', Qv r z' → XTE B F α F' α' → Cor K B F' α' z' σ H' → Rv K F' α' v r → Q v H') → t σ H Q
/-- a new list -/
def RC (K : PySem.W.Frag) (E : XK) (t : TE) (f : VC) : Prop := ∀ (B F : Hp) (α : List Addr) (z : Z) (σ : L2.St) (H : Hp) (G : Gx) (Qv : List Tr → Z → Prop) (Q : VK), ErOk B E G → f G z Qv → Cor K B F α z σ H →
  (∀ F' α' z' ts xs a H', Qv ts z' → XTE B F α F' α' → Cor K B F' α' z' σ H' → Rq K F' xs ts → H' a = none → xs.length ≤ sizeLine → Q (.ref a) (upd H' a (.lst xs))) → t σ H Q
def RT (K : PySem.W.Frag) (E : XK) (t : TT) (f : VT) : Prop := ∀ (B F : Hp) (α : List Addr) (z : Z) (σ : L2.St) (H : Hp) (G : Gx) (Qv : Bool → Z → Prop) (Q : Bool → Hp → Prop), ErOk B E G → f G z Qv → Cor K B F α z σ H →
  (∀ F' α' z' b H', Qv b z' → XTE B F α F' α' → Cor K B F' α' z' σ H' → Q b H') → t σ H Q
inductive Rvs (K : PySem.W.Frag) (F : Hp) (α : List Addr) : List V → List Sv → Prop where
  | nil : Rvs K F α [] []
  | cons {v r vs rs} : Rv K F α v r → Rvs K F α vs rs → Rvs K F α (v :: vs) (r :: rs)
def RA (K : PySem.W.Frag) (E : XK) (t : TA) (f : VA) : Prop := ∀ (B F : Hp) (α : List Addr) (z : Z) (σ : L2.St) (H : Hp) (G : Gx) (Qv : List Sv → Z → Prop) (Q : List V → Hp → Prop), ErOk B E G → f G z Qv → Cor K B F α z σ H →
  (∀ F' α' z' rs vs H', Qv rs z' → XTE B F α F' α' → Cor K B F' α' z' σ H' → Rvs K F' α' vs rs → Q vs H') → t σ H Q
def RG (K : PySem.W.Frag) (t : TG) (f : VG) : Prop := ∀ (B F : Hp) (α : List Addr) (z : Z) (σ : L2.St) (H : Hp) (v : V) (u : Tr) (Qv : Z → Prop) (Q : L2.St → Hp → Prop), f u z Qv → Cor K B F α z σ H → Rp K F v u →
  (∀ F' α' z' σ' H', Qv z' → XTE B F α F' α' → Cor K B F' α' z' σ' H' → Q σ' H') → t v σ H Q
def RGs (K : PySem.W.Frag) (t : TGs) (f : VGs) : Prop := ∀ (B F : Hp) (α : List Addr) (z : Z) (σ : L2.St) (H : Hp) (vs : List V) (us : List Tr) (Qv : Z → Prop) (Q : L2.St → Hp → Prop), f us z Qv → Cor K B F α z σ H → Rq K F vs us →
  (∀ F' α' z' σ' H', Qv z' → XTE B F α F' α' → Cor K B F' α' z' σ' H' → Q σ' H') → t vs σ H Q
structure EndOk (K : PySem.W.Frag) (B F : Hp) (α : List Addr) (Dv : VEnds) (D : Ends) : Prop where
  nx : ∀ F' α' z σ H, Dv.nx z → XTE B F α F' α' → Cor K B F' α' z σ H → D.nx σ H
  rt : ∀ F' α' z σ H r v, Dv.rt r z → XTE B F α F' α' → Cor K B F' α' z σ H → Rv K F' α' v r → D.rt v H
  bk : ∀ F' α' z σ H, Dv.bk z → XTE B F α F' α' → Cor K B F' α' z σ H → D.bk σ H
  ct : ∀ F' α' z σ H, Dv.ct z → XTE B F α F' α' → Cor K B F' α' z σ H → D.ct σ H
def RS (K : PySem.W.Frag) (E : XK) (t : TS) (f : VS) : Prop := ∀ (B F : Hp) (α : List Addr) (z : Z) (σ : L2.St) (H : Hp) (G : Gx) (Dv : VEnds) (D : Ends), ErOk B E G → f G Dv z → Cor K B F α z σ H → EndOk K B F α Dv D → t D σ H
/-- an iterator over frozen things -/
structure ItOk (K : PySem.W.Frag) (F : Hp) (J : It) (its : List Tr) : Prop where
  go : ∀ i H, Same F H → i < its.length → J.go i H
  stop : ∀ H, Same F H → J.stop its.length H
  yld : ∀ i H x H', Same F H → i < its.length → J.yld i H x H' → (H' = H ∧ ∀ t, its[i]? = some t → Rp K F x t) ∨ ∃ T xs, x = .ref T ∧ H T = none ∧ H' = upd H T (.tup xs) ∧ xs.length ≤ sizeLine ∧ ∀ t, its[i]? = some t → ∃ ts, t = .tup ts ∧ Rq K F xs ts
def RI (K : PySem.W.Frag) (E : XK) (t : TI) (f : VC) : Prop := ∀ (B F : Hp) (α : List Addr) (z : Z) (σ : L2.St) (H : Hp) (G : Gx) (Qv : List Tr → Z → Prop) (R : It → Hp → Prop), ErOk B E G → f G z Qv → Cor K B F α z σ H →
  (∀ F' α' z' its J H', Qv its z' → XTE B F α F' α' → Cor K B F' α' z' σ H' → ItOk K F' J its → R J H') → t σ H R
section
variable {K : PySem.W.Frag} {E : XK} {B F F' : Hp} {α α' : List Addr}
theorem EndOk.ext {Dv : VEnds} {D : Ends} (h : EndOk K B F α Dv D) (x : XTE B F α F' α') : EndOk K B F' α' Dv D :=
  ⟨fun F' α' z σ H q y C => h.nx F' α' z σ H q (x.trans y) C, fun F' α' z σ H r v q y C => h.rt F' α' z σ H r v q (x.trans y) C, fun F' α' z σ H q y C => h.bk F' α' z σ H q (x.trans y) C, fun F' α' z σ H q y C => h.ct F' α' z σ H q (x.trans y) C⟩
theorem Rvs.ext {vs : List V} {rs : List Sv} (h : Rvs K F α vs rs) (x : XTE B F α F' α') : Rvs K F' α' vs rs := by
  induction h with
  | nil => exact .nil
  | cons h r ih => exact .cons (h.ext x) ih
/-! ### expressions -/
def fVar (i : Nat) : VE := fun _ z Q => ∃ r, z.e[i]? = some (some r) ∧ Q r z
theorem re_var {i : Nat} : RE K E (tVar i) (fVar i) := by
  intro B F α z σ H G Qv Q _ h C k
  obtain ⟨r, e, q⟩ := h
  obtain ⟨v, e1, e2⟩ := C.env i r e
  exact ⟨v, e1, k F α z r v H q .refl C e2⟩
def fC (v : V) : VE := fun _ z Q => Q (.p (.a v)) z
theorem re_C {v : V} : RE K E (tC v) (fC v) := by
  intro B F α z σ H G Qv Q _ h C k
  exact k F α z _ v H h .refl C (.a v)
/-- a new list, frozen at once -/
def fFz (f : VC) : VE := fun G z Q => f G z fun ts z1 => Q (.p (.lst ts)) z1
theorem re_fz {t : TE} {f : VC} (h : RC K E t f) : RE K E t (fFz f) := by
  intro B F α z σ H G Qv Q er hf C k
  refine h B F α z σ H G _ Q er hf C fun F' α' z' ts xs a H' q x C' rq ha lx => ?_
  obtain ⟨C2, x2⟩ := C'.fz (.lst xs) ha
  have rq2 := rq.same x2.1
  exact k _ _ z' _ _ _ q (x.trans x2) C2 (Rp.lst upd_same lx rq2.1 rq2.2)
/-- args -/
def fNil : VA := fun _ z Q => Q [] z
def fCons (f : VE) (g : VA) : VA := fun G z Q => f G z fun r z1 => g G z1 fun rs z2 => Q (r :: rs) z2
theorem ra_nil : RA K E tNil fNil := by
  intro B F α z σ H G Qv Q _ h C k
  exact k F α z [] [] H h .refl C .nil
theorem ra_cons {ta : TE} {tr : TA} {f : VE} {g : VA} (h1 : RE K E ta f) (h2 : RA K E tr g) : RA K E (tCons ta tr) (fCons f g) := by
  intro B F α z σ H G Qv Q er h C k
  refine h1 B F α z σ H G _ _ er h C fun F1 α1 z1 r v H1 q1 x1 C1 r1 => ?_
  refine h2 B F1 α1 z1 σ H1 G _ _ er q1 C1 fun F2 α2 z2 rs vs H2 q2 x2 C2 r2 => ?_
  exact k F2 α2 z2 _ _ H2 q2 (x1.trans x2) C2 (.cons (r1.ext x2) r2)
/-- all args frozen -/
def frzs : List Sv → Z → (List Tr → Z → Prop) → Prop
  | [], z, k => k [] z
  | r :: rs, z, k => frz r z fun t z1 => frzs rs z1 fun ts z2 => k (t :: ts) z2
theorem frzs_ok : ∀ {rs : List Sv} {F : Hp} {z : Z} {k : List Tr → Z → Prop} {vs : List V} {σ : L2.St} {H : Hp}, frzs rs z k → Cor K B F α z σ H → Rvs K F α vs rs → ∃ F' ts z', k ts z' ∧ XTE B F α F' α ∧ Cor K B F' α z' σ H ∧ Rq K F' vs ts
  | [], F, z, k, vs, σ, H, h, C, hv => by
    cases hv
    exact ⟨F, [], z, h, .refl, C, .nil⟩
  | r :: rs, F, z, k, vs, σ, H, h, C, hv => by
    cases hv with
    | cons h1 h2 =>
      obtain ⟨F1, t, z1, q1, x1, C1, r1⟩ := frz_ok h C h1
      obtain ⟨F2, ts, z2, q2, x2, C2, r2⟩ := frzs_ok q1 C1 (h2.ext x1)
      exact ⟨F2, _, z2, q2, x1.trans x2, C2, .cons (r1.same x2.1) r2⟩
def fTup (f : VA) : VE := fun G z Q => f G z fun rs z1 => rs.length ≤ sizeLine ∧ frzs rs z1 fun ts z2 => Q (.p (.tup ts)) z2
theorem Rvs.length {vs : List V} {rs : List Sv} (h : Rvs K F α vs rs) : vs.length = rs.length := by
  induction h with
  | nil => rfl
  | cons h r ih => rw [List.length_cons, List.length_cons, ih]
theorem re_tup {t : TA} {f : VA} (h : RA K E t f) : RE K E (tTup t) (fTup f) := by
  intro B F α z σ H G Qv Q er hf C k
  refine h B F α z σ H G _ _ er hf C fun F1 α1 z1 rs vs H1 q1 x1 C1 r1 => ?_
  obtain ⟨l, q1⟩ := q1
  obtain ⟨F2, ts, z2, q2, x2, C2, r2⟩ := frzs_ok q1 C1 r1
  refine ⟨by rw [r1.length]; exact l, fun p hp => ?_⟩
  obtain ⟨C3, x3⟩ := C2.fz (.tup vs) hp
  have r3 := r2.same x3.1
  exact k _ _ z2 _ _ _ q2 ((x1.trans x2).trans x3) C3 (Rp.tup (.of upd_same) (by rw [r1.length]; exact l) r3.1 r3.2)
def fLst (f : VA) : VC := fun G z Q => f G z fun rs z1 => rs.length ≤ sizeLine ∧ frzs rs z1 Q
theorem rc_lst {t : TA} {f : VA} (h : RA K E t f) : RC K E (tLst t) (fLst f) := by
  intro B F α z σ H G Qv Q er hf C k
  refine h B F α z σ H G _ _ er hf C fun F1 α1 z1 rs vs H1 q1 x1 C1 r1 => ?_
  obtain ⟨l, q1⟩ := q1
  obtain ⟨F2, ts, z2, q2, x2, C2, r2⟩ := frzs_ok q1 C1 r1
  refine ⟨by rw [r1.length]; exact l, fun p hp => ?_⟩
  exact k _ _ z2 ts vs p H1 q2 (x1.trans x2) C2 r2 hp (by rw [r1.length]; exact l)
def fIf (c : VT) (f g : VE) : VE := fun G z Q => c G z fun b z1 => (b = true → f G z1 Q) ∧ (b = false → g G z1 Q)
theorem re_if {tc : TT} {ta tb : TE} {c : VT} {f g : VE} (hc : RT K E tc c) (ha : RE K E ta f) (hb : RE K E tb g) : RE K E (tIf tc ta tb) (fIf c f g) := by
  intro B F α z σ H G Qv Q er h C k
  refine hc B F α z σ H G _ _ er h C fun F1 α1 z1 b H1 q1 x1 C1 => ?_
  cases b with
  | true => exact iteT (ha B F1 α1 z1 σ H1 G Qv Q er (q1.1 rfl) C1 fun F2 α2 z2 r v H2 q2 x2 C2 r2 => k F2 α2 z2 r v H2 q2 (x1.trans x2) C2 r2)
  | false => exact iteF (hb B F1 α1 z1 σ H1 G Qv Q er (q1.2 rfl) C1 fun F2 α2 z2 r v H2 q2 x2 C2 r2 => k F2 α2 z2 r v H2 q2 (x1.trans x2) C2 r2)
/-! ### tests -/
def fAndT (f g : VT) : VT := fun G z Q => f G z fun b z1 => (b = true → g G z1 Q) ∧ (b = false → Q false z1)
def fOrT (f g : VT) : VT := fun G z Q => f G z fun b z1 => (b = true → Q true z1) ∧ (b = false → g G z1 Q)
def fNotT (f : VT) : VT := fun G z Q => f G z fun b z1 => Q (!b) z1
theorem rt_and {t u : TT} {f g : VT} (h1 : RT K E t f) (h2 : RT K E u g) : RT K E (tAnd t u) (fAndT f g) := by
  intro B F α z σ H G Qv Q er h C k
  refine h1 B F α z σ H G _ _ er h C fun F1 α1 z1 b H1 q1 x1 C1 => ?_
  cases b with
  | true => exact iteT (h2 B F1 α1 z1 σ H1 G Qv Q er (q1.1 rfl) C1 fun F2 α2 z2 r H2 q2 x2 C2 => k F2 α2 z2 r H2 q2 (x1.trans x2) C2)
  | false => exact iteF (k F1 α1 z1 false H1 (q1.2 rfl) x1 C1)
theorem rt_or {t u : TT} {f g : VT} (h1 : RT K E t f) (h2 : RT K E u g) : RT K E (tOr t u) (fOrT f g) := by
  intro B F α z σ H G Qv Q er h C k
  refine h1 B F α z σ H G _ _ er h C fun F1 α1 z1 b H1 q1 x1 C1 => ?_
  cases b with
  | true => exact iteT (k F1 α1 z1 true H1 (q1.1 rfl) x1 C1)
  | false => exact iteF (h2 B F1 α1 z1 σ H1 G Qv Q er (q1.2 rfl) C1 fun F2 α2 z2 r H2 q2 x2 C2 => k F2 α2 z2 r H2 q2 (x1.trans x2) C2)
theorem rt_not {t : TT} {f : VT} (h : RT K E t f) : RT K E (tNot t) (fNotT f) := by
  intro B F α z σ H G Qv Q er hf C k
  exact h B F α z σ H G _ _ er hf C fun F1 α1 z1 b H1 q1 x1 C1 => k F1 α1 z1 _ H1 q1 x1 C1
def fAsB (f : VE) : VT := fun G z Q => f G z fun r z1 => ∃ b, r = .p (trB b) ∧ Q b z1
theorem rt_tB {t : TE} {f : VE} (h : RE K E t f) : RT K E (tB t) (fAsB f) := by
  intro B F α z σ H G Qv Q er hf C k
  refine h B F α z σ H G _ _ er hf C fun F1 α1 z1 r v H1 q1 x1 C1 r1 => ?_
  obtain ⟨b, rfl, q⟩ := q1
  exact ⟨b, Rp.atom r1, k F1 α1 z1 b H1 q x1 C1⟩
theorem rt_test {t : TE} {f : VE} (h : RE K E t f) : RT K E (tTest t) (fAsB f) := rt_tB h
/-- truth of a value -/
def truS (r : Sv) (z : Z) (b : Bool) : Prop := (∃ ts, (vw r z = some (.lst ts) ∨ vw r z = some (.tup ts)) ∧ b = !ts.isEmpty) ∨ (r = .p trN ∧ b = false) ∨ (∃ c, r = .p (trB c) ∧ b = c) ∨ (∃ i, r = .p (trI i) ∧ b = (i != 0)) ∨ ∃ y : Str, r = .p (trS y) ∧ y.length ≤ sizeLine ∧ b = ((y.length : Int) != 0)
theorem Rq.empty {xs : List V} {ts : List Tr} (h : Rq K F xs ts) : xs.isEmpty = ts.isEmpty := by
  have := h.1
  cases xs <;> cases ts <;> first | rfl | cases this
theorem truS_ok {r : Sv} {z : Z} {b : Bool} {v : V} {σ : L2.St} {H : Hp} (h : truS r z b) (C : Cor K B F α z σ H) (hv : Rv K F α v r) : TruV K v H b := by
  rcases h with ⟨ts, h | h, e⟩ | ⟨rfl, rfl⟩ | ⟨c, rfl, rfl⟩ | ⟨i, rfl, rfl⟩ | ⟨y, rfl, l, rfl⟩
  · obtain ⟨a, xs, rfl, h1, h2⟩ := vw_lst h C hv
    exact .inl ⟨xs, .of h1, by rw [h2.empty]; exact e⟩
  · obtain ⟨a, xs, rfl, h1, h2⟩ := vw_tup h C hv
    exact .inr (.inl ⟨xs, h1, by rw [h2.empty]; exact e⟩)
  · rw [Rp.atom hv]; exact rfl
  · rw [Rp.atom hv]; exact rfl
  · rw [Rp.atom hv]; exact rfl
  · rw [Rp.atom hv]; exact ⟨l, rfl⟩
def fTru (f : VE) : VT := fun G z Q => f G z fun r z1 => ∃ b, truS r z1 b ∧ Q b z1
theorem rt_tru {t : TE} {f : VE} (h : RE K E t f) : RT K E (fun σ H Q => t σ H fun x H' => ∃ k, TruV K x H' k ∧ Q k H') (fTru f) := by
  intro B F α z σ H G Qv Q er hf C k
  refine h B F α z σ H G _ _ er hf C fun F1 α1 z1 r v H1 q1 x1 C1 r1 => ?_
  obtain ⟨b, hb, q⟩ := q1
  exact ⟨b, truS_ok hb C1 r1, k F1 α1 z1 b H1 q x1 C1⟩
def fAndV (f g : VE) : VE := fun G z Q => f G z fun r z1 => ∃ b, r = .p (trB b) ∧ (b = true → g G z1 Q) ∧ (b = false → Q (.p (trB false)) z1)
def fOrV (f g : VE) : VE := fun G z Q => f G z fun r z1 => ∃ b, r = .p (trB b) ∧ (b = true → Q (.p (trB true)) z1) ∧ (b = false → g G z1 Q)
def fNotV (f : VE) : VE := fun G z Q => f G z fun r z1 => ∃ b, r = .p (trB b) ∧ Q (.p (trB (!b))) z1
def fNotU (f : VE) : VE := fun G z Q => f G z fun r z1 => ∃ b, truS r z1 b ∧ Q (.p (trB (!b))) z1
theorem re_andV {t u : TE} {f g : VE} (h1 : RE K E t f) (h2 : RE K E u g) : RE K E (tAndV t u) (fAndV f g) := by
  intro B F α z σ H G Qv Q er h C k
  refine h1 B F α z σ H G _ _ er h C fun F1 α1 z1 r v H1 q1 x1 C1 r1 => ?_
  obtain ⟨b, rfl, qt, qf⟩ := q1
  refine ⟨b, Rp.atom r1, ?_⟩
  cases b with
  | true => exact iteT (h2 B F1 α1 z1 σ H1 G Qv Q er (qt rfl) C1 fun F2 α2 z2 r v H2 q2 x2 C2 r2 => k F2 α2 z2 r v H2 q2 (x1.trans x2) C2 r2)
  | false => exact iteF (k F1 α1 z1 _ _ H1 (qf rfl) x1 C1 (.a _))
theorem re_orV {t u : TE} {f g : VE} (h1 : RE K E t f) (h2 : RE K E u g) : RE K E (tOrV t u) (fOrV f g) := by
  intro B F α z σ H G Qv Q er h C k
  refine h1 B F α z σ H G _ _ er h C fun F1 α1 z1 r v H1 q1 x1 C1 r1 => ?_
  obtain ⟨b, rfl, qt, qf⟩ := q1
  refine ⟨b, Rp.atom r1, ?_⟩
  cases b with
  | true => exact iteT (k F1 α1 z1 _ _ H1 (qt rfl) x1 C1 (.a _))
  | false => exact iteF (h2 B F1 α1 z1 σ H1 G Qv Q er (qf rfl) C1 fun F2 α2 z2 r v H2 q2 x2 C2 r2 => k F2 α2 z2 r v H2 q2 (x1.trans x2) C2 r2)
theorem re_notV {t : TE} {f : VE} (h : RE K E t f) : RE K E (tNotV t) (fNotV f) := by
  intro B F α z σ H G Qv Q er hf C k
  refine h B F α z σ H G _ _ er hf C fun F1 α1 z1 r v H1 q1 x1 C1 r1 => ?_
  obtain ⟨b, rfl, q⟩ := q1
  exact ⟨b, Rp.atom r1, k F1 α1 z1 _ _ H1 q x1 C1 (.a _)⟩
theorem re_notU {t : TE} {f : VE} (h : RE K E t f) : RE K E (tNotT K t) (fNotU f) := by
  intro B F α z σ H G Qv Q er hf C k
  refine h B F α z σ H G _ _ er hf C fun F1 α1 z1 r v H1 q1 x1 C1 r1 => ?_
  obtain ⟨b, hb, q⟩ := q1
  exact ⟨b, truS_ok hb C1 r1, k F1 α1 z1 _ _ H1 q x1 C1 (.a _)⟩
/-! ### operations by their readings -/
def RR2 (K : PySem.W.Frag) (r : R2) (f : Sv → Sv → Z → (Tr → Prop) → Prop) : Prop := ∀ (B F : Hp) (α : List Addr) (z : Z) (σ : L2.St) (H : Hp) (x y : V) (a b : Sv) (Q : Tr → Prop) (Q' : VK), f a b z Q → Cor K B F α z σ H → Rv K F α x a → Rv K F α y b → (∀ t v, Q t → Rp K F v t → Q' v H) → r x y H Q'
def fOp (g : Sv → Sv → Z → (Tr → Prop) → Prop) (f1 f2 : VE) : VE := fun G z Q => f1 G z fun a z1 => f2 G z1 fun b z2 => g a b z2 fun t => Q (.p t) z2
theorem re_op {r : R2} {g : Sv → Sv → Z → (Tr → Prop) → Prop} {ta tb : TE} {f1 f2 : VE} (hr : RR2 K r g) (h1 : RE K E ta f1) (h2 : RE K E tb f2) : RE K E (tOp r ta tb) (fOp g f1 f2) := by
  intro B F α z σ H G Qv Q er hf C k
  refine h1 B F α z σ H G _ _ er hf C fun F1 α1 z1 a x H1 q1 x1 C1 r1 => ?_
  refine h2 B F1 α1 z1 σ H1 G _ _ er q1 C1 fun F2 α2 z2 b y H2 q2 x2 C2 r2 => ?_
  exact hr B F2 α2 z2 σ H2 x y a b _ Q q2 C2 (r1.ext x2) r2 fun t v q rp => k F2 α2 z2 _ v H2 q (x1.trans x2) C2 rp
/-- an operation that makes a new list -/
def RR2C (K : PySem.W.Frag) (r : R2) (f : Sv → Sv → Z → (List Tr → Prop) → Prop) : Prop := ∀ (B F : Hp) (α : List Addr) (z : Z) (σ : L2.St) (H : Hp) (x y : V) (a b : Sv) (Q : List Tr → Prop) (Q' : VK), f a b z Q → Cor K B F α z σ H → Rv K F α x a → Rv K F α y b → (∀ ts xs p, Q ts → Rq K F xs ts → H p = none → xs.length ≤ sizeLine → Q' (.ref p) (upd H p (.lst xs))) → r x y H Q'
def fOpC (g : Sv → Sv → Z → (List Tr → Prop) → Prop) (f1 f2 : VE) : VC := fun G z Q => f1 G z fun a z1 => f2 G z1 fun b z2 => g a b z2 fun ts => Q ts z2
theorem rc_op {r : R2} {g : Sv → Sv → Z → (List Tr → Prop) → Prop} {ta tb : TE} {f1 f2 : VE} (hr : RR2C K r g) (h1 : RE K E ta f1) (h2 : RE K E tb f2) : RC K E (tOp r ta tb) (fOpC g f1 f2) := by
  intro B F α z σ H G Qv Q er hf C k
  refine h1 B F α z σ H G _ _ er hf C fun F1 α1 z1 a x H1 q1 x1 C1 r1 => ?_
  refine h2 B F1 α1 z1 σ H1 G _ _ er q1 C1 fun F2 α2 z2 b y H2 q2 x2 C2 r2 => ?_
  exact hr B F2 α2 z2 σ H2 x y a b _ Q q2 C2 (r1.ext x2) r2 fun ts xs p q rq hp lx => k F2 α2 z2 _ _ p H2 q (x1.trans x2) C2 rq hp lx
def RR1 (K : PySem.W.Frag) (r : V → Hp → VK → Prop) (f : Sv → Z → (Tr → Prop) → Prop) : Prop := ∀ (B F : Hp) (α : List Addr) (z : Z) (σ : L2.St) (H : Hp) (x : V) (a : Sv) (Q : Tr → Prop) (Q' : VK), f a z Q → Cor K B F α z σ H → Rv K F α x a → (∀ t v, Q t → Rp K F v t → Q' v H) → r x H Q'
def fUn (g : Sv → Z → (Tr → Prop) → Prop) (f : VE) : VE := fun G z Q => f G z fun a z1 => g a z1 fun t => Q (.p t) z1
theorem re_un {r : V → Hp → VK → Prop} {g : Sv → Z → (Tr → Prop) → Prop} {ta : TE} {f : VE} (hr : RR1 K r g) (h : RE K E ta f) : RE K E (tUn r ta) (fUn g f) := by
  intro B F α z σ H G Qv Q er hf C k
  refine h B F α z σ H G _ _ er hf C fun F1 α1 z1 a x H1 q1 x1 C1 r1 => ?_
  exact hr B F1 α1 z1 σ H1 x a _ Q q1 C1 r1 fun t v q rp => k F1 α1 z1 _ v H1 q x1 C1 rp
/-- builtins: what they read is told by trees; an answer, or a new list, or a new tuple -/
def RCB (K : PySem.W.Frag) (r : List V → Hp → VK → Prop) (f : List Sv → Z → (Tr → Prop) → Prop) : Prop := ∀ (B F : Hp) (α : List Addr) (z : Z) (σ : L2.St) (H : Hp) (vs : List V) (rs : List Sv) (Q : Tr → Prop) (Q' : VK), f rs z Q → Cor K B F α z σ H → Rvs K F α vs rs → (∀ t v, Q t → Rp K F v t → Q' v H) → r vs H Q'
def fCB (g : List Sv → Z → (Tr → Prop) → Prop) (f : VA) : VE := fun G z Q => f G z fun rs z1 => g rs z1 fun t => Q (.p t) z1
theorem re_cb {r : List V → Hp → VK → Prop} {g : List Sv → Z → (Tr → Prop) → Prop} {ta : TA} {f : VA} (hr : RCB K r g) (h : RA K E ta f) : RE K E (tCB r ta) (fCB g f) := by
  intro B F α z σ H G Qv Q er hf C k
  refine h B F α z σ H G _ _ er hf C fun F1 α1 z1 rs vs H1 q1 x1 C1 r1 => ?_
  exact hr B F1 α1 z1 σ H1 vs rs _ Q q1 C1 r1 fun t v q rp => k F1 α1 z1 _ v H1 q x1 C1 rp
def RCBC (K : PySem.W.Frag) (r : List V → Hp → VK → Prop) (f : List Sv → Z → (List Tr → Prop) → Prop) : Prop := ∀ (B F : Hp) (α : List Addr) (z : Z) (σ : L2.St) (H : Hp) (vs : List V) (rs : List Sv) (Q : List Tr → Prop) (Q' : VK), f rs z Q → Cor K B F α z σ H → Rvs K F α vs rs → (∀ ts xs p, Q ts → Rq K F xs ts → H p = none → xs.length ≤ sizeLine → Q' (.ref p) (upd H p (.lst xs))) → r vs H Q'
def fCBC (g : List Sv → Z → (List Tr → Prop) → Prop) (f : VA) : VC := fun G z Q => f G z fun rs z1 => g rs z1 fun ts => Q ts z1
theorem rc_cb {r : List V → Hp → VK → Prop} {g : List Sv → Z → (List Tr → Prop) → Prop} {ta : TA} {f : VA} (hr : RCBC K r g) (h : RA K E ta f) : RC K E (tCB r ta) (fCBC g f) := by
  intro B F α z σ H G Qv Q er hf C k
  refine h B F α z σ H G _ _ er hf C fun F1 α1 z1 rs vs H1 q1 x1 C1 r1 => ?_
  exact hr B F1 α1 z1 σ H1 vs rs _ Q q1 C1 r1 fun ts xs p q rq hp lx => k F1 α1 z1 _ _ p H1 q x1 C1 rq hp lx
def RCBT (K : PySem.W.Frag) (r : List V → Hp → VK → Prop) (f : List Sv → Z → (List Tr → Prop) → Prop) : Prop := ∀ (B F : Hp) (α : List Addr) (z : Z) (σ : L2.St) (H : Hp) (vs : List V) (rs : List Sv) (Q : List Tr → Prop) (Q' : VK), f rs z Q → Cor K B F α z σ H → Rvs K F α vs rs →
  (∀ ts xs p, Q ts → Rq K F xs ts → H p = none → xs.length ≤ sizeLine → Q' (.ref p) (upd H p (.tup xs))) → (∀ ts v, Q ts → Rp K F v (.tup ts) → Q' v H) → r vs H Q'
def fCBT (g : List Sv → Z → (List Tr → Prop) → Prop) (f : VA) : VE := fun G z Q => f G z fun rs z1 => g rs z1 fun ts => Q (.p (.tup ts)) z1
theorem re_cbT {r : List V → Hp → VK → Prop} {g : List Sv → Z → (List Tr → Prop) → Prop} {ta : TA} {f : VA} (hr : RCBT K r g) (h : RA K E ta f) : RE K E (tCB r ta) (fCBT g f) := by
  intro B F α z σ H G Qv Q er hf C k
  refine h B F α z σ H G _ _ er hf C fun F1 α1 z1 rs vs H1 q1 x1 C1 r1 => ?_
  refine hr B F1 α1 z1 σ H1 vs rs _ Q q1 C1 r1 (fun ts xs p q rq hp lx => ?_) fun ts v q rp => k F1 α1 z1 _ v H1 q x1 C1 rp
  obtain ⟨C2, x2⟩ := C1.fz (.tup xs) hp
  have rq2 := rq.same x2.1
  exact k _ _ z1 _ _ _ q (x1.trans x2) C2 (Rp.tup (.of upd_same) lx rq2.1 rq2.2)
/-! ### statements -/
def fNext : VS := fun _ D z => D.nx z
def fSeq (f g : VS) : VS := fun G D z => f G { D with nx := fun z1 => g G D z1 } z
def fBreak : VS := fun _ D z => D.bk z
def fCont : VS := fun _ D z => D.ct z
def fDrop (f : VE) : VS := fun G D z => f G z fun _ z1 => D.nx z1
def fRet (f : VE) : VS := fun G D z => f G z D.rt
def fRetC (f : VC) : VS := fun G D z => f G z fun ts z1 => D.rt (.c z1.c.length) ⟨z1.e, z1.c ++ [.lst ts]⟩
def fRetN : VS := fun _ D z => D.rt (.p trN) z
def fIfS (c : VT) (f g : VS) : VS := fun G D z => c G z fun b z1 => (b = true → f G D z1) ∧ (b = false → g G D z1)
theorem rs_next : RS K E tNext fNext := fun B F α z σ H G Dv D er h C eo => eo.nx F α z σ H h .refl C
theorem rs_seq {t u : TS} {f g : VS} (h1 : RS K E t f) (h2 : RS K E u g) : RS K E (tSeq t u) (fSeq f g) := by
  intro B F α z σ H G Dv D er h C eo
  exact h1 B F α z σ H G _ _ er h C ⟨fun F' α' z' σ' H' q x C' => h2 B F' α' z' σ' H' G Dv D er q C' (eo.ext x), eo.rt, eo.bk, eo.ct⟩
theorem rs_cutI {t u : TS} {f g : VS} (h1 : RS K E t f) (h2 : RS K E u g) : RS K E (tCutI t u) (fSeq f g) := by
  rw [tCutI_eq]; exact rs_seq h1 h2
theorem rs_break : RS K E tBreak fBreak := fun B F α z σ H G Dv D er h C eo => eo.bk F α z σ H h .refl C
theorem rs_cont : RS K E tCont fCont := fun B F α z σ H G Dv D er h C eo => eo.ct F α z σ H h .refl C
theorem rs_drop {t : TE} {f : VE} (h : RE K E t f) : RS K E (tDrop t) (fDrop f) := by
  intro B F α z σ H G Dv D er hf C eo
  exact h B F α z σ H G _ _ er hf C fun F1 α1 z1 r v H1 q x C1 _ => eo.nx F1 α1 z1 σ H1 q x C1
theorem rs_ret {t : TE} {f : VE} (h : RE K E t f) : RS K E (tRet t) (fRet f) := by
  intro B F α z σ H G Dv D er hf C eo
  exact h B F α z σ H G _ _ er hf C fun F1 α1 z1 r v H1 q x C1 r1 => eo.rt F1 α1 z1 σ H1 r v q x C1 r1
theorem rs_retC {t : TE} {f : VC} (h : RC K E t f) : RS K E (tRet t) (fRetC f) := by
  intro B F α z σ H G Dv D er hf C eo
  refine h B F α z σ H G _ _ er hf C fun F1 α1 z1 ts xs a H1 q x C1 rq ha lx => ?_
  obtain ⟨C2, x2⟩ := C1.cl ha rq
  exact eo.rt _ _ _ σ _ _ _ q (x.trans x2) C2 ⟨a, by rw [← C1.len, List.getElem?_concat_length], rfl⟩
theorem rs_retN : RS K E tRetN fRetN := fun B F α z σ H G Dv D er h C eo => eo.rt F α z σ H _ _ h .refl C (.a _)
theorem rs_if {tc : TT} {t u : TS} {c : VT} {f g : VS} (hc : RT K E tc c) (h1 : RS K E t f) (h2 : RS K E u g) : RS K E (tIfS tc t u) (fIfS c f g) := by
  intro B F α z σ H G Dv D er h C eo
  refine hc B F α z σ H G _ _ er h C fun F1 α1 z1 b H1 q1 x1 C1 => ?_
  cases b with
  | true => exact iteT (h1 B F1 α1 z1 σ H1 G Dv D er (q1.1 rfl) C1 (eo.ext x1))
  | false => exact iteF (h2 B F1 α1 z1 σ H1 G Dv D er (q1.2 rfl) C1 (eo.ext x1))
/-! ### targets, assignments -/
def Z.set (z : Z) (i : Nat) (r : Sv) : Z := ⟨z.e.set i (some r), z.c⟩
def fgName (i : Nat) : VG := fun t z Q => Q (z.set i (.p t))
theorem rg_name {i : Nat} : RG K (gName i) (fgName i) := by
  intro B F α z σ H v u Qv Q h C rp k
  exact k F α _ _ H h .refl (C.slot i rp)
def fgNil : VGs := fun ts z Q => ts = [] ∧ Q z
def fgCons (f : VG) (g : VGs) : VGs := fun ts z Q => ∃ t r, ts = t :: r ∧ f t z fun z1 => g r z1 Q
theorem rg_nil : RGs K gNil fgNil := by
  intro B F α z σ H vs us Qv Q h C rq k
  obtain ⟨rfl, h⟩ := h
  exact ⟨rq.nil', k F α z σ H h .refl C⟩
theorem rg_cons {t : TG} {u : TGs} {f : VG} {g : VGs} (h1 : RG K t f) (h2 : RGs K u g) : RGs K (gCons t u) (fgCons f g) := by
  intro B F α z σ H vs us Qv Q h C rq k
  obtain ⟨t, r, rfl, h⟩ := h
  obtain ⟨v, r', rfl, q1, q2⟩ := rq.inv'
  refine ⟨v, r', rfl, h1 B F α z σ H v t _ _ h C q1 fun F1 α1 z1 σ1 H1 q x C1 => ?_⟩
  exact h2 B F1 α1 z1 σ1 H1 r' r _ _ q C1 (q2.same x.1) fun F2 α2 z2 σ2 H2 q' x2 C2 => k F2 α2 z2 σ2 H2 q' (x.trans x2) C2
def fgTup (n : Nat) (g : VGs) : VG := fun t z Q => ∃ ts, t = .tup ts ∧ ts.length = n ∧ g ts z Q
theorem rg_tup {n : Nat} {t : TGs} {g : VGs} (h : RGs K t g) : RG K (gTup K n t) (fgTup n g) := by
  intro B F α z σ H v u Qv Q hf C rp k
  obtain ⟨ts, rfl, l, hf⟩ := hf
  obtain ⟨p, xs, rfl, h1, _, h2⟩ := rp.inv_tup
  exact ⟨p, xs, rfl, C.same.seqT h1, by rw [h2.1]; exact l, h B F α z σ H xs ts _ _ hf C h2 k⟩
/-- x = e: what x holds is frozen -/
def fAsg (f : VE) (g : VG) : VS := fun G D z => f G z fun r z1 => frz r z1 fun t z2 => g t z2 D.nx
theorem rs_asg {t : TE} {f : VE} {g : TG} {fg : VG} (h : RE K E t f) (hg : RG K g fg) : RS K E (tAsg t g) (fAsg f fg) := by
  intro B F α z σ H G Dv D er hf C eo
  refine h B F α z σ H G _ _ er hf C fun F1 α1 z1 r v H1 q x C1 r1 => ?_
  obtain ⟨F2, t, z2, q2, x2, C2, r2⟩ := frz_ok q C1 r1
  exact hg B F2 α1 z2 σ H1 v t _ _ q2 C2 r2 fun F3 α3 z3 σ3 H3 q3 x3 C3 => eo.nx F3 α3 z3 σ3 H3 q3 ((x.trans x2).trans x3) C3
/-- the slots that hold what may change -/
def Mt (i : Nat) : Prop := True
def fAsgC (f : VC) (i : Nat) : VS := fun G D z => f G z fun ts z1 => D.nx ⟨z1.e.set i (some (.c z1.c.length)), z1.c ++ [.lst ts]⟩
theorem rs_asgC {t : TE} {f : VC} {i : Nat} (m : Mt i) (h : RC K E t f) : RS K E (tAsg t (gName i)) (fAsgC f i) := by
  intro B F α z σ H G Dv D er hf C eo
  refine h B F α z σ H G _ _ er hf C fun F1 α1 z1 ts xs a H1 q x C1 rq ha lx => ?_
  obtain ⟨C2, x2⟩ := C1.cl ha rq
  exact eo.nx _ _ _ _ _ q (x.trans x2) (C2.slot i (r := .c z1.c.length) ⟨a, by rw [← C1.len, List.getElem?_concat_length], rfl⟩)
def fAsgR (f : VE) (i : Nat) : VS := fun G D z => f G z fun r z1 => D.nx (z1.set i r)
/-- x = e: a cell goes on as one -/
theorem rs_asgR {t : TE} {f : VE} {i : Nat} (m : Mt i) (h : RE K E t f) : RS K E (tAsg t (gName i)) (fAsgR f i) := by
  intro B F α z σ H G Dv D er hf C eo
  refine h B F α z σ H G _ _ er hf C fun F1 α1 z1 r v H1 q x C1 r1 => ?_
  exact eo.nx _ _ _ _ _ q x (C1.slot i r1)
end
end VL

set_option maxRecDepth 100000
set_option maxHeartbeats 4000000
/-! # range(n) as a value; list(range(..)) -/
namespace L2
open PySem PySem.Spec PyProof.Rows
section
variable {X : Cx}
theorem cr_range1 : CallR X (.type "range") (fun vs H Q => ∃ j, vs = [V.int j] ∧ ∀ p, H p = none → Q (.ref p) (upd H p (.rng 0 j))) := by
  intro pins s σ H vs us Q I r h
  obtain ⟨j, rfl, q⟩ := h
  obtain ⟨u, rfl, rj⟩ := vals1 r
  obtain ⟨t, rfl⟩ := rj
  refine call_range_1 ⟨.ref s.heap.objs.size, upd H s.heap.objs.size (.rng 0 j), I.laid (t' := s.toks + 1 + 1) (fun b o e => Heap.get?_push_of_some _ e) (Nat.le_refl _) ?_, rfl, q _ (I.hok.fresh (Nat.le_refl _))⟩
  exact ⟨s.toks, t, s.toks + 1, Heap.get?_push_size _ rfl⟩
/-- the whole numbers from lo on, n of them -/
def runI (lo : Int) (n : Nat) : List V := (List.range n).map fun i => V.int (lo + (i : Nat))
theorem vals_run {lo : Int} : ∀ (n : Nat) (us : List Value), us.length = n → (∀ i v, us[i]? = some v → ∃ t, v = Value.int (lo + (i : Nat)) t) → Vals (runI lo n) us := by
  intro n
  induction n with
  | zero =>
    intro us l _
    cases us with
    | nil => exact .nil
    | cons _ _ => cases l
  | succ n ih =>
    intro us l h
    have hd : us = us.take n ++ [us[n]] := by
      conv => lhs; rw [← List.take_append_drop n us]
      congr 1
      rw [List.drop_eq_getElem_cons (by omega), List.drop_of_length_le (by omega)]
    have h1 := ih (us.take n) (by rw [List.length_take]; omega) fun i v e => by
      rw [List.getElem?_take] at e
      split at e
      · exact h i v e
      · cases e
    obtain ⟨t, ht⟩ := h n us[n] (List.getElem?_eq_getElem (by omega))
    rw [hd, ht]
    unfold runI
    rw [List.range_succ, List.map_append]
    exact h1.append (.cons ⟨t, rfl⟩ .nil)
/-- list(r), r a range by ones -/
theorem call_list_rng (hc : X.calm = true := by rfl) : CallR X (.type "list") (fun xs H Q => ∃ r lo hi, xs = [V.ref r] ∧ H r = some (.rng lo hi) ∧ (-(2 ^ 62) ≤ lo ∧ lo < 2 ^ 62 ∧ -(2 ^ 62) ≤ hi ∧ hi < 2 ^ 62 ∧ hi - lo ≤ 2 ^ 20) ∧ ∀ l, H l = none → Q (.ref l) (upd H l (.lst (runI lo (hi - lo).toNat)))) := by
  intro pins s σ H xs us Q I rr h
  obtain ⟨r, lo, hi, rfl, hr, ⟨b1, b2, b3, b4, b5⟩, q⟩ := h
  obtain ⟨u, rfl, ru⟩ := vals1 rr
  cases ru
  obtain ⟨t1, t2, t3, ho⟩ := I.hok r _ hr
  refine call_list_range (n := (hi - lo).toNat) (I.ok.hd hc) ho (small_one b1 b2 b3 b4) (by rw [rangeSize_one]; split <;> omega) (by omega) fun h' tk acc' c' hk hS hI => ?_
  refine ⟨.ref s.heap.objs.size, _, I.laid (t' := tk) hk (Nat.le_refl _) (show ObjOk X.prog X.w _ h' _ (.lst (runI lo (hi - lo).toNat)) from ⟨?_, acc'.toList, c', vals_run _ _ (by rw [Array.length_toList]; exact hI.1) fun i v e => ?_, ?_⟩), rfl, q _ (I.hok.fresh (Nat.le_refl _))⟩
  · unfold runI
    rw [List.length_map, List.length_range, sizeLine_eq]
    omega
  · rw [Array.getElem?_toList] at e
    obtain ⟨t, ht⟩ := hI.2 i v e
    exact ⟨t, by rw [ht, Int.mul_one]⟩
  · rw [Array.toArray_toList]
    exact hS
end
end L2

set_option maxRecDepth 100000
set_option maxHeartbeats 4000000
/-! # xs[a:c] = ys -/
namespace L2
open PySem PySem.Spec PyProof.Rows
theorem bounds_clamp (a c n : Nat) (h : a ≤ c) : sliceBounds (some (a : Int)) (some (c : Int)) none n = (((min a n : Nat) : Int), ((min c n : Nat) : Int), 1) := by
  have na : ¬ (a : Int) < 0 := by omega
  have nc : ¬ (c : Int) < 0 := by omega
  simp only [sliceBounds, Option.getD_none, na, nc, if_false, (by decide : (1 : Int) > 0), if_true]
  refine Prod.ext ?_ (Prod.ext ?_ rfl) <;> (dsimp only; omega)
section
variable {prog : Program} {w : World} {A : Around} {E : Value → Shared → Prop} {s : Shared}
set_option maxRecDepth 100000 in
/-- a list's part is replaced by another list; the bounds may lie beyond its end -/
theorem put_slice {l b sl : Addr} {old new : Array Value} {n n2 : Nat} {vl vu : Value} {a c : Nat} {Q : Unit → Shared → Prop}
    (el : s.heap.get? l = some { cls := .type "list", data := .seq old n }) (eb : s.heap.get? b = some { cls := .type "list", data := .seq new n2 }) (ne : l ≠ b)
    (hs : s.heap.IsSliceOf sl vl vu .none) (pl : IsPart vl (some (a : Int))) (pu : IsPart vu (some (c : Int))) (h01 : a ≤ c) (line : old.size + new.size ≤ sizeLine)
    (h : Q () { s with heap := s.heap.update l (Obj.mapSeq fun xs => xs.extract 0 (min a old.size) ++ new ++ xs.extract (min c old.size) xs.size) }) : wpAny (model prog w) A (setItem (.ref l) (.ref sl) (.ref b)) Q E s := by
  have Tl : s.heap.IsList l old := PySem.IsL.isList el
  have Tb : s.heap.IsList b new := PySem.IsL.isList eb
  obtain ⟨os, g1, g2, g3⟩ := id hs
  have Ts : s.TypeIs (.ref sl) "slice" := ⟨os, g1, g2⟩
  have other : Builtin.List.listSameRef (.ref l) (.ref b) = false := beq_eq_false_iff_ne.mpr ne
  have mx : (max ((min a old.size : Nat) : Int) ((min c old.size : Nat) : Int)).toNat = min c old.size := by omega
  have room : ((fun xs : Array Value => xs.extract 0 (min a old.size) ++ new ++ xs.extract (min c old.size) xs.size) old).size ≤ sizeLine + 1 := by
    simp only [Array.size_append, Array.size_extract]; omega
  unfold setItem
  try with_reducible refine wpAny_holding ?_
  first | refine wpAny_bind (wpAny_pure ?_) | skip
  refine wpAny_bind (wpAny_sequenceKey Tl.typeIs (by decide) (wpAny_bind (wpAny_callSpecial?_slot (name := Str.ofString "__setitem__") Tl.typeIs slot_list_setitem (wpAny_call_entry slot_list_setitem Tl.typeIs entry_list_setitem ?_ (args_list_setitem _ _ _)))))
  show wpAny _ _ (Builtin.List.listSubscript? (.ref sl) >>= _) _ _ s
  unfold Builtin.List.listSubscript?
  refine wpAny_bind (wpAny_bind (wpAny_specialOf Ts slice_no_index ?_))
  simp only [Option.isNone_none, if_true]
  refine wpAny_pure ?_
  show wpAny _ _ (typeOf (.ref sl) >>= _) _ _ s
  refine wpAny_bind (wpAny_typeOf Ts ?_)
  first | rw [if_neg (by decide)] | refine PySem.W.KFB.if_not (by decide) ?_
  rw [listSliceParts_eq]
  refine wpAny_bind (wpAny_bind (wpAny_field g1 g3 (x := .none) rfl (wpAny_bind (wpAny_listPart .none ?_))))
  rw [if_neg (show ¬ ((rawPart none == rawInt 0) = true) from Bool.false_ne_true)]
  refine wpAny_bind (wpAny_field g1 g3 (x := vl) rfl (wpAny_bind (wpAny_listPart pl (wpAny_bind (wpAny_field g1 g3 (x := vu) rfl (wpAny_bind (wpAny_listPart pu (wpAny_pure ?_))))))))
  first | simp only [other, Bool.false_eq_true, if_false] | refine PySem.W.KFB.if_not other ?_ | (dsimp only; rw [if_neg (by rw [other]; exact Bool.false_ne_true)])
  refine wpAny_bind (m := Builtin.List.listAllItems (.ref b) "must assign iterable to extended slice") ?_
  unfold Builtin.List.listAllItems
  refine wpAny_bind (wpAny_typeOf Tb.typeIs ?_)
  first | refine PySem.W.KFB.if_so (by decide) ?_ | rw [if_pos (by decide)] | simp only [beq_self_eq_true, Bool.true_or, if_true]
  unfold Builtin.List.listItems
  refine wpAny_bind (wpAny_seqItems eb rfl (wpAny_pure (wpAny_bind (wpAny_bind (wpAny_seqItems el rfl (wpAny_pure (wpAny_bind (wpAny_of_eq ((sliceIndices_raw (some (a : Int)) (some (c : Int)) none old.size (by simp)).trans (congrArg (pure : Int × Int × Int → Sem (Int × Int × Int)) (bounds_clamp a c old.size h01))) ?_))))))))
  show wpAny _ _ (if ((1 : Int) == 1) = true then _ else _) _ _ s
  rw [if_pos (by decide)]
  refine wpAny_bind (wpAny_rule ?_)
  first | simp only [notLongL line, Bool.false_eq_true, if_false] | refine PySem.W.KFB.if_not (notLongL line) ?_
  first | refine wpAny_bind (wpAny_pure ?_) | skip
  show wpAny _ _ (updateSeq l (fun xs => xs.extract 0 (((min a old.size : Nat) : Int)).toNat ++ new ++ xs.extract (max ((min a old.size : Nat) : Int) ((min c old.size : Nat) : Int)).toNat xs.size) >>= _) _ _ s
  rw [mx, Int.toNat_natCast]
  refine wpAny_bind (wpAny_updateSeq (hz := Nat.le_trans (Nat.le_add_right _ _) line) (_hz' := room) el rfl (wpAny_bind (wpAny_letGo ?_)))
  first
    | exact wpAny_bind (wpAny_pure (wpAny_pure ⟨.none, rfl, wpAny_pure h⟩))
    | exact wpAny_pure ⟨.none, rfl, wpAny_pure h⟩
end
theorem set_sliceC {X : Cx} {pins : List (Addr × Obj)} {s : Shared} {σ : L2.St} {H : Hp} {l b sl : Addr} {xs ys : List V} {a c : Int} {vl vu : Value} {Q : Unit → Shared → Prop} (I : Inv X pins σ H s)
    (hH : H l = some (.lst xs)) (hB : H b = some (.lst ys)) (ne : l ≠ b) (hs : s.heap.IsSliceOf sl vl vu .none) (pl : IsPart vl (some a)) (pu : IsPart vu (some c)) (h0 : 0 ≤ a) (hac : a ≤ c)
    (hz : xs.length + ys.length ≤ sizeLine) (h : ∀ s', Inv X pins σ (upd H l (.lst (xs.take a.toNat ++ ys ++ xs.drop c.toNat))) s' → Q () s') : wpAny (model X.prog X.w) X.A (setItem (.ref l) (.ref sl) (.ref b)) Q X.xe s := by
  obtain ⟨z, its, n, r, hl, e⟩ := I.lstM hH
  obtain ⟨z2, its2, n2, r2, hl2, e2⟩ := I.lstM hB
  obtain ⟨a', rfl⟩ := Int.eq_ofNat_of_zero_le h0
  obtain ⟨c', rfl⟩ := Int.eq_ofNat_of_zero_le (Int.le_trans h0 hac)
  simp only [Int.toNat_natCast] at h
  have lr : xs.length = its.length := r.length
  have lr2 : ys.length = its2.length := r2.length
  refine put_slice (a := a') (c := c') e e2 ne hs pl pu (by omega) (by rw [List.size_toArray, List.size_toArray]; omega) (h _ ?_)
  have tk : xs.take a' = xs.take (min a' its.length) := by
    rcases Nat.le_total a' its.length with h | h
    · rw [Nat.min_eq_left h]
    · rw [Nat.min_eq_right h, List.take_of_length_le (by omega), List.take_of_length_le (by omega)]
  have dr : xs.drop c' = xs.drop (min c' its.length) := by
    rcases Nat.le_total c' its.length with h | h
    · rw [Nat.min_eq_left h]
    · rw [Nat.min_eq_right h, List.drop_eq_nil_of_le (by omega), List.drop_eq_nil_of_le (by omega)]
  rw [tk, dr]
  refine I.lset (its' := its.take (min a' its.length) ++ its2 ++ its.drop (min c' its.length)) (t' := s.toks) hH e ?_ (Vals.append (Vals.append (r.take _) r2) (r.drop _)) ?_
  · rw [List.size_toArray]
    exact splice_eq its its2 (min a' its.length) (min c' its.length)
  · rw [List.length_append, List.length_append, List.length_take, List.length_drop]
    omega
/-- xs[a:c] = .., another list -/
def gSlSet (to : TE) (tl th : TO) : TG := fun v σ H Q => to σ H fun o H1 => tl σ H1 fun lo H2 => th σ H2 fun hi H3 => ∃ (l b : Addr) (xs ys : List V) (a c : Int), o = .ref l ∧ v = .ref b ∧ lo = some a ∧ hi = some c ∧ H3 l = some (.lst xs) ∧ H3 b = some (.lst ys) ∧ l ≠ b ∧ 0 ≤ a ∧ a ≤ c ∧ xs.length + ys.length ≤ sizeLine ∧ Q σ (upd H3 l (.lst (xs.take a.toNat ++ ys ++ xs.drop c.toNat)))
theorem pg_slSet {X : Cx} {o : Expr} {lo hi : Option Expr} {p2 pos : Pos} {to : TE} {tl th : TO} (ho : PE X o to) (hl : PO X lo tl) (hu : PO X hi th)
    (ha : ∀ v, assign (.Subscript o (.Slice lo hi none p2) pos) X.env v = (do
      let ov ← holding [v] (eval o X.env)
      let iv ← holding [v, ov] (eval (.Slice lo hi none p2) X.env)
      standAt pos
      holding [v, ov, iv] (setItem ov iv v)
      release [iv, v, ov] []) := by intro _; rfl) : PG X (.Subscript o (.Slice lo hi none p2) pos) (gSlSet to tl th) := by
  refine ⟨fun pins s σ H v u Q I r h => ?_⟩
  rw [ha]
  refine wpAny_bind (wpAny_holding (thn (ho.run pins s σ H _ I h) fun ov s1 ⟨x, H1, I1, r1, q1⟩ => ?_))
  refine wpAny_bind (wpAny_holding (wpAny_Slice (thn (hl.run pins s1 σ H1 _ I1 q1) fun vl s2 ⟨l, H2, I2, pl, q2⟩ => thn (hu.run pins s2 σ H2 _ I2 q2) fun vu s3 ⟨u, H3, I3, pu, q3⟩ => ?_)))
  rw [evalPart_none]
  refine wpAny_pure ?_
  have I4 : Inv X pins σ H3 { s3 with heap := s3.heap.push { cls := .type "slice", data := .fields #[vl, vu, .none] } } := I3.kept (t' := s3.toks) fun b ob q => Heap.get?_push_of_some _ q
  obtain ⟨la, lb, xs, ys, a, c, rfl, rfl, rfl, rfl, hA, hB, ne, h0, h1, hz, q⟩ := q3
  cases r1
  cases r
  refine wpAny_bind (wpAny_standAt (wpAny_bind (wpAny_holding (set_sliceC I4 hA hB ne (Heap.IsSliceOf.new ..) pl pu h0 h1 hz fun s' I5 => ?_))))
  exact wpAny_release ⟨σ, _, I5, q⟩
end L2

set_option maxRecDepth 100000
set_option maxHeartbeats 4000000
/-! # The readings of operations, told by trees -/
namespace VL
open PySem PySem.Spec PyProof.Rows L2
section
variable {K : PySem.W.Frag} {E : XK} {B F F' : Hp} {α α' : List Addr} {z : Z} {σ : L2.St} {H H' : Hp}
theorem Cor.grow (C : Cor K B F α z σ H) (s : Same H H') : Cor K B F α z σ H' :=
  ⟨C.keep.trans s, C.same.trans s, C.len, C.nd, fun k a c e f => (C.cell k a c e f).mono (.refl _) (fun _ _ _ h => h) (fun _ _ _ _ _ h => h) (fun _ _ h _ => s _ _ h), C.elen, C.env⟩
/-- a tuple that has come -/
theorem Cor.see (C : Cor K B F α z σ H) {p : Addr} {xs : List V} (h : SqT K H p xs) : ∃ F', XTE B F α F' α ∧ Cor K B F' α z σ H ∧ SqT K F' p xs := by
  rcases h with h | h
  · have hn : ∀ o, isMut o → H p ≠ some o := fun o m q => by
      rcases h with h | ⟨u, h⟩ <;> (rw [q] at h; cases h; exact m)
    have sF : Same F (fun b => if b = p then H p else F b) := fun b o e => by
      show (if b = p then H p else F b) = some o
      by_cases q : b = p
      · subst q; rw [if_pos rfl]; exact C.same b o e
      · rw [if_neg q]; exact e
    have x : XTE B F α (fun b => if b = p then H p else F b) α := ⟨sF, ⟨[], by rw [List.append_nil]⟩, fun b o m e => by
      have e : (if b = p then H p else F b) = some o := e
      by_cases q : b = p
      · rw [if_pos q] at e; exact absurd e (hn o m)
      · rw [if_neg q] at e; exact .inl e⟩
    refine ⟨_, x, ⟨C.keep, fun b o e => ?_, C.len, C.nd, fun k a c e f => ?_, C.elen, fun i r e => ?_⟩, .inl ?_⟩
    · have e : (if b = p then H p else F b) = some o := e
      by_cases q : b = p
      · subst q; rw [if_pos rfl] at e; exact e
      · rw [if_neg q] at e; exact C.same b o e
    · exact (C.cell k a c e f).mono sF (fun _ _ _ h => h) (fun b o m q _ h => (show (if b = p then H p else F b) = none from (if_neg fun w => hn o m (by rw [← w]; exact q)).trans h)) (fun _ _ h _ => h)
    · obtain ⟨v, e1, e2⟩ := C.env i r e
      exact ⟨v, e1, e2.ext x⟩
    · rcases h with h | ⟨o, h⟩
      · exact .inl ((if_pos rfl).trans h)
      · exact .inr ⟨o, (if_pos rfl).trans h⟩
  · exact ⟨F, .refl, C, .inr h⟩
theorem Rvs.one {vs : List V} {r : Sv} (h : Rvs K F α vs [r]) : ∃ v, vs = [v] ∧ Rv K F α v r := by
  cases h with
  | cons h t => cases t; exact ⟨_, rfl, h⟩
theorem Rvs.two {vs : List V} {r s : Sv} (h : Rvs K F α vs [r, s]) : ∃ v w, vs = [v, w] ∧ Rv K F α v r ∧ Rv K F α w s := by
  cases h with
  | cons h t => cases t with
    | cons h2 t => cases t; exact ⟨_, _, rfl, h, h2⟩
/-! ### ints, atoms -/
def gI0 (g : Int → Int → V) : Sv → Sv → Z → (Tr → Prop) → Prop := fun a b _ Q => ∃ i j, a = .p (trI i) ∧ b = .p (trI j) ∧ Q (.a (g i j))
theorem rr_I0 {g : Int → Int → V} : RR2 K (rI0 g) (gI0 g) := by
  rintro B F α z σ H x y a b Q Q' ⟨i, j, rfl, rfl, q⟩ C h1 h2 k
  exact ⟨i, j, Rp.atom h1, Rp.atom h2, k _ _ q (.a _)⟩
def gI (P : Int → Int → Prop) (g : Int → Int → V) : Sv → Sv → Z → (Tr → Prop) → Prop := fun a b _ Q => ∃ i j, a = .p (trI i) ∧ b = .p (trI j) ∧ P i j ∧ Q (.a (g i j))
theorem rr_I {P : Int → Int → Prop} {g : Int → Int → V} : RR2 K (rI P g) (gI P g) := by
  rintro B F α z σ H x y a b Q Q' ⟨i, j, rfl, rfl, p, q⟩ C h1 h2 k
  exact ⟨i, j, Rp.atom h1, Rp.atom h2, p, k _ _ q (.a _)⟩
def gU (g : Int → V) : Sv → Z → (Tr → Prop) → Prop := fun a _ Q => ∃ i, a = .p (trI i) ∧ Q (.a (g i))
theorem rr_U {g : Int → V} : RR1 K (rU g) (gU g) := by
  rintro B F α z σ H x a Q Q' ⟨i, rfl, q⟩ C h1 k
  exact ⟨i, Rp.atom h1, k _ _ q (.a _)⟩
def eqA (x y : V) : Bool := match x, y with
  | .int i, .int j => decide (i = j)
  | x, y => decide (x = y)
theorem eqA_eq (x y : V) : eqA x y = decide (x = y) := by
  cases x <;> cases y <;> first | rfl | exact decide_eq_decide.mpr ⟨fun h => by rw [h], fun h => V.int.inj h⟩
def gEq : Sv → Sv → Z → (Tr → Prop) → Prop := fun a b _ Q => ∃ x y, a = .p (.a x) ∧ b = .p (.a y) ∧ scal x y = true ∧ Q (.a (.bl (eqA x y)))
def gNe : Sv → Sv → Z → (Tr → Prop) → Prop := fun a b _ Q => ∃ x y, a = .p (.a x) ∧ b = .p (.a y) ∧ scal x y = true ∧ Q (.a (.bl (!eqA x y)))
theorem rr_eq : RR2 K rEq gEq := by
  rintro B F α z σ H x y a b Q Q' ⟨i, j, rfl, rfl, p, q⟩ C h1 h2 k
  rw [eqA_eq] at q
  cases Rp.atom h1; cases Rp.atom h2
  exact ⟨p, k _ _ q (.a _)⟩
theorem rr_ne : RR2 K rNe gNe := by
  rintro B F α z σ H x y a b Q Q' ⟨i, j, rfl, rfl, p, q⟩ C h1 h2 k
  rw [eqA_eq] at q
  cases Rp.atom h1; cases Rp.atom h2
  exact ⟨p, k _ _ q (.a _)⟩
def isNo : Sv → Bool
  | .p (.a v) => decide (v = .non)
  | _ => false
theorem isNo_ok {r : Sv} {v : V} (h : Rv K F α v r) : decide (v = .non) = isNo r := by
  cases r with
  | p t =>
    cases t with
    | a w => rw [Rp.atom h]; rfl
    | tup ts => obtain ⟨p, xs, rfl, _⟩ := Rp.inv_tup h; rfl
    | lst ts => obtain ⟨p, xs, rfl, _⟩ := Rp.inv_lst h; rfl
    | ins C fs => obtain ⟨p, xs, _, rfl, _⟩ := Rp.inv_ins h; rfl
    | scr ns => cases h; rfl
  | c k => obtain ⟨a, _, rfl⟩ := h; rfl
def gIsN : Sv → Sv → Z → (Tr → Prop) → Prop := fun a b _ Q => b = .p trN ∧ Q (trB (isNo a))
def gNotN : Sv → Sv → Z → (Tr → Prop) → Prop := fun a b _ Q => b = .p trN ∧ Q (trB (!isNo a))
theorem rr_isN : RR2 K (fun x y H Q => y = .non ∧ Q (.bl (decide (x = .non))) H) gIsN := by
  rintro B F α z σ H x y a b Q Q' ⟨rfl, q⟩ C h1 h2 k
  exact ⟨Rp.atom h2, k _ _ q (by rw [isNo_ok h1]; exact .a _)⟩
theorem rr_notN : RR2 K (fun x y H Q => y = .non ∧ Q (.bl (!decide (x = .non))) H) gNotN := by
  rintro B F α z σ H x y a b Q Q' ⟨rfl, q⟩ C h1 h2 k
  exact ⟨Rp.atom h2, k _ _ q (by rw [isNo_ok h1]; exact .a _)⟩
/-! ### rows -/
def vseq (r : Sv) (z : Z) (ts : List Tr) : Prop := vw r z = some (.lst ts) ∨ vw r z = some (.tup ts)
theorem vseq_ok {r : Sv} {v : V} {ts : List Tr} (h : vseq r z ts) (C : Cor K B F α z σ H) (hv : Rv K F α v r) : ∃ a xs, v = .ref a ∧ (SqL K H a xs ∨ SqT K H a xs) ∧ Rq K F xs ts := by
  rcases h with h | h
  · obtain ⟨a, xs, e, h1, h2⟩ := vw_lst h C hv
    exact ⟨a, xs, e, .inl (.of h1), h2⟩
  · obtain ⟨a, xs, e, h1, h2⟩ := vw_tup h C hv
    exact ⟨a, xs, e, .inr h1, h2⟩
theorem Rq.atI {xs : List V} {ts : List Tr} {i : Int} {t : Tr} (h : Rq K F xs ts) (e : atI ts i = some t) : ∃ v, L2.atI xs i = some v ∧ Rp K F v t := by
  unfold L2.atI at e ⊢
  rw [h.1]
  cases q : ixN ts.length i with
  | none => rw [q] at e; cases e
  | some j => rw [q] at e; exact h.get e
def gIxL : Sv → Sv → Z → (Tr → Prop) → Prop := fun a b z Q => ∃ ts i t, vw a z = some (.lst ts) ∧ b = .p (trI i) ∧ L2.atI ts i = some t ∧ Q t
theorem rr_ixL : RR2 K (rIxL K) gIxL := by
  rintro B F α z σ H x y a b Q Q' ⟨ts, i, t, h, rfl, e, q⟩ C h1 h2 k
  obtain ⟨p, xs, rfl, g1, g2⟩ := vw_lst h C h1
  obtain ⟨v, g3, g4⟩ := g2.atI e
  exact ⟨p, xs, i, v, rfl, Rp.atom h2, .of g1, g3, k _ _ q g4⟩
def gIxT : Sv → Sv → Z → (Tr → Prop) → Prop := fun a b z Q => ∃ ts i t, vw a z = some (.tup ts) ∧ b = .p (trI i) ∧ L2.atI ts i = some t ∧ Q t
theorem rr_ixT : RR2 K (rIxT K) gIxT := by
  rintro B F α z σ H x y a b Q Q' ⟨ts, i, t, h, rfl, e, q⟩ C h1 h2 k
  obtain ⟨p, xs, rfl, g1, g2⟩ := vw_tup h C h1
  obtain ⟨v, g3, g4⟩ := g2.atI e
  exact ⟨p, xs, i, v, rfl, Rp.atom h2, g1, g3, k _ _ q g4⟩
def gIx : Sv → Sv → Z → (Tr → Prop) → Prop := fun a b z Q => ∃ ts i t, vseq a z ts ∧ b = .p (trI i) ∧ L2.atI ts i = some t ∧ Q t
theorem rr_ix : RR2 K (rIx K) gIx := by
  rintro B F α z σ H x y a b Q Q' ⟨ts, i, t, h | h, e1, e, q⟩ C h1 h2 k
  · exact .inl (rr_ixL B F α z σ H x y a b Q Q' ⟨ts, i, t, h, e1, e, q⟩ C h1 h2 k)
  · exact .inr (.inl (rr_ixT B F α z σ H x y a b Q Q' ⟨ts, i, t, h, e1, e, q⟩ C h1 h2 k))
/-- x in ns, numbers -/
def gIn (neg : Bool) : Sv → Sv → Z → (Tr → Prop) → Prop := fun a b z Q => ∃ (i : Int) (ns : List Int), a = .p (trI i) ∧ vseq b z (ns.map trI) ∧ Q (trB (if neg then !decide (i ∈ ns) else decide (i ∈ ns)))
theorem allFlat (ns : List Int) : (ns.map V.int).all flatV = true := by
  rw [List.all_map, List.all_eq_true]; intro x _; rfl
theorem rr_in {neg : Bool} : RR2 K (rIn K neg) (gIn neg) := by
  rintro B F α z σ H x y a b Q Q' ⟨i, ns, rfl, h, q⟩ C h1 h2 k
  obtain ⟨p, xs, rfl, g1, g2⟩ := vseq_ok h C h2
  cases Rq.ints g2
  refine ⟨p, _, rfl, g1, by rw [Rp.atom h1]; rfl, allFlat ns, k _ _ q ?_⟩
  rw [Rp.atom h1, inV_ints]
  exact .a _
def gEqI (neg : Bool) : Sv → Sv → Z → (Tr → Prop) → Prop := fun a b z Q => ∃ (ns ms : List Int), ((vw a z = some (.lst (ns.map trI)) ∧ vw b z = some (.lst (ms.map trI))) ∨ (vw a z = some (.tup (ns.map trI)) ∧ vw b z = some (.tup (ms.map trI)))) ∧ Q (trB (if neg then !decide (ns = ms) else decide (ns = ms)))
theorem rr_eqRow {neg : Bool} : RR2 K (rEqRow K neg) (gEqI neg) := by
  rintro B F α z σ H x y a b Q Q' ⟨ns, ms, h, q⟩ C h1 h2 k
  rcases h with ⟨e1, e2⟩ | ⟨e1, e2⟩
  · obtain ⟨p, xs, rfl, g1, g2⟩ := vw_lst e1 C h1
    obtain ⟨p', xs', rfl, g1', g2'⟩ := vw_lst e2 C h2
    cases Rq.ints g2; cases Rq.ints g2'
    exact ⟨p, p', ns, ms, rfl, rfl, .inr ⟨.of g1, .of g1'⟩, k _ _ q (.a _)⟩
  · obtain ⟨p, xs, rfl, g1, g2⟩ := vw_tup e1 C h1
    obtain ⟨p', xs', rfl, g1', g2'⟩ := vw_tup e2 C h2
    cases Rq.ints g2; cases Rq.ints g2'
    exact ⟨p, p', ns, ms, rfl, rfl, .inl ⟨g1, g1'⟩, k _ _ q (.a _)⟩
/-! ### new rows -/
def gCat : Sv → Sv → Z → (List Tr → Prop) → Prop := fun a b z Q => ∃ ts us, vw a z = some (.lst ts) ∧ vw b z = some (.lst us) ∧ ts.length + us.length ≤ sizeLine ∧ Q (ts ++ us)
theorem rrc_cat : RR2C K rCat gCat := by
  rintro B F α z σ H x y a b Q Q' ⟨ts, us, e1, e2, l, q⟩ C h1 h2 k
  obtain ⟨p, xs, rfl, g1, g2⟩ := vw_lst e1 C h1
  obtain ⟨p', xs', rfl, g1', g2'⟩ := vw_lst e2 C h2
  exact ⟨p, p', xs, xs', rfl, rfl, g1, g1', by rw [g2.1, g2'.1]; exact l, fun r hr => k _ _ r q (g2.append g2') hr (by rw [List.length_append, g2.1, g2'.1]; exact l)⟩
theorem Rq.flat {xs : List V} {ts : List Tr} (h : Rq K F xs ts) : ∀ n, Rq K F (List.replicate n xs).flatten (List.replicate n ts).flatten
  | 0 => .nil
  | n + 1 => by rw [List.replicate_succ, List.replicate_succ, List.flatten_cons, List.flatten_cons]; exact h.append (Rq.flat h n)
theorem Rq.rep {v : V} {t : Tr} (h : Rp K F v t) : ∀ n, Rq K F (List.replicate n v) (List.replicate n t)
  | 0 => .nil
  | n + 1 => by rw [List.replicate_succ, List.replicate_succ]; exact .cons h (Rq.rep h n)
def gRepI : Sv → Sv → Z → (List Tr → Prop) → Prop := fun a b z Q => ∃ i k, vw a z = some (.lst [trI i]) ∧ b = .p (trI k) ∧ -(2 ^ 63) ≤ k ∧ k < 2 ^ 63 ∧ k.toNat ≤ sizeLine ∧ Q ((List.replicate k.toNat i).map trI)
theorem rrc_repI : RR2C K rRepI gRepI := by
  rintro B F α z σ H x y a b Q Q' ⟨i, j, e1, rfl, l1, l2, l3, q⟩ C h1 h2 k
  obtain ⟨p, xs, rfl, g1, g2⟩ := vw_lst e1 C h1
  have e : xs = [V.int i] := Rq.ints (ns := [i]) g2
  subst e
  exact ⟨p, j, i, rfl, Rp.atom h2, g1, l1, l2, l3, fun r hr => k _ _ r q .ofI hr (by rw [List.length_map, List.length_replicate]; exact l3)⟩
def gRep : Sv → Sv → Z → (List Tr → Prop) → Prop := fun a b z Q => ∃ ts k, vw a z = some (.lst ts) ∧ b = .p (trI k) ∧ -(2 ^ 63) ≤ k ∧ k < 2 ^ 63 ∧ ts.length * k.toNat ≤ sizeLine ∧ Q (List.replicate k.toNat ts).flatten
theorem rrc_rep : RR2C K rRep gRep := by
  rintro B F α z σ H x y a b Q Q' ⟨ts, j, e1, rfl, l1, l2, l3, q⟩ C h1 h2 k
  obtain ⟨p, xs, rfl, g1, g2⟩ := vw_lst e1 C h1
  refine ⟨p, j, xs, rfl, Rp.atom h2, g1, l1, l2, by rw [g2.1]; exact l3, fun r hr => k _ _ r q (g2.flat _) hr ?_⟩
  rw [(g2.flat _).1, List.length_flatten, List.map_replicate, List.sum_replicate_nat, Nat.mul_comm]
  exact l3
/-- an operation that makes, or finds, a tuple -/
def RR2T (K : PySem.W.Frag) (r : R2) (f : Sv → Sv → Z → (List Tr → Prop) → Prop) : Prop := ∀ (B F : Hp) (α : List Addr) (z : Z) (σ : L2.St) (H : Hp) (x y : V) (a b : Sv) (Q : List Tr → Prop) (Q' : VK), f a b z Q → Cor K B F α z σ H → Rv K F α x a → Rv K F α y b → (∀ ts xs p H', Q ts → Same H H' → SqT K H' p xs → xs.length ≤ sizeLine → Rq K F xs ts → Q' (.ref p) H') → r x y H Q'
def fOpT (g : Sv → Sv → Z → (List Tr → Prop) → Prop) (f1 f2 : VE) : VE := fun G z Q => f1 G z fun a z1 => f2 G z1 fun b z2 => g a b z2 fun ts => Q (.p (.tup ts)) z2
theorem re_opT {r : R2} {g : Sv → Sv → Z → (List Tr → Prop) → Prop} {ta tb : TE} {f1 f2 : VE} (hr : RR2T K r g) (h1 : RE K E ta f1) (h2 : RE K E tb f2) : RE K E (tOp r ta tb) (fOpT g f1 f2) := by
  intro B F α z σ H G Qv Q er hf C k
  refine h1 B F α z σ H G _ _ er hf C fun F1 α1 z1 a x H1 q1 x1 C1 r1 => ?_
  refine h2 B F1 α1 z1 σ H1 G _ _ er q1 C1 fun F2 α2 z2 b y H2 q2 x2 C2 r2 => ?_
  refine hr B F2 α2 z2 σ H2 x y a b _ Q q2 C2 (r1.ext x2) r2 fun ts xs p H3 q s hp lx rq => ?_
  obtain ⟨F3, x3, C3, hp3⟩ := (C2.grow s).see hp
  exact k F3 α2 z2 _ _ H3 q ((x1.trans x2).trans x3) C3 (.tup hp3 lx rq.1 (rq.same x3.1).2)
def gCatT : Sv → Sv → Z → (List Tr → Prop) → Prop := fun a b z Q => ∃ ts us, vw a z = some (.tup ts) ∧ vw b z = some (.tup us) ∧ ts.length + us.length ≤ sizeLine ∧ Q (ts ++ us)
theorem rrt_cat : RR2T K (rCatW K) gCatT := by
  rintro B F α z σ H x y a b Q Q' ⟨ts, us, e1, e2, l, q⟩ C h1 h2 k
  obtain ⟨p, xs, rfl, g1, g2⟩ := vw_tup e1 C h1
  obtain ⟨p', xs', rfl, g1', g2'⟩ := vw_tup e2 C h2
  exact ⟨p, p', xs, xs', rfl, rfl, g1, g1', by rw [g2.1, g2'.1]; exact l, fun H' r s hr => k _ _ r H' q s hr (by rw [List.length_append, g2.1, g2'.1]; exact l) (g2.append g2')⟩
def gRepT : Sv → Sv → Z → (List Tr → Prop) → Prop := fun a b z Q => ∃ ts k, vw a z = some (.tup ts) ∧ b = .p (trI k) ∧ -(2 ^ 62) ≤ k ∧ k ≤ 1000 ∧ ts.length ≤ 1000 ∧ Q (List.replicate k.toNat ts).flatten
theorem rrt_rep : RR2T K (rRepW K) gRepT := by
  rintro B F α z σ H x y a b Q Q' ⟨ts, j, e1, rfl, l1, l2, l3, q⟩ C h1 h2 k
  obtain ⟨p, xs, rfl, g1, g2⟩ := vw_tup e1 C h1
  refine ⟨p, j, xs, rfl, Rp.atom h2, g1, l1, l2, by rw [g2.1]; exact l3, fun H' r s hr => k _ _ r H' q s hr ?_ (g2.flat _)⟩
  rw [(g2.flat _).1, List.length_flatten, List.map_replicate, List.sum_replicate_nat, sizeLine_eq]
  have : j.toNat * ts.length ≤ 1000 * 1000 := Nat.mul_le_mul (by omega) l3
  omega
/-! ### slices -/
def cutA {α : Type} (xs : List α) (lo hi : Option Int) : List α := (xs.drop (HT.sIx xs.length 0 lo)).take (HT.sIx xs.length xs.length hi - HT.sIx xs.length 0 lo)
abbrev VO := Gx → Z → (Option Int → Z → Prop) → Prop
def RO (K : PySem.W.Frag) (E : XK) (t : TO) (f : VO) : Prop := ∀ (B F : Hp) (α : List Addr) (z : Z) (σ : L2.St) (H : Hp) (G : Gx) (Qv : Option Int → Z → Prop) (Q : Option Int → Hp → Prop), ErOk B E G → f G z Qv → Cor K B F α z σ H →
  (∀ F' α' z' r H', Qv r z' → XTE B F α F' α' → Cor K B F' α' z' σ H' → Q r H') → t σ H Q
def fNoP : VO := fun _ z Q => Q none z
def fPart (f : VE) : VO := fun G z Q => f G z fun r z1 => ∃ i, r = .p (trI i) ∧ Q (some i) z1
theorem ro_no : RO K E tNoPart fNoP := by
  intro B F α z σ H G Qv Q er h C k
  exact k F α z none H h .refl C
theorem ro_part {t : TE} {f : VE} (h : RE K E t f) : RO K E (tPart t) (fPart f) := by
  intro B F α z σ H G Qv Q er hf C k
  refine h B F α z σ H G _ _ er hf C fun F1 α1 z1 r v H1 q1 x1 C1 r1 => ?_
  obtain ⟨i, rfl, q⟩ := q1
  exact ⟨i, Rp.atom r1, k F1 α1 z1 _ H1 q x1 C1⟩
theorem Rq.cut {xs : List V} {ts : List Tr} (h : Rq K F xs ts) (lo hi : Option Int) : Rq K F (cutV xs lo hi) (cutA ts lo hi) := by
  unfold cutV cutA
  rw [h.1]
  exact (h.drop _).take _
theorem cutV_le {xs : List V} {n : Nat} (lo hi : Option Int) (h : xs.length ≤ n) : (cutV xs lo hi).length ≤ n := by
  unfold cutV
  rw [List.length_take, List.length_drop]
  omega
def fSlL (f : VE) (fl fh : VO) : VC := fun G z Q => f G z fun r z1 => fl G z1 fun l z2 => fh G z2 fun h z3 => ∃ ts, vw r z3 = some (.lst ts) ∧ ts.length ≤ sizeLine ∧ Q (cutA ts l h) z3
theorem rc_slL {te : TE} {tl th : TO} {f : VE} {fl fh : VO} (h1 : RE K E te f) (h2 : RO K E tl fl) (h3 : RO K E th fh) : RC K E (tSl (rSlL K) te tl th) (fSlL f fl fh) := by
  intro B F α z σ H G Qv Q er hf C k
  refine h1 B F α z σ H G _ _ er hf C fun F1 α1 z1 r v H1 q1 x1 C1 r1 => ?_
  refine h2 B F1 α1 z1 σ H1 G _ _ er q1 C1 fun F2 α2 z2 l H2 q2 x2 C2 => ?_
  refine h3 B F2 α2 z2 σ H2 G _ _ er q2 C2 fun F3 α3 z3 u H3 q3 x3 C3 => ?_
  obtain ⟨ts, e, l', q⟩ := q3
  obtain ⟨p, xs, rfl, g1, g2⟩ := vw_lst e C3 ((r1.ext x2).ext x3)
  exact ⟨p, xs, rfl, .of g1, fun p' hp' => k F3 α3 z3 _ _ p' H3 q ((x1.trans x2).trans x3) C3 (g2.cut l u) hp' (cutV_le l u (by rw [g2.1]; exact l'))⟩
def fSlT (f : VE) (fl fh : VO) : VE := fun G z Q => f G z fun r z1 => fl G z1 fun l z2 => fh G z2 fun h z3 => ∃ ts, vw r z3 = some (.tup ts) ∧ ts.length ≤ sizeLine ∧ Q (.p (.tup (cutA ts l h))) z3
theorem re_slT {te : TE} {tl th : TO} {f : VE} {fl fh : VO} (h1 : RE K E te f) (h2 : RO K E tl fl) (h3 : RO K E th fh) : RE K E (tSl (rSlW K) te tl th) (fSlT f fl fh) := by
  intro B F α z σ H G Qv Q er hf C k
  refine h1 B F α z σ H G _ _ er hf C fun F1 α1 z1 r v H1 q1 x1 C1 r1 => ?_
  refine h2 B F1 α1 z1 σ H1 G _ _ er q1 C1 fun F2 α2 z2 l H2 q2 x2 C2 => ?_
  refine h3 B F2 α2 z2 σ H2 G _ _ er q2 C2 fun F3 α3 z3 u H3 q3 x3 C3 => ?_
  obtain ⟨ts, e, l', q⟩ := q3
  obtain ⟨p, xs, rfl, g1, g2⟩ := vw_tup e C3 ((r1.ext x2).ext x3)
  refine ⟨p, xs, rfl, g1, fun H4 p' s hp' => ?_⟩
  obtain ⟨F4, x4, C4, hp4⟩ := (C3.grow s).see hp'
  exact k F4 α3 z3 _ _ H4 q (((x1.trans x2).trans x3).trans x4) C4 (.tup hp4 (cutV_le l u (by rw [g2.1]; exact l')) (g2.cut l u).1 ((g2.cut l u).same x4.1).2)
/-! ### builtins -/
def gLen : List Sv → Z → (Tr → Prop) → Prop := fun rs z Q => ∃ r ts, rs = [r] ∧ vseq r z ts ∧ Q (trI (ts.length : Nat))
theorem rcb_len : RCB K (fun xs H Q => ∃ p ys, xs = [V.ref p] ∧ (SqL K H p ys ∨ SqT K H p ys) ∧ Q (.int ys.length) H) gLen := by
  rintro B F α z σ H vs rs Q Q' ⟨r, ts, rfl, h, q⟩ C hv k
  obtain ⟨v, rfl, h1⟩ := hv.one
  obtain ⟨p, xs, rfl, g1, g2⟩ := vseq_ok h C h1
  exact ⟨p, xs, rfl, g1, k _ _ q (by rw [g2.1]; exact .a _)⟩
theorem rcb_lenQ : RCB K (rLenQ K) gLen := rcb_len
def gAbs : List Sv → Z → (Tr → Prop) → Prop := fun rs _ Q => ∃ i, rs = [.p (trI i)] ∧ Q (trI (if i < 0 then -i else i))
theorem rcb_abs : RCB K (fun xs H Q => ∃ i, xs = [V.int i] ∧ Q (.int (if i < 0 then -i else i)) H) gAbs := by
  rintro B F α z σ H vs rs Q Q' ⟨i, rfl, q⟩ C hv k
  obtain ⟨v, rfl, h1⟩ := hv.one
  exact ⟨i, by rw [Rp.atom h1], k _ _ q (.a _)⟩
def gMax2 : List Sv → Z → (Tr → Prop) → Prop := fun rs _ Q => ∃ i j, rs = [.p (trI i), .p (trI j)] ∧ Q (trI (max i j))
def gMin2 : List Sv → Z → (Tr → Prop) → Prop := fun rs _ Q => ∃ i j, rs = [.p (trI i), .p (trI j)] ∧ Q (trI (min i j))
theorem rcb_max2 : RCB K (fun xs H Q => ∃ i j, xs = [V.int i, V.int j] ∧ Q (.int (if j > i then j else i)) H) gMax2 := by
  rintro B F α z σ H vs rs Q Q' ⟨i, j, rfl, q⟩ C hv k
  obtain ⟨v, w, rfl, h1, h2⟩ := hv.two
  refine ⟨i, j, by rw [Rp.atom h1, Rp.atom h2], k _ _ q ?_⟩
  have : (if j > i then j else i) = max i j := by split <;> omega
  rw [this]; exact .a _
theorem rcb_min2 : RCB K (fun xs H Q => ∃ i j, xs = [V.int i, V.int j] ∧ Q (.int (if j < i then j else i)) H) gMin2 := by
  rintro B F α z σ H vs rs Q Q' ⟨i, j, rfl, q⟩ C hv k
  obtain ⟨v, w, rfl, h1, h2⟩ := hv.two
  refine ⟨i, j, by rw [Rp.atom h1, Rp.atom h2], k _ _ q ?_⟩
  have : (if j < i then j else i) = min i j := by split <;> omega
  rw [this]; exact .a _
def gSum : List Sv → Z → (Tr → Prop) → Prop := fun rs z Q => ∃ (r : Sv) (ns : List Int), rs = [r] ∧ vseq r z (ns.map trI) ∧ Q (trI ns.sum)
def gSumL : List Sv → Z → (Tr → Prop) → Prop := fun rs z Q => ∃ (r : Sv) (ns : List Int), rs = [r] ∧ vw r z = some (.lst (ns.map trI)) ∧ Q (trI ns.sum)
theorem rcb_sum : RCB K (rSum K) gSumL := by
  rintro B F α z σ H vs rs Q Q' ⟨r, ns, rfl, h, q⟩ C hv k
  obtain ⟨v, rfl, h1⟩ := hv.one
  obtain ⟨p, xs, rfl, g1, g2⟩ := vw_lst h C h1
  cases Rq.ints g2
  exact ⟨p, ns, rfl, .of g1, k _ _ q (.a _)⟩
theorem rcb_sumA : RCB K (fun vs H Q => ∃ (a : Addr) (ns : List Int), vs = [V.ref a] ∧ SqA K H a (ns.map V.int) ∧ Q (.int ns.sum) H) gSum := by
  rintro B F α z σ H vs rs Q Q' ⟨r, ns, rfl, h, q⟩ C hv k
  obtain ⟨v, rfl, h1⟩ := hv.one
  obtain ⟨p, xs, rfl, g1, g2⟩ := vseq_ok h C h1
  cases Rq.ints g2
  exact ⟨p, ns, rfl, g1, k _ _ q (.a _)⟩
def gMaxL : List Sv → Z → (Tr → Prop) → Prop := fun rs z Q => ∃ (r : Sv) (ns : List Int), rs = [r] ∧ vw r z = some (.lst (ns.map trI)) ∧ 0 < ns.length ∧ ∀ m, m ∈ ns → (∀ y, y ∈ ns → y ≤ m) → Q (trI m)
def gMinL : List Sv → Z → (Tr → Prop) → Prop := fun rs z Q => ∃ (r : Sv) (ns : List Int), rs = [r] ∧ vw r z = some (.lst (ns.map trI)) ∧ 0 < ns.length ∧ ∀ m, m ∈ ns → (∀ y, y ∈ ns → m ≤ y) → Q (trI m)
theorem rcb_max : RCB K (rMax K) gMaxL := by
  rintro B F α z σ H vs rs Q Q' ⟨r, ns, rfl, h, l, q⟩ C hv k
  obtain ⟨v, rfl, h1⟩ := hv.one
  obtain ⟨p, xs, rfl, g1, g2⟩ := vw_lst h C h1
  cases Rq.ints g2
  exact ⟨p, ns, rfl, .of g1, l, fun m h1 h2 => k _ _ (q m h1 h2) (.a _)⟩
theorem rcb_min : RCB K (rMin K) gMinL := by
  rintro B F α z σ H vs rs Q Q' ⟨r, ns, rfl, h, l, q⟩ C hv k
  obtain ⟨v, rfl, h1⟩ := hv.one
  obtain ⟨p, xs, rfl, g1, g2⟩ := vw_lst h C h1
  cases Rq.ints g2
  exact ⟨p, ns, rfl, .of g1, l, fun m h1 h2 => k _ _ (q m h1 h2) (.a _)⟩
def gAny : List Sv → Z → (Tr → Prop) → Prop := fun rs z Q => ∃ (r : Sv) (bs : List Bool), rs = [r] ∧ vw r z = some (.lst (bs.map trB)) ∧ Q (trB (bs.any id))
def gAll : List Sv → Z → (Tr → Prop) → Prop := fun rs z Q => ∃ (r : Sv) (bs : List Bool), rs = [r] ∧ vw r z = some (.lst (bs.map trB)) ∧ Q (trB (bs.all id))
theorem rcb_any : RCB K (rAny K) gAny := by
  rintro B F α z σ H vs rs Q Q' ⟨r, ns, rfl, h, q⟩ C hv k
  obtain ⟨v, rfl, h1⟩ := hv.one
  obtain ⟨p, xs, rfl, g1, g2⟩ := vw_lst h C h1
  cases (Rq.fns g2 : xs = ns.map V.bl)
  exact ⟨p, ns, rfl, .of g1, k _ _ q (.a _)⟩
theorem rcb_all : RCB K (rAll K) gAll := by
  rintro B F α z σ H vs rs Q Q' ⟨r, ns, rfl, h, q⟩ C hv k
  obtain ⟨v, rfl, h1⟩ := hv.one
  obtain ⟨p, xs, rfl, g1, g2⟩ := vw_lst h C h1
  cases (Rq.fns g2 : xs = ns.map V.bl)
  exact ⟨p, ns, rfl, .of g1, k _ _ q (.a _)⟩
def gInt1 : List Sv → Z → (Tr → Prop) → Prop := fun rs _ Q => (∃ i, rs = [.p (trI i)] ∧ Q (trI i)) ∨ ∃ b, rs = [.p (trB b)] ∧ Q (trI (if b then 1 else 0))
theorem rcb_int1 : RCB K (fun xs H Q => (∃ i, xs = [V.int i] ∧ Q (.int i) H) ∨ ∃ k, xs = [V.bl k] ∧ Q (.int (if k then 1 else 0)) H) gInt1 := by
  rintro B F α z σ H vs rs Q Q' (⟨i, rfl, q⟩ | ⟨i, rfl, q⟩) C hv k
  · obtain ⟨v, rfl, h1⟩ := hv.one
    exact .inl ⟨i, by rw [Rp.atom h1], k _ _ q (.a _)⟩
  · obtain ⟨v, rfl, h1⟩ := hv.one
    exact .inr ⟨i, by rw [Rp.atom h1], k _ _ q (.a _)⟩
def gBool1 : List Sv → Z → (Tr → Prop) → Prop := fun rs _ Q => (∃ i, rs = [.p (trI i)] ∧ Q (trB (i != 0))) ∨ ∃ b, rs = [.p (trB b)] ∧ Q (trB b)
theorem rcb_bool1 : RCB K (fun xs H Q => (∃ i, xs = [V.int i] ∧ Q (.bl (i != 0)) H) ∨ ∃ k, xs = [V.bl k] ∧ Q (.bl k) H) gBool1 := by
  rintro B F α z σ H vs rs Q Q' (⟨i, rfl, q⟩ | ⟨i, rfl, q⟩) C hv k
  · obtain ⟨v, rfl, h1⟩ := hv.one
    exact .inl ⟨i, by rw [Rp.atom h1], k _ _ q (.a _)⟩
  · obtain ⟨v, rfl, h1⟩ := hv.one
    exact .inr ⟨i, by rw [Rp.atom h1], k _ _ q (.a _)⟩
/-- list(x) -/
def gListOf : List Sv → Z → (List Tr → Prop) → Prop := fun rs z Q => ∃ r ts, rs = [r] ∧ vseq r z ts ∧ ts.length ≤ sizeLine ∧ Q ts
theorem rcc_list : RCBC K (fun xs H Q => ∃ p ys, xs = [V.ref p] ∧ (SqL K H p ys ∨ SqT K H p ys) ∧ ∀ l, H l = none → Q (.ref l) (upd H l (.lst ys))) gListOf := by
  rintro B F α z σ H vs rs Q Q' ⟨r, ts, rfl, h, l, q⟩ C hv k
  obtain ⟨v, rfl, h1⟩ := hv.one
  obtain ⟨p, xs, rfl, g1, g2⟩ := vseq_ok h C h1
  exact ⟨p, xs, rfl, g1, fun p' hp => k _ _ p' q g2 hp (by rw [g2.1]; exact l)⟩
def gSorted : List Sv → Z → (List Tr → Prop) → Prop := fun rs z Q => ∃ (r : Sv) (ns : List Int), rs = [r] ∧ vw r z = some (.lst (ns.map trI)) ∧ ns.length < 64 ∧ ∀ ns' : List Int, ns'.Perm ns → ns'.Pairwise (· ≤ ·) → Q (ns'.map trI)
theorem rcc_sorted : RCBC K (rSorted K) gSorted := by
  rintro B F α z σ H vs rs Q Q' ⟨r, ns, rfl, h, l, q⟩ C hv k
  obtain ⟨v, rfl, h1⟩ := hv.one
  obtain ⟨p, xs, rfl, g1, g2⟩ := vw_lst h C h1
  cases Rq.ints g2
  exact ⟨p, ns, rfl, .of g1, l, fun ns' p' h1 h2 hp => k _ _ p' (q ns' h1 h2) .ofI hp (by rw [List.length_map, h1.length_eq]; exact small64 l)⟩
/-- tuple(x) -/
def gTupOf : List Sv → Z → (List Tr → Prop) → Prop := fun rs z Q => ∃ r ts, rs = [r] ∧ ((vw r z = some (.lst ts) ∧ ts.length ≤ sizeLine) ∨ r = .p (.tup ts)) ∧ Q ts
theorem rct_tup : RCBT K (fun xs H Q => ∃ p ys, xs = [V.ref p] ∧ ((SqL K H p ys ∧ ∀ l, H l = none → Q (.ref l) (upd H l (.tup ys))) ∨ (SqT K H p ys ∧ Q (.ref p) H))) gTupOf := by
  rintro B F α z σ H vs rs Q Q' ⟨r, ts, rfl, h, q⟩ C hv k1 k2
  obtain ⟨v, rfl, h1⟩ := hv.one
  rcases h with ⟨h, l⟩ | rfl
  · obtain ⟨p, xs, rfl, g1, g2⟩ := vw_lst h C h1
    exact ⟨p, xs, rfl, .inl ⟨.of g1, fun p' hp => k1 _ _ p' q g2 hp (by rw [g2.1]; exact l)⟩⟩
  · obtain ⟨p, xs, rfl, g1, _, g2⟩ := Rp.inv_tup h1
    exact ⟨p, xs, rfl, .inr ⟨C.same.seqT g1, k2 _ _ q h1⟩⟩
/-- list(range(..)) -/
def gRng1 : List Sv → Z → (Int × Int → Prop) → Prop := fun rs _ Q => ∃ j, rs = [.p (trI j)] ∧ Q (0, j)
/-! ### fields -/
def fFld (K : PySem.W.Frag) (f : VE) (x : Str) : VE := fun G z Q => f G z fun r z1 => ∃ C fs t, vw r z1 = some (.ins C fs) ∧ Cls K C ∧ NoAttr K C x ∧ fs.lookup x = some t ∧ Q (.p t) z1
theorem re_fld {ta : TE} {f : VE} {x : Str} (h : RE K E ta f) : RE K E (tFld K ta x) (fFld K f x) := by
  intro B F α z σ H G Qv Q er hf C k
  refine h B F α z σ H G _ _ er hf C fun F1 α1 z1 r v H1 q1 x1 C1 r1 => ?_
  obtain ⟨C0, fs, t, hw, c, n, e, q⟩ := q1
  obtain ⟨p, dx, vs, rfl, g1, g2⟩ := vw_ins hw C1 r1
  obtain ⟨v, e2, r2⟩ := (g2.lookup (f := x)).1 t e
  exact ⟨p, C0, dx, vs, v, rfl, g1, c, n, e2, k F1 α1 z1 _ v H1 q x1 C1 r2⟩
/-- self.x = e -/
def putT (x : Str) (t : Tr) : List (Str × Tr) → List (Str × Tr)
  | [] => [(x, t)]
  | p :: r => if p.1 = x then (x, t) :: r else p :: putT x t r
theorem putT_ok {x : Str} {v : V} {t : Tr} (h : Rp K F v t) : ∀ {fs : List (Str × V)} {ts : List (Str × Tr)}, Rf K F fs ts → Rf K F (putF x v fs) (putT x t ts)
  | [], [], _ => .cons h .nil
  | [], _ :: _, g => by cases g.1
  | _ :: _, [], g => by cases g.1
  | (y, w) :: r, (y', u) :: r', g => by
    obtain ⟨w', s, e, g1, g2⟩ := g.inv'
    injection e with e1 e2
    cases e1; subst e2
    unfold putF putT
    by_cases q : y = x
    · subst q
      simp only [if_pos]
      exact .cons h g2
    · simp only [if_neg q]
      exact .cons g1 (putT_ok h g2)
def Z.putO (z : Z) (k : Nat) (C : Addr) (fs : List (Str × Tr)) : Z := ⟨z.e, z.c.set k (.obj C fs)⟩
def fFldSet (K : PySem.W.Frag) (f fo : VE) (x : Str) : VS := fun G D z => f G z fun r z1 => fo G z1 fun a z2 => frz r z2 fun t z3 => ∃ k C fs, a = .c k ∧ z3.c[k]? = some (.obj C fs) ∧ Cls K C ∧ NoAttr K C x ∧ fs.length < 1000 ∧ D.nx (z3.putO k C (putT x t fs))
theorem Rf.length {fs : List (Str × V)} {ts : List (Str × Tr)} (h : Rf K F fs ts) : fs.length = ts.length := by
  have := congrArg List.length h.1
  rwa [List.length_map, List.length_map] at this
theorem rs_fldSet {ta tv : TE} {f fo : VE} {x : Str} (h : RE K E tv f) (ho : RE K E ta fo) : RS K E (sFld K ta tv x) (fFldSet K f fo x) := by
  intro B F α z σ H G Dv D er hf C eo
  refine h B F α z σ H G _ _ er hf C fun F1 α1 z1 r v H1 q1 x1 C1 r1 => ?_
  refine ho B F1 α1 z1 σ H1 G _ _ er q1 C1 fun F2 α2 z2 a w H2 q2 x2 C2 r2 => ?_
  obtain ⟨F4, u, z4, q4, x4, C4, r4⟩ := frz_ok q2 C2 (r1.ext x2)
  obtain ⟨k, C0, fs, rfl, ec, c, n, l, q⟩ := q4
  obtain ⟨p, ep, rfl⟩ := r2.ext x4
  obtain ⟨hF, hB, dx, gs, hx, hq⟩ := C4.cell k p _ ep ec
  refine ⟨p, C0, dx, gs, rfl, hx, c, n, by rw [hq.length]; exact l, ?_⟩
  exact eo.nx _ _ _ _ _ q ((x1.trans x2).trans x4) (C4.put ep ec hF hB ⟨hF, hB, dx, _, upd_same, putT_ok r4 hq⟩)
/-! ### methods of lists -/
/-- what a method does: it may change its cell -/
def RMt (K : PySem.W.Frag) (r : V → List V → Hp → VK → Prop) (f : Sv → List Sv → Z → (Sv → Z → Prop) → Prop) : Prop := ∀ (B F : Hp) (α : List Addr) (z : Z) (σ : L2.St) (H : Hp) (x : V) (vs : List V) (a : Sv) (rs : List Sv) (Q : Sv → Z → Prop) (Q' : VK), f a rs z Q → Cor K B F α z σ H → Rv K F α x a → Rvs K F α vs rs →
  (∀ F' α' z' r v H', Q r z' → XTE B F α F' α' → Cor K B F' α' z' σ H' → Rv K F' α' v r → Q' v H') → r x vs H Q'
def isL (r : Sv) (z : Z) : Prop := ∃ ts, vw r z = some (.lst ts)
def fBM (g : Sv → List Sv → Z → (Sv → Z → Prop) → Prop) (f : VE) (fa : VA) : VE := fun G z Q => f G z fun a z1 => isL a z1 ∧ fa G z1 fun rs z2 => g a rs z2 Q
theorem re_bm {r : V → List V → Hp → VK → Prop} {g : Sv → List Sv → Z → (Sv → Z → Prop) → Prop} {to : TE} {t : TA} {f : VE} {fa : VA} (hr : RMt K r g) (h1 : RE K E to f) (h2 : RA K E t fa) : RE K E (tBM K "list" r to t) (fBM g f fa) := by
  intro B F α z σ H G Qv Q er hf C k
  refine h1 B F α z σ H G _ _ er hf C fun F1 α1 z1 a v H1 q1 x1 C1 r1 => ?_
  obtain ⟨⟨ts, ht⟩, q1⟩ := q1
  obtain ⟨p, xs, rfl, g1, g2⟩ := vw_lst ht C1 r1
  refine ⟨tyL ⟨xs, g1⟩, ?_⟩
  refine h2 B F1 α1 z1 σ H1 G _ _ er q1 C1 fun F2 α2 z2 rs vs H2 q2 x2 C2 r2 => ?_
  exact hr B F2 α2 z2 σ H2 _ vs a rs Qv Q q2 C2 (r1.ext x2) r2 fun F3 α3 z3 r' v' H3 q3 x3 C3 r3 => k F3 α3 z3 r' v' H3 q3 ((x1.trans x2).trans x3) C3 r3
def fBM0 (g : Sv → List Sv → Z → (Sv → Z → Prop) → Prop) (f : VE) : VE := fun G z Q => f G z fun a z1 => isL a z1 ∧ g a [] z1 Q
theorem re_bm0 {r : V → List V → Hp → VK → Prop} {g : Sv → List Sv → Z → (Sv → Z → Prop) → Prop} {to : TE} {f : VE} (hr : RMt K r g) (h1 : RE K E to f) : RE K E (tBM0 K "list" r to) (fBM0 g f) := by
  intro B F α z σ H G Qv Q er hf C k
  refine h1 B F α z σ H G _ _ er hf C fun F1 α1 z1 a v H1 q1 x1 C1 r1 => ?_
  obtain ⟨⟨ts, ht⟩, q1⟩ := q1
  obtain ⟨p, xs, rfl, g1, g2⟩ := vw_lst ht C1 r1
  refine ⟨tyL ⟨xs, g1⟩, ?_⟩
  exact hr B F1 α1 z1 σ H1 _ [] a [] Qv Q q1 C1 r1 .nil fun F3 α3 z3 r' v' H3 q3 x3 C3 r3 => k F3 α3 z3 r' v' H3 q3 (x1.trans x3) C3 r3
def Z.put (z : Z) (k : Nat) (ts : List Tr) : Z := ⟨z.e, z.c.set k (.lst ts)⟩
theorem Cor.upc (C : Cor K B F α z σ H) {k : Nat} {a : Addr} {ts us : List Tr} {ys : List V} (ea : α[k]? = some a) (ec : z.c[k]? = some (.lst ts)) (h : Rq K F ys us) : Cor K B F α (z.put k us) σ (upd H a (.lst ys)) := by
  obtain ⟨hF, hB, xs, hx, hq⟩ := C.cell k a _ ea ec
  exact C.put ea ec hF hB ⟨hF, hB, ys, upd_same, h⟩
def gApp : Sv → List Sv → Z → (Sv → Z → Prop) → Prop := fun a rs z Q => ∃ r, rs = [r] ∧ frz r z fun t z1 => ∃ k ts, a = .c k ∧ z1.c[k]? = some (.lst ts) ∧ ts.length < sizeLine ∧ Q (.p trN) (z1.put k (ts ++ [t]))
theorem rmt_app : RMt K rAppend gApp := by
  rintro B F α z σ H x vs a rs Q Q' ⟨r, rfl, h⟩ C h1 h2 kk
  obtain ⟨v, rfl, h3⟩ := h2.one
  obtain ⟨F2, t, z2, q2, x2, C2, r2⟩ := frz_ok h C h3
  obtain ⟨k, ts, rfl, ec, l, q⟩ := q2
  obtain ⟨b, eb, rfl⟩ := h1
  obtain ⟨hF, hB, xs, hx, hq⟩ := C2.cell k b _ eb ec
  exact ⟨b, xs, v, rfl, rfl, hx, by rw [hq.1]; exact l, kk F2 α _ _ _ _ q x2 (C2.upc eb ec (hq.append (.cons r2 .nil))) (.a _)⟩
def gExt : Sv → List Sv → Z → (Sv → Z → Prop) → Prop := fun a rs z Q => ∃ r us k ts, rs = [r] ∧ vw r z = some (.lst us) ∧ a = .c k ∧ z.c[k]? = some (.lst ts) ∧ ts.length + us.length ≤ sizeLine ∧ Q (.p trN) (z.put k (ts ++ us))
theorem rmt_ext : RMt K rExtend gExt := by
  rintro B F α z σ H x vs a rs Q Q' ⟨r, us, k, ts, rfl, h, rfl, ec, l, q⟩ C h1 h2 kk
  obtain ⟨v, rfl, h3⟩ := h2.one
  obtain ⟨p, ys, rfl, g1, g2⟩ := vw_lst h C h3
  obtain ⟨b, eb, rfl⟩ := h1
  obtain ⟨hF, hB, xs, hx, hq⟩ := C.cell k b _ eb ec
  exact ⟨b, p, xs, ys, rfl, rfl, hx, g1, by rw [hq.1, g2.1]; exact l, kk F α _ _ _ _ q .refl (C.upc eb ec (hq.append g2)) (.a _)⟩
def gCnt : Sv → List Sv → Z → (Sv → Z → Prop) → Prop := fun a rs z Q => ∃ (ns : List Int) (i : Int), rs = [.p (trI i)] ∧ vw a z = some (.lst (ns.map trI)) ∧ Q (.p (trI (ns.count i : Nat))) z
theorem rmt_cnt : RMt K (rCntI K) gCnt := by
  rintro B F α z σ H x vs a rs Q Q' ⟨ns, i, rfl, h, q⟩ C h1 h2 kk
  obtain ⟨v, rfl, h3⟩ := h2.one
  obtain ⟨p, ys, rfl, g1, g2⟩ := vw_lst h C h1
  cases Rq.ints g2
  exact ⟨p, ns, i, rfl, by rw [Rp.atom h3], .of g1, kk F α _ _ _ _ q .refl C (.a _)⟩
/-! ### stores -/
theorem ixN_lt {n : Nat} {i : Int} {j : Nat} (e : ixN n i = some j) : j < n := by
  unfold ixN at e
  split at e
  · split at e
    · cases e; omega
    · cases e
  · split at e
    · cases e; omega
    · cases e
/-- x[i] = e -/
def fAsgI (f fo fi : VE) : VS := fun G D z => f G z fun r z1 => fo G z1 fun a z2 => fi G z2 fun b z3 => frz r z3 fun t z4 => ∃ k ts i j, a = .c k ∧ b = .p (trI i) ∧ z4.c[k]? = some (.lst ts) ∧ ixN ts.length i = some j ∧ D.nx (z4.put k (ts.set j t))
theorem rs_asgI {t to ti : TE} {f fo fi : VE} (h : RE K E t f) (ho : RE K E to fo) (hi : RE K E ti fi) : RS K E (tAsg t (gSub to ti rSetL)) (fAsgI f fo fi) := by
  intro B F α z σ H G Dv D er hf C eo
  refine h B F α z σ H G _ _ er hf C fun F1 α1 z1 r v H1 q1 x1 C1 r1 => ?_
  refine ho B F1 α1 z1 σ H1 G _ _ er q1 C1 fun F2 α2 z2 a x H2 q2 x2 C2 r2 => ?_
  refine hi B F2 α2 z2 σ H2 G _ _ er q2 C2 fun F3 α3 z3 b y H3 q3 x3 C3 r3 => ?_
  obtain ⟨F4, u, z4, q4, x4, C4, r4⟩ := frz_ok q3 C3 ((r1.ext x2).ext x3)
  obtain ⟨k, ts, i, j, rfl, rfl, ec, ej, q⟩ := q4
  obtain ⟨p, ep, rfl⟩ := (r2.ext x3).ext x4
  obtain ⟨hF, hB, xs, hx, hq⟩ := C4.cell k p _ ep ec
  refine ⟨p, xs, i, j, rfl, Rp.atom r3, hx, by rw [hq.1]; exact ej, ?_⟩
  exact eo.nx _ _ _ _ _ q (((x1.trans x2).trans x3).trans x4) (C4.upc ep ec (hq.set r4 j))
/-- x op= e, numbers -/
def fAug (i : Nat) (f : VE) (g : Int → Int → Int) : VS := fun G D z => ∃ a, z.e[i]? = some (some (.p (trI a))) ∧ f G z fun r z1 => ∃ b, r = .p (trI b) ∧ D.nx (z1.set i (.p (trI (g a b))))
theorem rs_aug {i : Nat} {t : TE} {f : VE} {g : Int → Int → Int} (h : RE K E t f) : RS K E (tAug i t (ipI g)) (fAug i f g) := by
  intro B F α z σ H G Dv D er hf C eo
  obtain ⟨a, ea, hf⟩ := hf
  obtain ⟨v, e1, e2⟩ := C.env i _ ea
  refine ⟨v, e1, h B F α z σ H G _ _ er hf C fun F1 α1 z1 r w H1 q1 x1 C1 r1 => ?_⟩
  obtain ⟨b, rfl, q⟩ := q1
  exact ⟨a, b, Rp.atom e2, Rp.atom r1, eo.nx _ _ _ _ _ q x1 (C1.slot i (r := .p (trI (g a b))) (.a _))⟩
end
end VL

set_option maxRecDepth 100000
set_option maxHeartbeats 4000000
/-! # enumerate(t, start=k) -/
namespace L2
open PySem PySem.Spec PyProof.Rows
section
variable {M : Model} {A : Around} {E : Value → Shared → Prop} {s : Shared} {env : Env}
theorem callWith_type_kwB {pos : Pos} {id : String} {first : List Value} {args : List (Bool × Sem Value)} {keywords : List (Option Str × Sem Value)} {Q : Value → Shared → Prop}
    (hplain : args.any (·.1) = false) (hkw : keywords.any (·.1.isNone) = false)
    (h : wpAny M A (evalArgs (.type id) true args keywords) (fun a s₁ => wpAny M A (call (.type id) (first ++ a.pos) a.kw) Q E s₁) E s) :
    wpAny M A (callWith pos (.type id) first args keywords) Q E s := by
  unfold callWith
  refine wpAny_bind (wpAny_holding (wpAny_mono h (fun a s₁ h₁ => wpAny_bind (wpAny_standAt ?_)) fun _ _ x => x))
  simp only [hplain, hkw, Bool.or_false]
  refine wpAny_bind (wpAny_pure ?_)
  exact wpAny_bind (wpAny_mono h₁ (fun r s₂ hr => wpAny_bind (wpAny_holding (wpAny_point (wpAny_pure hr)))) fun _ _ x => x)
theorem callWith_kwT {pos : Pos} {id : String} {e : Expr} {rest : List Expr} {kws : List Keyword} {Q : Value → Shared → Prop}
    (h : wpAny M A (spliced (backTo pos (starEach (e :: rest) env))) (fun vs s₁ => wpAny M A (evalAll ((backToKw pos (keywordEach kws env)).map (·.2)))
      (fun kvs s₂ => wpAny M A (call (.type id) vs (((backToKw pos (keywordEach kws env)).filterMap (·.1)).zip kvs)) Q E s₂) E s₁) E s)
    (he : backTo pos (starEach (e :: rest) env) = (false, eval e env) :: backTo pos (starEach rest env) := by rfl)
    (hplain : (backTo pos (starEach (e :: rest) env)).any (·.1) = false := by rfl)
    (hall : (backToKw pos (keywordEach kws env)).all (·.1.isSome) = true := by rfl)
    (hkw : (backToKw pos (keywordEach kws env)).any (·.1.isNone) = false := by rfl) :
    wpAny M A (callWith pos (.type id) [] (backTo pos (starEach (e :: rest) env)) (backToKw pos (keywordEach kws env))) Q E s := by
  refine callWith_type_kwB hplain hkw ?_
  rw [he] at h ⊢
  exact evalArgs_kwB hall h
end
def iEnumS (K : PySem.W.Frag) (ta tk : TA) : TI := fun σ H R => ta σ H fun vs H1 => tk σ H1 fun zs H2 => ∃ a xs k, vs = [.ref a] ∧ zs = [.int k] ∧ -(2 ^ 63) ≤ k ∧ k < 2 ^ 63 ∧ SqT K H2 a xs ∧ R (IteT K k a) H2
theorem pi_enumS {X : Cx} {e : Expr} {kws : List Keyword} {ta tk : TA} {p pos tpos : Pos} {elts : List Expr} {kk : Nat} (hg : Gl X "enumerate") (hm : X.mg "enumerate" = none) (ha : PA X [e] ta) (hk : PK X kws tk)
    (he : backTo pos (starEach [e] X.env) = (false, eval e X.env) :: backTo pos (starEach [] X.env) := by rfl) (hpl : (backTo pos (starEach [e] X.env)).any (·.1) = false := by rfl)
    (hall : (backToKw pos (keywordEach kws X.env)).all (·.1.isSome) = true := by rfl) (hnone : (backToKw pos (keywordEach kws X.env)).any (·.1.isNone) = false := by rfl) (hks : (backToKw pos (keywordEach kws X.env)).filterMap (·.1) = [Str.ofString "start"] := by rfl) :
    PI X (.Tuple elts kk tpos) (.Call (.Name "enumerate" p) [e] kws pos) (iEnumS X.K ta tk) := by
  refine ⟨fun pins s σ H R I h => ?_⟩
  refine wpAny_Call_Name_kw (ld_blt I hg hm boot_enumerate ?_)
  refine callWith_kwT (thn (ha.run pos pins s σ H _ I h) fun us s1 ⟨vs, H1, I1, r1, q1⟩ => thn (hk.run pos pins s1 σ H1 _ I1 q1) fun ws s2 ⟨zs, H2, I2, r2, q2⟩ => ?_) he hpl hall hnone
  rw [hks]
  obtain ⟨a, xs, k, rfl, rfl, k0, k1, hq, q⟩ := q2
  obtain rfl := Vals.ref1 r1
  obtain ⟨w1, rfl, t, rfl⟩ := vals1 r2
  have fresh2 : ∀ b, b ∈ [s2.heap.objs.size + 1, s2.heap.objs.size] → FpOk X pins H2 b := fun b hb => by
    have e' : b = s2.heap.objs.size + 1 ∨ b = s2.heap.objs.size := by simpa using hb
    have hle : s2.heap.objs.size ≤ b := by
      rcases e' with z | z
      · rw [z]; exact Nat.le_add_right _ _
      · rw [z]; exact Nat.le_refl _
    exact I2.fpOk hle (I2.hok.fresh hle)
  obtain ⟨its, rv, p', hz⟩ := I2.tuple hq
  refine enum_begins_start (begins_tuple a its.toArray) p' k0 k1 (fun h' hee hit hsz hkk => wpAny_pyIter_enum hee ?_)
  have I3 : Inv X pins σ H2 { s2 with heap := h' } := I2.kept (t' := s2.toks) hkk
  refine ⟨s2.heap.objs.size + 1, [s2.heap.objs.size + 1, s2.heap.objs.size], _, _, H2, rfl, I3, turn_enumT k a (s2.heap.objs.size + 1) s2.heap.objs.size (Nat.succ_ne_self _), ⟨⟨.none, ?_⟩, ⟨_, hit, rfl, rfl⟩⟩, fresh2, q⟩
  show IsEnum h' _ _ (k + ((0 : Nat) : Int)) .none
  rw [show k + ((0 : Nat) : Int) = k by omega]
  exact hee
end L2

set_option maxRecDepth 100000
set_option maxHeartbeats 4000000
/-! # zip(t, u), two tuples -/
namespace L2
open PySem PySem.Spec PyProof.Rows
def ItzT (K : PySem.W.Frag) (a b : Addr) : It :=
  ⟨fun i H => ∃ xs ys : List V, SqT K H a xs ∧ SqT K H b ys ∧ i < xs.length ∧ i < ys.length,
   fun i H v H' => ∃ T x y, v = .ref T ∧ H T = none ∧ H' = upd H T (.tup [x, y]) ∧ (∀ xs, SqT K H a xs → xs[i]? = some x) ∧ ∀ ys, SqT K H b ys → ys[i]? = some y,
   fun i H => ∃ xs ys : List V, SqT K H a xs ∧ SqT K H b ys ∧ min xs.length ys.length = i⟩
/-- what the five cells of the walk look like at turn i -/
def ZipAt (z TI TO i1 i2 a b : Addr) (i : Nat) (h : Heap) : Prop := IsZip h z TI TO .none ∧ IsTupOf2 h TI (.ref i1) (.ref i2) ∧ (∃ a1 a2, IsTupOf2 h TO a1 a2) ∧ h.IsTupleIter i1 a i ∧ h.IsTupleIter i2 b i
theorem turn_zipT {P : Program} {w : World} {K : PySem.W.Frag} {elts : List Expr} {kk : Nat} {tpos : Pos} {a b z TI TO i1 i2 : Addr} (S : ZipSep2 z TI TO i1 i2 [i1, a] [i2, b]) :
    Turn P w K (.Tuple elts kk tpos) (ItzT K a b) [z, TI, TO, i1, i2] z (ZipAt z TI TO i1 i2 a b) where
  mem := by simp
  obj := fun i h st c hc => by
    obtain ⟨h1, h2, ⟨a1, a2, h3⟩, ⟨o4, h4, _, d4⟩, ⟨o5, h5, _, d5⟩⟩ := st
    have e' : c = z ∨ c = TI ∨ c = TO ∨ c = i1 ∨ c = i2 := by simpa using hc
    rcases e' with q | q | q | q | q <;> subst q
    · exact ⟨_, h1, fun v q => nomatch q⟩
    · exact ⟨_, h2, fun v q => nomatch q⟩
    · exact ⟨_, h3, fun v q => nomatch q⟩
    · exact ⟨o4, h4, fun v q => by rw [d4] at q; cases q⟩
    · exact ⟨o5, h5, fun v q => by rw [d5] at q; cases q⟩
  keep := fun i h h' st k => by
    obtain ⟨h1, h2, ⟨a1, a2, h3⟩, h4, h5⟩ := st
    exact ⟨k z (by simp) _ h1, k TI (by simp) _ h2, ⟨a1, a2, k TO (by simp) _ h3⟩, h4.at fun o q => k i1 (by simp) o q, h5.at fun o q => k i2 (by simp) o q⟩
  item := by
    intro X hP hw hK hc i pins s σ H E I hf st hg
    subst hP hw hK
    obtain ⟨h1, h2, h3, h4, h5⟩ := st
    obtain ⟨xs, ys, hx, hy, lx, ly⟩ := hg
    obtain ⟨its, rv, p, _⟩ := I.tuple hx
    obtain ⟨its2, rv2, p2, _⟩ := I.tuple hy
    have dif : ∀ {t u : Addr} {j : Nat} {js : Array Value}, s.heap.IsTupleIter t u j → ∀ {c : Addr}, s.heap.IsTuple c js → c ≠ t := fun {t u j js} hi {c} ht e => by
      obtain ⟨o, ho, hcls, _⟩ := ht
      obtain ⟨o2, ho2, hc2, _⟩ := hi
      rw [e, ho2] at ho
      cases ho
      rw [hc2] at hcls
      exact absurd hcls (by decide)
    have W := GoesN.zip2 (prog := X.prog) (w := X.w) (A := X.A) (elts := elts) (x1 := kk) (pos := tpos) S (Draws.tuple (prog := X.prog) (w := X.w) (A := X.A.in1) (I.ok.hd hc) i1 a (dif h4 p) its.toArray) (Draws.tuple (prog := X.prog) (w := X.w) (A := X.A.in1) (I.ok.hd hc) i2 b (dif h5 p2) its2.toArray)
    have n1 : i < min its.toArray.size its2.toArray.size := by
      rw [List.size_toArray, List.size_toArray, ← rv.length, ← rv2.length]
      omega
    refine wpAny_mono (W.goes i s _ E n1 ⟨h1, h2, h3, ⟨h4, p⟩, h5, p2⟩ fun v h' tk hY st' hk htk => ?_) (fun r s1 hr => hr) fun _ _ q => q
    obtain ⟨T, u1, u2, rfl, hT, e1, e2, hTup⟩ := hY
    obtain ⟨g1, g2, g3, ⟨g4, _⟩, g5, _⟩ := st'
    have hxi : xs[i]? = some xs[i] := List.getElem?_eq_getElem lx
    have hyi : ys[i]? = some ys[i] := List.getElem?_eq_getElem ly
    obtain ⟨v1, hv1, r1⟩ := rv.get hxi
    obtain ⟨v2, hv2, r2⟩ := rv2.get hyi
    have q1 : u1 = v1 := by
      have : its[i]? = some u1 := by simpa using e1
      rw [hv1] at this; exact (Option.some.inj this).symm
    have q2 : u2 = v2 := by
      have : its2[i]? = some u2 := by simpa using e2
      rw [hv2] at this; exact (Option.some.inj this).symm
    subst q1 q2
    have I1 : Inv X pins σ (upd H T (.tup [xs[i], ys[i]])) { s with heap := h', toks := tk } :=
      I.turnedNew (ch := [z, TI, TO, i1, i2]) (fun c o hb q => hk c o (fun m => hb (by
        have e' : c = z ∨ c = TO ∨ c = i1 ∨ c = i2 := by simpa using m
        rcases e' with q | q | q | q <;> simp [q])) q) hf hT ⟨by show 2 ≤ sizeLine; decide, [u1, u2], .cons r1 (.cons r2 .nil), hTup⟩
    refine ⟨.ref T, _, I1, rfl, ⟨T, _, _, rfl, I.hok.fresh hT, rfl, fun l hl => by rw [I.tuple_inj hl hx]; exact hxi, fun l hl => by rw [I.tuple_inj hl hy]; exact hyi⟩, ⟨g1, g2, g3, g4, g5⟩, fun c hc' => ?_⟩
    have lt : c < s.heap.objs.size := by
      have e' : c = z ∨ c = TI ∨ c = TO ∨ c = i1 ∨ c = i2 := by simpa using hc'
      obtain ⟨_, _, g3'⟩ := h3
      obtain ⟨_, w4, _⟩ := h4
      obtain ⟨_, w5, _⟩ := h5
      rcases e' with q | q | q | q | q <;> rw [q]
      · exact Heap.lt_size h1
      · exact Heap.lt_size h2
      · exact Heap.lt_size g3'
      · exact Heap.lt_size w4
      · exact Heap.lt_size w5
    rw [upd_ne (Nat.ne_of_lt (Nat.lt_of_lt_of_le lt hT))]
    exact (hf c hc').1
  done := by
    intro X hP hw hK hc i pins s σ H E I hf st hg
    subst hP hw hK
    obtain ⟨h1, h2, h3, h4, h5⟩ := st
    obtain ⟨xs, ys, hx, hy, hend⟩ := hg
    obtain ⟨its, rv, p, _⟩ := I.tuple hx
    obtain ⟨its2, rv2, p2, _⟩ := I.tuple hy
    have dif : ∀ {t u : Addr} {j : Nat} {js : Array Value}, s.heap.IsTupleIter t u j → ∀ {c : Addr}, s.heap.IsTuple c js → c ≠ t := fun {t u j js} hi {c} ht e => by
      obtain ⟨o, ho, hcls, _⟩ := ht
      obtain ⟨o2, ho2, hc2, _⟩ := hi
      rw [e, ho2] at ho
      cases ho
      rw [hc2] at hcls
      exact absurd hcls (by decide)
    have W := GoesN.zip2 (prog := X.prog) (w := X.w) (A := X.A) (elts := elts) (x1 := kk) (pos := tpos) S (Draws.tuple (prog := X.prog) (w := X.w) (A := X.A.in1) (I.ok.hd hc) i1 a (dif h4 p) its.toArray) (Draws.tuple (prog := X.prog) (w := X.w) (A := X.A.in1) (I.ok.hd hc) i2 b (dif h5 p2) its2.toArray)
    have n1 : min its.toArray.size its2.toArray.size = i := by
      rw [List.size_toArray, List.size_toArray, ← rv.length, ← rv2.length]
      exact hend
    rw [n1] at W
    refine wpAny_mono (W.stops s (fun s1 => Inv X pins σ H s1) E ⟨h1, h2, h3, ⟨h4, p⟩, h5, p2⟩ fun h' tk hk htk => I.turnedL (t' := tk) (ch := [z, TI, TO, i1, i2]) (fun c o hb q => hk c o (fun m => hb ?_) q) hf) (fun r s1 hr => hr) fun _ _ q => q
    have e' : c = z ∨ c = TO ∨ c = i1 ∨ c = i2 := by simpa using m
    rcases e' with q | q | q | q <;> simp [q]
  self := fun A i s Q E st h => wpAny_pyIter_zip st.1 h
theorem walk_zipT {K : PySem.W.Frag} {a b : Addr} {xs ys : List V} : Walk (ItzT K a b) (min xs.length ys.length) (fun H => SqT K H a xs ∧ SqT K H b ys) (YPair (fun i => xs[i]?) (fun i => ys[i]?)) where
  goes := fun i H hi h => ⟨xs, ys, h.1, h.2, by omega, by omega⟩
  stops := fun H h => ⟨xs, ys, h.1, h.2, rfl⟩
  yields := fun i H v H' hi h y => by
    obtain ⟨T, x, y, rfl, hT, rfl, h1, h2⟩ := y
    exact ⟨T, x, y, rfl, hT, rfl, h1 xs h.1, h2 ys h.2⟩
/-- zip(t, u) -/
def iZipT (K : PySem.W.Frag) (ta : TA) : TI := fun σ H R => ta σ H fun vs H1 => ∃ a b xs ys, vs = [.ref a, .ref b] ∧ SqT K H1 a xs ∧ SqT K H1 b ys ∧ R (ItzT K a b) H1
theorem pi_zipT {X : Cx} {e e2 : Expr} {ta : TA} {p pos tpos : Pos} {elts : List Expr} {kk : Nat} (hm : X.mg "zip" = none) (ha : PA X [e, e2] ta) (hg : Gl X "zip" := by rfl)
    (hs : starEach [e, e2] X.env = (false, eval e X.env) :: starEach [e2] X.env := by rfl) (hpl : (backTo pos (starEach [e2] X.env)).any (·.1) = false := by rfl) :
    PI X (.Tuple elts kk tpos) (.Call (.Name "zip" p) [e, e2] [] pos) (iZipT X.K ta) := by
  refine ⟨fun pins s σ H R I h => Call_ (ld_blt I hg hm PyProof.Rows.boot_zip (PyProof.Rows.callWith_type1 (thn (ha.run pos pins s σ H _ I h) fun us s1 ⟨vs, H1, I1, r1, q1⟩ => ?_) hs hpl))⟩
  obtain ⟨a, b, xs, ys, ex, hx, hy, q⟩ := q1
  subst ex
  cases r1 with
  | cons r rr =>
  cases rr with
  | cons r' rr =>
  cases rr
  cases r
  cases r'
  obtain ⟨its, rv, p1, _⟩ := I1.tuple hx
  obtain ⟨its2, rv2, p2, _⟩ := I1.tuple hy
  have lt : ∀ {c : Addr} {js : Array Value}, IsTup s1.heap c js → c < s1.heap.objs.size := fun h => by obtain ⟨_, h, _⟩ := h; exact Heap.lt_size h
  refine zip_begins2 (begins_tuple a its.toArray) (begins_tuple b its2.toArray) p1 p2 fun h' hz hTI hTO h1 h2 hsz hk => wpAny_pyIter_zip hz ?_
  refine ⟨s1.heap.objs.size + 4, [s1.heap.objs.size + 4, s1.heap.objs.size + 2, s1.heap.objs.size + 3, s1.heap.objs.size, s1.heap.objs.size + 1], _, _, H1, rfl, I1.kept (t' := s1.toks) hk, turn_zipT (zip_sep2 (fp1 := [a]) (fp2 := [b]) (fun c m => by rw [List.mem_singleton.mp m]; exact lt p1) (fun c m => by rw [List.mem_singleton.mp m]; exact lt p2)), ⟨hz, hTI, ⟨_, _, hTO⟩, ⟨_, h1, rfl, rfl⟩, ⟨_, h2, rfl, rfl⟩⟩, fun c m => ?_, q⟩
  have le : s1.heap.objs.size ≤ c := by
    have e' : c = s1.heap.objs.size + 4 ∨ c = s1.heap.objs.size + 2 ∨ c = s1.heap.objs.size + 3 ∨ c = s1.heap.objs.size ∨ c = s1.heap.objs.size + 1 := by simpa using m
    rcases e' with z | z | z | z | z <;> rw [z]
    · exact Nat.le_add_right _ _
    · exact Nat.le_add_right _ _
    · exact Nat.le_add_right _ _
    · exact Nat.le_refl _
    · exact Nat.le_add_right _ _
  exact I1.fpOk le (I1.hok.fresh le)
end L2

set_option maxRecDepth 100000
set_option maxHeartbeats 4000000
/-! # Loops, comprehensions, calls, told by trees -/
namespace VL
open PySem PySem.Spec PyProof.Rows L2
/-! ### forgetting -/
def okS (n : Nat) : Sv → Prop
  | .p _ => True
  | .c k => k < n
def WkE (n : Nat) : List (Option Sv) → List (Option Sv) → Prop
  | [], [] => True
  | _ :: xs, none :: ys => WkE n xs ys
  | x :: xs, some r :: ys => x = some r ∧ okS n r ∧ WkE n xs ys
  | _, _ => False
/-- z, of its cells the first n, some slots forgotten -/
@[irreducible] def Wk (n : Nat) (z : Z) (P : Z → Prop) : Prop := ∃ e, WkE n z.e e ∧ P ⟨e, z.c.take n⟩
theorem Wk.out {n : Nat} {z : Z} {P : Z → Prop} (h : Wk n z P) : ∃ e, WkE n z.e e ∧ P ⟨e, z.c.take n⟩ := by unfold Wk at h; exact h
theorem wkM {n : Nat} {z : Z} {P : Z → Prop} {e : List (Option Sv)} (h : WkE n z.e e) (p : P ⟨e, z.c.take n⟩) : Wk n z P := by unfold Wk; exact ⟨e, h, p⟩
theorem WkE.len {n : Nat} : ∀ {xs ys : List (Option Sv)}, WkE n xs ys → xs.length = ys.length
  | [], [], _ => rfl
  | _ :: xs, none :: ys, h => by rw [List.length_cons, List.length_cons, WkE.len (xs := xs) (ys := ys) h]
  | _ :: xs, some r :: ys, h => by rw [List.length_cons, List.length_cons, WkE.len (xs := xs) (ys := ys) h.2.2]
theorem WkE.get {n : Nat} : ∀ {xs ys : List (Option Sv)} {i : Nat} {r : Sv}, WkE n xs ys → ys[i]? = some (some r) → xs[i]? = some (some r) ∧ okS n r
  | [], y :: ys, i, r, h, e => by cases y <;> exact h.elim
  | _, [], i, r, h, e => by cases e
  | x :: xs, none :: ys, 0, r, h, e => by cases e
  | x :: xs, some s :: ys, 0, r, h, e => by cases e; exact ⟨by rw [h.1]; rfl, h.2.1⟩
  | x :: xs, none :: ys, i + 1, r, h, e => WkE.get (xs := xs) (ys := ys) (i := i) h e
  | x :: xs, some s :: ys, i + 1, r, h, e => WkE.get (xs := xs) (ys := ys) (i := i) h.2.2 e
section
variable {K : PySem.W.Frag} {E : XK} {B F F' : Hp} {α α' β : List Addr} {z z' : Z} {σ : L2.St} {H H' : Hp}
theorem Cor.wk (C : Cor K B F (α ++ β) z σ H) {e : List (Option Sv)} (h : WkE α.length z.e e) : Cor K B F α ⟨e, z.c.take α.length⟩ σ H := by
  have hl := C.len
  rw [List.length_append] at hl
  refine ⟨C.keep, C.same, by rw [List.length_take]; omega, (List.nodup_append.mp C.nd).1, fun k a c ea ec => ?_, by rw [C.elen]; exact h.len, fun i r ee => ?_⟩
  · have hk : k < α.length := (List.getElem?_eq_some_iff.mp ea).1
    have ec : (z.c.take α.length)[k]? = some c := ec
    rw [List.getElem?_take, if_pos hk] at ec
    exact (C.cell k a c (by rw [List.getElem?_append_left hk]; exact ea) ec).mono (.refl _) (fun _ _ _ h q => h (List.mem_append_left _ q)) (fun _ _ _ _ _ h => h) (fun _ _ h _ => h)
  · obtain ⟨e1, e2⟩ := h.get ee
    obtain ⟨v, g1, g2⟩ := C.env i r e1
    refine ⟨v, g1, ?_⟩
    cases r with
    | p t => exact g2
    | c k =>
      obtain ⟨a, ea, rfl⟩ := g2
      exact ⟨a, by rw [List.getElem?_append_left (show k < α.length from e2)] at ea; exact ea, rfl⟩
/-! ### iterators -/
theorem itok_list {a : Addr} {xs : List V} {ts : List Tr} (h : F a = some (.lst xs)) (rq : Rq K F xs ts) : ItOk K F (Itl K a) ts := by
  have w := walk_list (K := K) (a := a) (xs := xs)
  refine ⟨fun i H s hi => w.goes i H (by rw [rq.1]; exact hi) (.of (s _ _ h)), fun H s => by rw [← rq.1]; exact w.stops H (.of (s _ _ h)), fun i H x H' s hi y => .inl ?_⟩
  obtain ⟨e, ex⟩ := w.yields i H x H' (by rw [rq.1]; exact hi) (.of (s _ _ h)) y
  exact ⟨e, fun t et => rq.2 i x t ex et⟩
theorem itok_tup {a : Addr} {xs : List V} {ts : List Tr} (h : SqT K F a xs) (rq : Rq K F xs ts) : ItOk K F (Itt K a) ts := by
  have w := walk_tup (K := K) (a := a) (xs := xs)
  refine ⟨fun i H s hi => w.goes i H (by rw [rq.1]; exact hi) (s.seqT h), fun H s => by rw [← rq.1]; exact w.stops H (s.seqT h), fun i H x H' s hi y => .inl ?_⟩
  obtain ⟨e, ex⟩ := w.yields i H x H' (by rw [rq.1]; exact hi) (s.seqT h) y
  exact ⟨e, fun t et => rq.2 i x t ex et⟩
theorem itok_w {J : It} {G : Hp → Prop} {xs : List V} {ts : List Tr} (w : Walk J xs.length G (YAt xs)) (hG : ∀ H, Same F H → G H) (rq : Rq K F xs ts) : ItOk K F J ts := by
  refine ⟨fun i H s hi => w.goes i H (by rw [rq.1]; exact hi) (hG H s), fun H s => by rw [← rq.1]; exact w.stops H (hG H s), fun i H x H' s hi y => .inl ?_⟩
  obtain ⟨e, ex⟩ := w.yields i H x H' (by rw [rq.1]; exact hi) (hG H s) y
  exact ⟨e, fun t et => rq.2 i x t ex et⟩
def fiL (f : VE) : VC := fun G z Q => f G z fun r z1 => frz r z1 fun t z2 => ∃ ts, t = .lst ts ∧ Q ts z2
def fiT (f : VE) : VC := fun G z Q => f G z fun r z1 => frz r z1 fun t z2 => ∃ ts, t = .tup ts ∧ Q ts z2
theorem ri_list {t : TE} {f : VE} (h : RE K E t f) : RI K E (iList K t) (fiL f) := by
  intro B F α z σ H G Qv Q er hf C k
  refine h B F α z σ H G _ _ er hf C fun F1 α1 z1 r v H1 q1 x1 C1 r1 => ?_
  obtain ⟨F2, t, z2, ⟨ts, rfl, q⟩, x2, C2, r2⟩ := frz_ok q1 C1 r1
  obtain ⟨p, xs, rfl, g1, _, g2⟩ := Rp.inv_lst r2
  exact ⟨p, rfl, ⟨xs, .of (C2.same _ _ g1)⟩, k F2 α1 z2 ts _ H1 q (x1.trans x2) C2 (itok_list g1 g2)⟩
theorem ri_tup {t : TE} {f : VE} (h : RE K E t f) : RI K E (iTup K t) (fiT f) := by
  intro B F α z σ H G Qv Q er hf C k
  refine h B F α z σ H G _ _ er hf C fun F1 α1 z1 r v H1 q1 x1 C1 r1 => ?_
  obtain ⟨F2, t, z2, ⟨ts, rfl, q⟩, x2, C2, r2⟩ := frz_ok q1 C1 r1
  obtain ⟨p, xs, rfl, g1, _, g2⟩ := Rp.inv_tup r2
  exact ⟨p, rfl, ⟨xs, C2.same.seqT g1⟩, k F2 α1 z2 ts _ H1 q (x1.trans x2) C2 (itok_tup g1 g2)⟩
/-- for x in a, a a list or a tuple -/
def iSeqV (K : PySem.W.Frag) (te : TE) : TI := fun σ H R => te σ H fun x H1 => ∃ a xs, x = .ref a ∧ ((SqL K H1 a xs ∧ R (Itl K a) H1) ∨ (SqT K H1 a xs ∧ R (Itt K a) H1))
theorem pi_seqV {X : Cx} {tg l : Expr} {tl : TE} (hl : PE X l tl) : PI X tg l (iSeqV X.K tl) := by
  refine ⟨fun pins s σ H R I h => ?_⟩
  refine thn (hl.run pins s σ H _ I h) fun v s1 ⟨x, H1, I1, r1, q1⟩ => ?_
  obtain ⟨a, xs, e, hq⟩ := q1
  subst e
  cases r1
  rcases hq with ⟨hq, q⟩ | ⟨hq, q⟩
  · obtain ⟨its, rv, p, hz⟩ := I1.list hq
    refine wpAny_pyIter_list p.isList ?_
    refine ⟨s1.heap.objs.size, [s1.heap.objs.size], _, _, H1, rfl, I1.kept (t' := s1.toks) fun b o e => Heap.get?_push_of_some _ e, turn_list a _, ⟨_, Heap.get?_push_size _ rfl, rfl, rfl⟩, fun b hb => ?_, q⟩
    have e : b = s1.heap.objs.size := by simpa using hb
    subst e
    exact I1.fpOk (Nat.le_refl _) (I1.hok.fresh (Nat.le_refl _))
  · obtain ⟨its, rv, p, hz⟩ := I1.tuple hq
    refine wpAny_pyIter_tuple (show s1.heap.IsTuple a its.toArray from p) ?_
    refine ⟨s1.heap.objs.size, [s1.heap.objs.size], _, _, H1, rfl, I1.kept (t' := s1.toks) fun b o e => Heap.get?_push_of_some _ e, turn_tuple a _, ⟨_, Heap.get?_push_size _ rfl, rfl, rfl⟩, fun b hb => ?_, q⟩
    have e : b = s1.heap.objs.size := by simpa using hb
    subst e
    exact I1.fpOk (Nat.le_refl _) (I1.hok.fresh (Nat.le_refl _))
def fiW (f : VE) : VC := fun G z Q => f G z fun r z1 => frz r z1 fun t z2 => ∃ ts, (t = .tup ts ∨ t = .lst ts) ∧ Q ts z2
theorem ri_seqV {t : TE} {f : VE} (h : RE K E t f) : RI K E (iSeqV K t) (fiW f) := by
  intro B F α z σ H G Qv Q er hf C k
  refine h B F α z σ H G _ _ er hf C fun F1 α1 z1 r v H1 q1 x1 C1 r1 => ?_
  obtain ⟨F2, t, z2, ⟨ts, e, q⟩, x2, C2, r2⟩ := frz_ok q1 C1 r1
  rcases e with rfl | rfl
  · obtain ⟨p, xs, rfl, g1, _, g2⟩ := Rp.inv_tup r2
    exact ⟨p, xs, rfl, .inr ⟨C2.same.seqT g1, k F2 α1 z2 ts _ H1 q (x1.trans x2) C2 (itok_tup g1 g2)⟩⟩
  · obtain ⟨p, xs, rfl, g1, _, g2⟩ := Rp.inv_lst r2
    exact ⟨p, xs, rfl, .inl ⟨.of (C2.same _ _ g1), k F2 α1 z2 ts _ H1 q (x1.trans x2) C2 (itok_list g1 g2)⟩⟩
theorem itok_rng {lo : Int} {n : Nat} : ItOk K F (Itr lo n) ((List.range n).map fun i => trI (lo + (i : Nat))) := by
  have ln : ((List.range n).map fun i => trI (lo + (i : Nat))).length = n := by rw [List.length_map, List.length_range]
  refine ⟨fun i H s hi => by rw [ln] at hi; exact hi, fun H s => by rw [ln]; exact Nat.le_refl n, fun i H x H' s hi y => .inl ?_⟩
  obtain ⟨e, ex⟩ := y
  refine ⟨e, fun t et => ?_⟩
  have hi : i < n := by rw [ln] at hi; exact hi
  rw [List.getElem?_map, List.getElem?_range hi] at et
  cases et
  rw [ex]
  exact .a _
def fiR1 (f : VA) : VC := fun G z Q => f G z fun rs z1 => ∃ j, rs = [.p (trI j)] ∧ -(2 ^ 62) ≤ j ∧ j < 2 ^ 62 ∧ Q ((List.range j.toNat).map fun i => trI (0 + (i : Nat))) z1
def fiR2 (f : VA) : VC := fun G z Q => f G z fun rs z1 => ∃ i j, rs = [.p (trI i), .p (trI j)] ∧ (-(2 ^ 62) ≤ i ∧ i < 2 ^ 62 ∧ -(2 ^ 62) ≤ j ∧ j < 2 ^ 62) ∧ Q ((List.range (j - i).toNat).map fun n => trI (i + (n : Nat))) z1
theorem ri_rng1 {t : TA} {f : VA} (h : RA K E t f) : RI K E (iRng1 t) (fiR1 f) := by
  intro B F α z σ H G Qv Q er hf C k
  refine h B F α z σ H G _ _ er hf C fun F1 α1 z1 rs vs H1 q1 x1 C1 r1 => ?_
  obtain ⟨j, rfl, l1, l2, q⟩ := q1
  obtain ⟨v, rfl, h1⟩ := r1.one
  exact ⟨j, by rw [Rp.atom h1], l1, l2, k F1 α1 z1 _ _ H1 q x1 C1 itok_rng⟩
theorem ri_rng2 {t : TA} {f : VA} (h : RA K E t f) : RI K E (iRng2 t) (fiR2 f) := by
  intro B F α z σ H G Qv Q er hf C k
  refine h B F α z σ H G _ _ er hf C fun F1 α1 z1 rs vs H1 q1 x1 C1 r1 => ?_
  obtain ⟨i, j, rfl, l, q⟩ := q1
  obtain ⟨v, w, rfl, h1, h2⟩ := r1.two
  exact ⟨i, j, by rw [Rp.atom h1, Rp.atom h2], l, k F1 α1 z1 _ _ H1 q x1 C1 itok_rng⟩
def enT (k : Int) (ts : List Tr) : List Tr := ts.zipIdx.map fun p => .tup [trI (k + (p.2 : Nat)), p.1]
theorem enT_get {k : Int} {ts : List Tr} {i : Nat} {u : Tr} (e : (enT k ts)[i]? = some u) : ∃ t, ts[i]? = some t ∧ u = .tup [trI (k + (i : Nat)), t] := by
  unfold enT at e
  rw [List.getElem?_map, List.getElem?_zipIdx] at e
  cases q : ts[i]? with
  | none => rw [q] at e; cases e
  | some t => rw [q] at e; cases e; exact ⟨t, rfl, by rw [Nat.zero_add]⟩
theorem enT_len {k : Int} {ts : List Tr} : (enT k ts).length = ts.length := by unfold enT; rw [List.length_map, List.length_zipIdx]
theorem itok_pair {J : It} {n : Nat} {Gw : Hp → Prop} {ys : Nat → Option V} {xs : Nat → Option V} {its : List Tr} (w : Walk J n Gw (YPair xs ys)) (hG : ∀ H, Same F H → Gw H) (hn : its.length = n)
    (h : ∀ i x y t, xs i = some x → ys i = some y → its[i]? = some t → ∃ a b, t = .tup [a, b] ∧ Rp K F x a ∧ Rp K F y b) : ItOk K F J its := by
  subst hn
  refine ⟨fun i H s hi => w.goes i H hi (hG H s), fun H s => w.stops H (hG H s), fun i H x H' s hi y => .inr ?_⟩
  obtain ⟨T, a, b, rfl, hT, rfl, e1, e2⟩ := w.yields i H x H' hi (hG H s) y
  refine ⟨T, [a, b], rfl, hT, rfl, by rw [sizeLine_eq]; show 2 ≤ _; decide, fun t et => ?_⟩
  obtain ⟨u, v, rfl, r1, r2⟩ := h i a b t e1 e2 et
  exact ⟨[u, v], rfl, .cons r1 (.cons r2 .nil)⟩
theorem itok_enT {a : Addr} {k : Int} {xs : List V} {ts : List Tr} (h : SqT K F a xs) (rq : Rq K F xs ts) : ItOk K F (IteT K k a) (enT k ts) :=
  itok_pair walk_enumT (fun H s => s.seqT h) (by rw [enT_len, rq.1]) fun i x y t e1 e2 et => by
    obtain ⟨u, eu, rfl⟩ := enT_get et
    cases e1
    exact ⟨_, _, rfl, .a _, rq.2 i y u e2 eu⟩
theorem itok_en {a : Addr} {xs : List V} {ts : List Tr} (h : F a = some (.lst xs)) (rq : Rq K F xs ts) : ItOk K F (Ite K a) (enT 0 ts) :=
  itok_pair walk_enum (fun H s => .of (s _ _ h)) (by rw [enT_len, rq.1]) fun i x y t e1 e2 et => by
    obtain ⟨u, eu, rfl⟩ := enT_get et
    cases e1
    exact ⟨_, _, rfl, by rw [Int.zero_add]; exact .a _, rq.2 i y u e2 eu⟩
def fiE (f : VA) : VC := fun G z Q => f G z fun rs z1 => ∃ r, rs = [r] ∧ frz r z1 fun t z2 => ∃ ts, (t = .tup ts ∨ t = .lst ts) ∧ Q (enT 0 ts) z2
def fiES (f g : VA) : VC := fun G z Q => f G z fun rs z1 => g G z1 fun ss z2 => ∃ ts k, rs = [.p (.tup ts)] ∧ ss = [.p (trI k)] ∧ -(2 ^ 63) ≤ k ∧ k < 2 ^ 63 ∧ Q (enT k ts) z2
theorem ri_enumA {t : TA} {f : VA} (h : RA K E t f) : RI K E (iEnumA K t) (fiE f) := by
  intro B F α z σ H G Qv Q er hf C k
  refine h B F α z σ H G _ _ er hf C fun F1 α1 z1 rs vs H1 q1 x1 C1 r1 => ?_
  obtain ⟨r, rfl, q1⟩ := q1
  obtain ⟨v, rfl, h1⟩ := r1.one
  obtain ⟨F2, t, z2, ⟨ts, e, q⟩, x2, C2, r2⟩ := frz_ok q1 C1 h1
  rcases e with rfl | rfl
  · obtain ⟨p, xs, rfl, g1, _, g2⟩ := Rp.inv_tup r2
    exact ⟨p, xs, rfl, .inr ⟨C2.same.seqT g1, k F2 α1 z2 _ _ H1 q (x1.trans x2) C2 (itok_enT g1 g2)⟩⟩
  · obtain ⟨p, xs, rfl, g1, _, g2⟩ := Rp.inv_lst r2
    exact ⟨p, xs, rfl, .inl ⟨.of (C2.same _ _ g1), k F2 α1 z2 _ _ H1 q (x1.trans x2) C2 (itok_en g1 g2)⟩⟩
theorem ri_enumS {t u : TA} {f g : VA} (h : RA K E t f) (h' : RA K E u g) : RI K E (iEnumS K t u) (fiES f g) := by
  intro B F α z σ H G Qv Q er hf C k
  refine h B F α z σ H G _ _ er hf C fun F1 α1 z1 rs vs H1 q1 x1 C1 r1 => ?_
  refine h' B F1 α1 z1 σ H1 G _ _ er q1 C1 fun F2 α2 z2 ss ws H2 q2 x2 C2 r2 => ?_
  obtain ⟨ts, j, rfl, rfl, l1, l2, q⟩ := q2
  obtain ⟨v, rfl, h1⟩ := r1.one
  obtain ⟨w, rfl, h2⟩ := r2.one
  obtain ⟨p, xs, rfl, g1, _, g2⟩ := Rp.inv_tup (Rv.ext h1 x2)
  exact ⟨p, xs, j, rfl, by rw [Rp.atom h2], l1, l2, C2.same.seqT g1, k F2 α2 z2 _ _ H2 q (x1.trans x2) C2 (itok_enT g1 g2)⟩
/-- zip of two lists -/
def zpT (ts us : List Tr) : List Tr := List.zipWith (fun a b => .tup [a, b]) ts us
def fiZ (f : VA) : VC := fun G z Q => f G z fun rs z1 => ∃ a b, rs = [a, b] ∧ frz a z1 fun t z2 => frz b z2 fun u z3 => ∃ ts us, t = .lst ts ∧ u = .lst us ∧ Q (zpT ts us) z3
theorem zpT_get {ts us : List Tr} {i : Nat} {u : Tr} (e : (zpT ts us)[i]? = some u) : ∃ a b, ts[i]? = some a ∧ us[i]? = some b ∧ u = .tup [a, b] := by
  unfold zpT at e
  rw [List.getElem?_zipWith] at e
  cases q : ts[i]? <;> cases q' : us[i]? <;> rw [q, q'] at e <;> cases e
  exact ⟨_, _, rfl, rfl, rfl⟩
theorem ri_zip {t : TA} {f : VA} (h : RA K E t f) : RI K E (iZip K t) (fiZ f) := by
  intro B F α z σ H G Qv Q er hf C k
  refine h B F α z σ H G _ _ er hf C fun F1 α1 z1 rs vs H1 q1 x1 C1 r1 => ?_
  obtain ⟨a, b, rfl, q1⟩ := q1
  obtain ⟨v, w, rfl, h1, h2⟩ := r1.two
  obtain ⟨F2, t, z2, q2, x2, C2, r2⟩ := frz_ok q1 C1 h1
  obtain ⟨F3, u, z3, ⟨ts, us, rfl, rfl, q⟩, x3, C3, r3⟩ := frz_ok q2 C2 (h2.ext x2)
  obtain ⟨p, xs, rfl, g1, _, g2⟩ := Rp.inv_lst (r2.same x3.1)
  obtain ⟨p', ys, rfl, g1', _, g2'⟩ := Rp.inv_lst r3
  refine ⟨p, p', xs, ys, rfl, .of (C3.same _ _ g1), .of (C3.same _ _ g1'), k F3 α1 z3 _ _ H1 q ((x1.trans x2).trans x3) C3 ?_⟩
  refine itok_pair (walk_zip rfl) (fun H s => ⟨.of (s _ _ g1), .of (s _ _ g1')⟩) (by unfold zpT; rw [List.length_zipWith, g2.1, g2'.1]) fun i x y t e1 e2 et => ?_
  obtain ⟨a, b, ea, eb, rfl⟩ := zpT_get et
  exact ⟨a, b, rfl, g2.2 i x a e1 ea, g2'.2 i y b e2 eb⟩
/-- reversed(list) -/
def fiV (f : VA) : VC := fun G z Q => f G z fun rs z1 => ∃ r, rs = [r] ∧ frz r z1 fun t z2 => ∃ ts, t = .lst ts ∧ Q ts.reverse z2
theorem ri_rev {t : TA} {f : VA} (h : RA K E t f) : RI K E (iRev K t) (fiV f) := by
  intro B F α z σ H G Qv Q er hf C k
  refine h B F α z σ H G _ _ er hf C fun F1 α1 z1 rs vs H1 q1 x1 C1 r1 => ?_
  obtain ⟨r, rfl, q1⟩ := q1
  obtain ⟨v, rfl, h1⟩ := r1.one
  obtain ⟨F2, t, z2, ⟨ts, rfl, q⟩, x2, C2, r2⟩ := frz_ok q1 C1 h1
  obtain ⟨p, xs, rfl, g1, _, g2⟩ := Rp.inv_lst r2
  refine ⟨p, xs, rfl, .of (C2.same _ _ g1), k F2 α1 z2 _ _ H1 q (x1.trans x2) C2 ?_⟩
  have w := walk_rev (K := K) (a := p) (xs := xs)
  have ln : ts.reverse.length = xs.length := by rw [List.length_reverse, g2.1]
  refine ⟨fun i H s hi => w.goes i H (by rw [← ln]; exact hi) (.of (s _ _ g1)), fun H s => by rw [ln]; exact w.stops H (.of (s _ _ g1)), fun i H x H' s hi y => .inl ?_⟩
  rw [ln] at hi
  obtain ⟨e, ex⟩ := w.yields i H x H' hi (.of (s _ _ g1)) y
  refine ⟨e, fun t et => ?_⟩
  rw [List.getElem?_reverse (by rw [← g2.1]; exact hi), ← g2.1] at et
  exact g2.2 _ x t ex et
/-- an own instance whose __iter__ walks the tuple of its field -/
def fiOwn (C : Addr) (x : Str) (f : VE) : VC := fun G z Q => f G z fun r z1 => ∃ fs ts, r = .p (.ins C fs) ∧ fs.lookup x = some (.tup ts) ∧ Q ts z1
theorem ri_own {C : Addr} {x : Str} {t : TE} {f : VE} (h : RE K E t f) : RI K E (iOwn K C x t) (fiOwn C x f) := by
  intro B F α z σ H G Qv Q er hf C k
  refine h B F α z σ H G _ _ er hf C fun F1 α1 z1 r v H1 q1 x1 C1 r1 => ?_
  obtain ⟨fs, ts, rfl, e, q⟩ := q1
  obtain ⟨p, dx, vs, rfl, g1, g2⟩ := Rp.inv_ins r1
  obtain ⟨w, e2, r2⟩ := (g2.lookup (f := x)).1 _ e
  obtain ⟨p', xs, rfl, g3, _, g4⟩ := Rp.inv_tup r2
  exact ⟨p, dx, vs, p', xs, rfl, C1.same _ _ g1, e2, C1.same.seqT g3, k F1 α1 z1 ts _ H1 q x1 C1 (itok_tup g3 g4)⟩
end
end VL

set_option maxRecDepth 100000
set_option maxHeartbeats 4000000
/-! # x in a, a an own instance with __contains__ -/
namespace L2
open PySem PySem.Spec PyProof.Rows PySem.W
theorem contains_fn {M : Model} {A : Around} {E : Value → Shared → Prop} {s : Shared} {K : Frag} {ox : Obj} {od : Option Obj} {a C f : Addr} {x : Value} {Q : Bool → Shared → Prop} (X : K.In s.heap) (I : InstAt s.heap a ox C od)
    (hs : findIn K (.ref C) "__contains__" = some (some (.ref f))) (hf : typeIn K (.ref f) = some (.type "function")) (h : wpAny M A (call (.ref f) [.ref a, x]) (fun v s' => wpAny M A (truthy v) Q E s') E s) :
    wpAny M A (contains (.ref a) x) Q E s := by
  unfold contains
  refine wpAny_holding ?_
  refine wpAny_bind (wpAny_bind (I.type.here ((looks_findIn X hs).here ?_)))
  show wpAny M A (if (some (Value.ref f) == some Value.none) = true then _ else _) Q E s
  rw [if_neg (show ¬ ((some (Value.ref f) == some Value.none) = true) from Bool.false_ne_true)]
  refine wpAny_bind ?_
  unfold callSpecialUnlessNone?
  refine wpAny_bind (wpAny_bind (I.type.here ((looks_findIn X hs).here ?_)))
  refine wpAny_holding (wpAny_bind ((bind_fn X _ hf).here ?_))
  show wpAny M A (if (Value.ref f == Value.none) = true then _ else _) _ E s
  rw [if_neg (show ¬ ((Value.ref f == Value.none) = true) from Bool.false_ne_true)]
  exact wpAny_bind (wpAny_mono h (fun v s' q => wpAny_pure q) fun _ _ z => z)
section
variable {X : Cx} {CX : CXT} {C f : Addr} {ps : List Str} {sp : Sp} {E : XK} {k : Nat}
def rOwnIn (C : Addr) (sp : Sp) (E : XK) : R2 := fun x y H Q => ∃ a dx fs, y = .ref a ∧ H a = some (.ins C dx fs) ∧ sp [.ref a, x] H (fun v H' => ∃ b, v = .bl b ∧ Q (.bl b) H') E
theorem op_in_own (O : Ok X.prog X.w X.K X.mg X.base CX k f ps sp) (W : findIn X.K (.ref C) "__contains__" = some (some (.ref f)) ∧ isFn X.K (.ref f) = true) (hr : Room k X.A) (hx : Passes CX X E) : OpR X (compareOp .In) (rOwnIn C sp E) := by
  obtain ⟨fd, F, hb, _⟩ := O.ex
  intro pins s σ H x y v u Q I rx ry h
  obtain ⟨a, dx, fs, rfl, ha, hsp⟩ := h
  cases ry
  obtain ⟨od, J⟩ := inst_of I.hok ha
  show wpAny _ _ (do return Value.bool (← contains (Value.ref a) v)) _ _ s
  refine wpAny_bind (contains_fn I.kIn J W.1 (beq_iff_eq.mp W.2) (wpAny_mono (run_fn F hr hb .nil hx I (us := [.ref a, v]) (vs := [.ref a, x]) (.cons rfl (.cons rx .nil)) hsp) (fun r s' q => ?_) fun _ _ z => z))
  obtain ⟨z, H', I', rz, b, rfl, q⟩ := q
  obtain rfl : r = Value.bool b := rz
  exact wpAny_truthy_bool (wpAny_pure ⟨.bl b, H', I', rfl, q⟩)
end
end L2

set_option maxRecDepth 100000
set_option maxHeartbeats 4000000
/-! # Loops, comprehensions and calls, told by trees (2) -/
namespace VL
open PySem PySem.Spec PyProof.Rows L2
section
variable {K : PySem.W.Frag} {E : XK} {B F F' : Hp} {α α' β : List Addr} {z z' : Z} {σ : L2.St} {H H' : Hp}
/-- for: I tells the state by the turn -/
@[irreducible] def forI (g : VG) (fb : VS) (n0 : Nat) (its : List Tr) (G : Gx) (D : VEnds) (z1 : Z) : Prop := ∃ I : Nat → Z → Prop, Wk n0 z1 (I 0) ∧
  (∀ i t z, its[i]? = some t → I i z → g t z fun z2 => fb G { nx := fun z' => Wk n0 z' (I (i + 1)), ct := fun z' => Wk n0 z' (I (i + 1)), bk := D.nx, rt := D.rt } z2) ∧ ∀ z, I its.length z → D.nx z
def fFor (fi : VC) (g : VG) (fb : VS) : VS := fun G D z => fi G z fun its z1 => forI g fb z.c.length its G D z1
theorem rs_for {wi : TI} {g : TG} {tb : TS} {fi : VC} {fg : VG} {fb : VS} (hi : RI K E wi fi) (hg : RG K g fg) (hb : RS K E tb fb) : RS K E (tFor wi g tb) (fFor fi fg fb) := by
  intro B F α z σ H G Dv D er hf C eo
  refine hi B F α z σ H G _ _ er hf C fun F1 α1 z1 its J H1 q1 x1 C1 io => ?_
  unfold forI at q1
  obtain ⟨I, h0, hs, hd⟩ := q1
  obtain ⟨s1, ⟨β, rfl⟩, n1⟩ := id x1
  have ln : z.c.length = α.length := C.len.symm
  rw [ln] at h0 hs
  -- a state of the loop
  have wk : ∀ {F2 : Hp} {γ : List Addr} {z2 : Z} {σ2 : L2.St} {H2 : Hp} {i : Nat}, Wk α.length z2 (I i) → XTE B F (α) F2 (α ++ γ) → Cor K B F2 (α ++ γ) z2 σ2 H2 → ∃ z3, I i z3 ∧ Cor K B F2 α z3 σ2 H2 ∧ XTE B F α F2 α := by
    intro F2 γ z2 σ2 H2 i h x C2
    obtain ⟨e, he, hI⟩ := h.out
    exact ⟨_, hI, C2.wk he, x.1, ⟨[], by rw [List.append_nil]⟩, x.2.2⟩
  obtain ⟨z0, hI0, C0, x0⟩ := wk h0 x1 C1
  refine ⟨fun i m σ' H' => m = its.length - i ∧ i ≤ its.length ∧ ∃ F2 z2, Same F1 F2 ∧ XTE B F α F2 α ∧ Cor K B F2 α z2 σ' H' ∧ I i z2, ⟨its.length, rfl, Nat.zero_le _, F1, z0, .refl _, x0, C0, hI0⟩, ?_⟩
  rintro i m σ' H' ⟨rfl, hi, F2, z2, s12, x2, C2, hI⟩
  have sH := s12.trans C2.same
  by_cases hlt : i < its.length
  · refine .inr ⟨io.go i H' sH hlt, fun σ3 H3 => ∃ F3 z3, Same F1 F3 ∧ XTE B F α F3 α ∧ Cor K B F3 α z3 σ3 H3 ∧ I (i + 1) z3, fun σ3 H3 h => ⟨its.length - (i + 1), by omega, rfl, hlt, h⟩, fun x H3 y => ?_⟩
    have et : its[i]? = some its[i] := List.getElem?_eq_getElem hlt
    have body := hs i _ z2 et hI
    have fin : ∀ (F3 : Hp) (H3 : Hp), Same F2 F3 → XTE B F α F3 α → Cor K B F3 α z2 σ' H3 → Rp K F3 x its[i] → g x σ' H3 fun σ2 H2 => tb { D with nx := fun σ3 H3 => ∃ F3 z3, Same F1 F3 ∧ XTE B F α F3 α ∧ Cor K B F3 α z3 σ3 H3 ∧ I (i + 1) z3, ct := fun σ3 H3 => ∃ F3 z3, Same F1 F3 ∧ XTE B F α F3 α ∧ Cor K B F3 α z3 σ3 H3 ∧ I (i + 1) z3, bk := D.nx } σ2 H2 := by
      intro F3 H3 s23 x3 C3 rp
      refine hg B F3 α z2 σ' H3 x its[i] _ _ body C3 rp fun F4 α4 z4 σ4 H4 q4 x4 C4 => ?_
      have next : ∀ (F5 : Hp) (α5 : List Addr) (z5 : Z) (σ5 : L2.St) (H5 : Hp), Wk α.length z5 (I (i + 1)) → XTE B F4 α4 F5 α5 → Cor K B F5 α5 z5 σ5 H5 → ∃ F3 z3, Same F1 F3 ∧ XTE B F α F3 α ∧ Cor K B F3 α z3 σ5 H5 ∧ I (i + 1) z3 := by
        intro F5 α5 z5 σ5 H5 h5 x5 C5
        have xx := (x3.trans x4).trans x5
        obtain ⟨_, ⟨γ, rfl⟩, _⟩ := id xx
        obtain ⟨z6, hI6, C6, x6⟩ := wk h5 xx C5
        exact ⟨F5, z6, ((s12.trans s23).trans x4.1).trans x5.1, x6, C6, hI6⟩
      exact hb B F4 α4 z4 σ4 H4 G _ _ er q4 C4 ⟨fun F5 α5 z5 σ5 H5 h5 x5 C5 => next F5 α5 z5 σ5 H5 h5 x5 C5, fun F5 α5 z5 σ5 H5 r v h5 x5 C5 r5 => eo.rt F5 α5 z5 σ5 H5 r v h5 ((x3.trans x4).trans x5) C5 r5,
        fun F5 α5 z5 σ5 H5 h5 x5 C5 => eo.nx F5 α5 z5 σ5 H5 h5 ((x3.trans x4).trans x5) C5, fun F5 α5 z5 σ5 H5 h5 x5 C5 => next F5 α5 z5 σ5 H5 h5 x5 C5⟩
    rcases io.yld i H' x H3 sH hlt y with ⟨rfl, hr⟩ | ⟨T, xs, rfl, hT, rfl, lx, hr⟩
    · exact fin F2 H3 (.refl _) x2 C2 ((hr _ et).same s12)
    · obtain ⟨C3, x3⟩ := C2.fz (.tup xs) hT
      obtain ⟨ts, e, rq⟩ := hr _ et
      rw [e] at fin
      have rq3 := rq.same (s12.trans x3.1)
      exact fin _ _ x3.1 (x2.trans x3) C3 (Rp.tup (.of upd_same) lx rq3.1 rq3.2)
  · have e : i = its.length := by omega
    subst e
    exact .inl ⟨io.stop H' sH, eo.nx F2 α z2 σ' H' (hd z2 hI) x2 C2⟩
/-! ### comprehensions -/
def wipeE (e : List (Option Sv)) : List Nat → List (Option Sv)
  | [] => e
  | v :: vs => (wipeE e vs).set v none
theorem wipeE_len (e : List (Option Sv)) : ∀ vs, (wipeE e vs).length = e.length
  | [] => rfl
  | v :: vs => by unfold wipeE; rw [List.length_set, wipeE_len e vs]
theorem wipe_not {σ : L2.St} {i : Nat} : ∀ {vs : List Nat}, i ∉ vs → (wipe σ vs)[i]? = σ[i]?
  | [], h => rfl
  | v :: vs, h => by
    rw [List.mem_cons, not_or] at h
    unfold wipe
    rw [List.getElem?_set_ne (fun q => h.1 q.symm), wipe_not h.2]
theorem wipeE_get {e : List (Option Sv)} {i : Nat} {r : Sv} : ∀ {vs : List Nat}, (wipeE e vs)[i]? = some (some r) → e[i]? = some (some r) ∧ i ∉ vs
  | [], h => ⟨h, by simp⟩
  | v :: vs, h => by
    unfold wipeE at h
    by_cases hi : v = i
    · subst hi
      by_cases hv : v < (wipeE e vs).length
      · rw [List.getElem?_set_self hv] at h; cases h
      · rw [List.getElem?_eq_none (by simpa using hv)] at h; cases h
    · rw [List.getElem?_set_ne hi] at h
      obtain ⟨h1, h2⟩ := wipeE_get h
      exact ⟨h1, by simp only [List.mem_cons, not_or]; exact ⟨fun e => hi e.symm, h2⟩⟩
theorem Cor.wipe (C : Cor K B F α z σ H) (vs : List Nat) : Cor K B F α ⟨wipeE z.e vs, z.c⟩ (L2.wipe σ vs) H :=
  ⟨C.keep, C.same, C.len, C.nd, C.cell, by rw [wipe_length, C.elen]; exact (wipeE_len _ _).symm, fun i r e => by
    obtain ⟨e1, e2⟩ := wipeE_get e
    obtain ⟨v, g1, g2⟩ := C.env i r e1
    exact ⟨v, by rw [wipe_not e2]; exact g1, g2⟩⟩
theorem wipe_at (σ : L2.St) (i : Nat) : ∀ vs : List Nat, (wipe σ vs)[i]? = if i ∈ vs then (if i < σ.length then some none else none) else σ[i]?
  | [] => by simp [wipe]
  | v :: vs => by
    unfold wipe
    by_cases q : v = i
    · subst q
      rw [if_pos (List.mem_cons_self ..), List.getElem?_set, if_pos rfl, wipe_length]
    · rw [List.getElem?_set_ne q, wipe_at σ i vs]
      have : i ∈ v :: vs ↔ i ∈ vs := by rw [List.mem_cons]; exact ⟨fun h => h.elim (fun e => absurd e.symm q) id, .inr⟩
      by_cases w : i ∈ vs
      · rw [if_pos w, if_pos (this.mpr w)]
      · rw [if_neg w, if_neg (fun h => w (this.mp h))]
theorem wipe_ext {σ τ : L2.St} {vs : List Nat} (hl : σ.length = τ.length) (h : ∀ i, i ∉ vs → σ[i]? = τ[i]?) : wipe σ vs = wipe τ vs := by
  refine List.ext_getElem? fun i => ?_
  rw [wipe_at, wipe_at, hl]
  by_cases w : i ∈ vs
  · rw [if_pos w, if_pos w]
  · rw [if_neg w, if_neg w, h i w]
theorem wipe_wipe {σ : L2.St} {vs : List Nat} : wipe (wipe σ vs) vs = wipe σ vs := wipe_ext (wipe_length _ _) fun i h => wipe_not h
/-- the target stores in slots of vs alone -/
def OnlyIn (vs : List Nat) (g : TG) : Prop := ∀ v σ H Q, g v σ H Q → g v σ H fun σ' H' => wipe σ' vs = wipe σ vs ∧ Q σ' H'
def OnlyIns (vs : List Nat) (g : TGs) : Prop := ∀ v σ H Q, g v σ H Q → g v σ H fun σ' H' => wipe σ' vs = wipe σ vs ∧ Q σ' H'
theorem only_name {vs : List Nat} {i : Nat} (h : i ∈ vs) : OnlyIn vs (gName i) := fun v σ H Q q =>
  ⟨wipe_ext (List.length_set ..) fun j hj => List.getElem?_set_ne fun e => hj (by rw [← e]; exact h), q⟩
theorem only_nil {vs : List Nat} : OnlyIns vs gNil := fun v σ H Q q => ⟨q.1, rfl, q.2⟩
/-- a target whose reading keeps what holds at its end -/
def MonoG (g : TG) : Prop := ∀ v σ H (Q Q' : L2.St → Hp → Prop), (∀ a b, Q a b → Q' a b) → g v σ H Q → g v σ H Q'
def MonoGs (g : TGs) : Prop := ∀ v σ H (Q Q' : L2.St → Hp → Prop), (∀ a b, Q a b → Q' a b) → g v σ H Q → g v σ H Q'
theorem mono_name {i : Nat} : MonoG (gName i) := fun v σ H Q Q' h q => h _ _ q
theorem mono_nil : MonoGs gNil := fun v σ H Q Q' h q => ⟨q.1, h _ _ q.2⟩
theorem mono_cons {g : TG} {u : TGs} (h1 : MonoG g) (h2 : MonoGs u) : MonoGs (gCons g u) := fun vs σ H Q Q' h q => by
  obtain ⟨v, r, e, q⟩ := q
  exact ⟨v, r, e, h1 _ _ _ _ _ (fun a b q => h2 _ _ _ _ _ h q) q⟩
theorem mono_tup {K : PySem.W.Frag} {n : Nat} {u : TGs} (h : MonoGs u) : MonoG (gTup K n u) := fun v σ H Q Q' hq q => by
  obtain ⟨a, xs, e1, e2, e3, q⟩ := q
  exact ⟨a, xs, e1, e2, e3, h _ _ _ _ _ hq q⟩
theorem only_cons {vs : List Nat} {g : TG} {u : TGs} (m1 : MonoG g) (m2 : MonoGs u) (h1 : OnlyIn vs g) (h2 : OnlyIns vs u) : OnlyIns vs (gCons g u) := fun ws σ H Q q => by
  obtain ⟨v, r, e, q⟩ := q
  refine ⟨v, r, e, m1 _ _ _ _ _ (fun σ1 H1 q1 => ?_) (h1 _ _ _ _ q)⟩
  exact m2 _ _ _ _ _ (fun σ2 H2 q2 => ⟨q2.1.trans q1.1, q2.2⟩) (h2 _ _ _ _ q1.2)
theorem only_tup {vs : List Nat} {K : PySem.W.Frag} {n : Nat} {u : TGs} (h : OnlyIns vs u) : OnlyIn vs (gTup K n u) := fun v σ H Q q => by
  obtain ⟨a, xs, e1, e2, e3, q⟩ := q
  exact ⟨a, xs, e1, e2, e3, h _ _ _ _ q⟩
def fYes : VT := fun _ z Q => Q true z
theorem rt_yes : RT K E tYes fYes := by
  intro B F α z σ H G Qv Q er h C k
  exact k F α z true H h .refl C
/-- the turns of a comprehension: P tells what has been gathered, by the turn -/
@[irreducible] def lcI (g : VG) (ft : VT) (fe : VE) (vs : List Nat) (its : List Tr) (G : Gx) (z1 : Z) (Q : List Tr → Z → Prop) : Prop := its.length ≤ sizeLine ∧ ∃ P : Nat → List Tr → Prop, P 0 [] ∧
  (∀ i t acc, its[i]? = some t → P i acc → g t ⟨wipeE z1.e vs, z1.c ++ [.lst acc]⟩ fun z2 => ft G z2 fun b z3 => z3.c = z1.c ++ [.lst acc] ∧
    (b = true → fe G z3 fun r z4 => z4.c = z1.c ++ [.lst acc] ∧ ∃ u, r = .p u ∧ P (i + 1) (acc ++ [u])) ∧ (b = false → P (i + 1) acc)) ∧ ∀ acc, P its.length acc → acc.length ≤ its.length → Q acc z1
def fLc (fi : VC) (g : VG) (ft : VT) (fe : VE) (vs : List Nat) : VC := fun G z Q => fi G z fun its z1 => lcI g ft fe vs its G z1 Q
def del (D : Addr) (H : Hp) : Hp := fun b => if b = D then none else H b
theorem del_at {D : Addr} : del D H D = none := if_pos rfl
theorem upd_del {D : Addr} {o : HO} (h : H D = some o) : upd (del D H) D o = H := by
  funext b
  unfold upd del
  by_cases q : b = D
  · rw [if_pos q, q]; exact h.symm
  · rw [if_neg q, if_neg q]
theorem Cor.unmk {e e0 : List (Option Sv)} {c : List Cell} {acc : List Tr} {D : Addr} {σ σ0 : L2.St} {F0 H0 : Hp} (C : Cor K B F (α ++ [D]) ⟨e, c ++ [.lst acc]⟩ σ H) (C0 : Cor K B F0 α ⟨e0, c⟩ σ0 H0) (s : Same F0 F) :
    (∃ xs, H D = some (.lst xs) ∧ Rq K F xs acc) ∧ Cor K B F α ⟨e0, c⟩ σ0 (del D H) := by
  have ln : α.length = c.length := C0.len
  have eD : (α ++ [D])[α.length]? = some D := List.getElem?_concat_length
  have ec : (c ++ [Cell.lst acc])[α.length]? = some (.lst acc) := by rw [ln]; exact List.getElem?_concat_length
  obtain ⟨hF, hB, xs, hx, hq⟩ := C.cell α.length D _ eD ec
  refine ⟨⟨xs, hx, hq⟩, fun b o g => ?_, fun b o g => ?_, ln, C0.nd, fun k a d ea ed => ?_, C0.elen, fun i r ee => ?_⟩
  · unfold del; rw [if_neg (fun q => by rw [q, hB] at g; cases g)]; exact C.keep b o g
  · unfold del; rw [if_neg (fun q => by rw [q, hF] at g; cases g)]; exact C.same b o g
  · have hk : k < α.length := (List.getElem?_eq_some_iff.mp ea).1
    have ed : c[k]? = some d := ed
    have ne : a ≠ D := fun q => by
      have := C.nd
      rw [List.nodup_append] at this
      exact this.2.2 a (List.mem_of_getElem? ea) D (by simp) q
    exact (C.cell k a d (by rw [List.getElem?_append_left hk]; exact ea) (by show (c ++ [Cell.lst acc])[k]? = _; rw [List.getElem?_append_left (by omega)]; exact ed)).mono (.refl _) (fun _ _ _ h q => h (List.mem_append_left _ q)) (fun _ _ _ _ _ h => h) (fun b o h y => by unfold del; rw [if_neg (y.elim (fun y => y ▸ ne) (fun y w => y (by rw [w]; simp)))]; exact h)
  · obtain ⟨v, g1, g2⟩ := C0.env i r ee
    refine ⟨v, g1, ?_⟩
    cases r with
    | p t => exact Rp.same g2 s
    | c k => exact g2
theorem rc_lc {wi : TI} {g : TG} {tt : TT} {te : TE} {vs : List Nat} {fi : VC} {fg : VG} {ft : VT} {fe : VE} (hi : RI K E wi fi) (hg : RG K g fg) (ho : OnlyIn vs g) (ht : RT K E tt ft) (he : RE K E te fe) : RC K E (tLc wi g tt te vs) (fLc fi fg ft fe vs) := by
  intro B F α z σ H G Qv Q er hf C k
  refine hi B F α z σ H G _ _ er hf C fun F1 α1 z1 its J H1 q1 x1 C1 io => ?_
  unfold lcI at q1
  obtain ⟨lz, P, p0, hs, hd⟩ := q1
  intro D hD
  obtain ⟨C2, x2⟩ := C1.cl (xs := []) (ts := []) hD .nil
  obtain ⟨e1, c1⟩ := z1
  refine ⟨fun i m H' => m = its.length - i ∧ i ≤ its.length ∧ ∃ F2 acc, Same F1 F2 ∧ NoL B F1 F2 ∧ Cor K B F2 (α1 ++ [D]) ⟨wipeE e1 vs, c1 ++ [.lst acc]⟩ (wipe σ vs) H' ∧ P i acc ∧ acc.length ≤ i, ⟨its.length, rfl, Nat.zero_le _, F1, [], .refl _, .refl, C2.wipe vs, p0, Nat.zero_le _⟩, ?_⟩
  rintro i m H' ⟨rfl, hil, F2, acc, s12, n12, C3, hp, la⟩
  have sH := s12.trans C3.same
  by_cases hlt : i < its.length
  · refine .inr ⟨io.go i H' sH hlt, fun H3 => ∃ F3 acc, Same F1 F3 ∧ NoL B F1 F3 ∧ Cor K B F3 (α1 ++ [D]) ⟨wipeE e1 vs, c1 ++ [.lst acc]⟩ (wipe σ vs) H3 ∧ P (i + 1) acc ∧ acc.length ≤ i + 1, fun H3 h => ⟨its.length - (i + 1), by omega, rfl, hlt, h⟩, fun x H3 y => ?_⟩
    have et : its[i]? = some its[i] := List.getElem?_eq_getElem hlt
    have body := hs i _ acc et hp
    have fin : ∀ (F3 H3 : Hp), Same F2 F3 → NoL B F2 F3 → Cor K B F3 (α1 ++ [D]) ⟨wipeE e1 vs, c1 ++ [.lst acc]⟩ (wipe σ vs) H3 → Rp K F3 x its[i] → g x (wipe σ vs) H3 fun σ2 H2 => wipe σ2 vs = wipe σ vs ∧ tt σ2 H2 fun b H4 =>
        if b = true then te σ2 H4 fun y H5 => ∃ acc, H5 D = some (.lst acc) ∧ acc.length < sizeLine ∧ ∃ F3 acc_1, Same F1 F3 ∧ NoL B F1 F3 ∧ Cor K B F3 (α1 ++ [D]) ⟨wipeE e1 vs, c1 ++ [.lst acc_1]⟩ (wipe σ vs) (upd H5 D (.lst (acc ++ [y]))) ∧ P (i + 1) acc_1 ∧ acc_1.length ≤ i + 1
        else ∃ F3 acc, Same F1 F3 ∧ NoL B F1 F3 ∧ Cor K B F3 (α1 ++ [D]) ⟨wipeE e1 vs, c1 ++ [.lst acc]⟩ (wipe σ vs) H4 ∧ P (i + 1) acc ∧ acc.length ≤ i + 1 := by
      intro F3 H3 s23 n23 C4 rp
      have := ho x (wipe σ vs) H3 _ (hg B F3 _ _ _ H3 x its[i] _ (fun σ2 H2 => tt σ2 H2 fun b H4 =>
        if b = true then te σ2 H4 fun y H5 => ∃ acc, H5 D = some (.lst acc) ∧ acc.length < sizeLine ∧ ∃ F3 acc_1, Same F1 F3 ∧ NoL B F1 F3 ∧ Cor K B F3 (α1 ++ [D]) ⟨wipeE e1 vs, c1 ++ [.lst acc_1]⟩ (wipe σ vs) (upd H5 D (.lst (acc ++ [y]))) ∧ P (i + 1) acc_1 ∧ acc_1.length ≤ i + 1
        else ∃ F3 acc, Same F1 F3 ∧ NoL B F1 F3 ∧ Cor K B F3 (α1 ++ [D]) ⟨wipeE e1 vs, c1 ++ [.lst acc]⟩ (wipe σ vs) H4 ∧ P (i + 1) acc ∧ acc.length ≤ i + 1) body C4 rp fun F5 α5 z5 σ5 H5 q5 x5 C5 => ?_)
      · rw [wipe_wipe] at this; exact this
      refine ht B F5 α5 z5 σ5 H5 G _ _ er q5 C5 fun F6 α6 z6 b H6 q6 x6 C6 => ?_
      obtain ⟨ec6, qt, qf⟩ := q6
      -- the cells are as they were
      have same_al : ∀ {F' : Hp} {α' : List Addr} {z' : Z} {σ' : L2.St} {H' : Hp}, z'.c = c1 ++ [.lst acc] → XTE B F3 (α1 ++ [D]) F' α' → Cor K B F' α' z' σ' H' → α' = α1 ++ [D] := by
        intro F' α' z' σ' H' ec x C'
        obtain ⟨_, ⟨γ, rfl⟩, _⟩ := x
        have l1 := C'.len
        rw [ec] at l1
        have l0 : α1.length = c1.length := C1.len
        simp only [List.length_append, List.length_cons, List.length_nil] at l1
        have : γ = [] := List.length_eq_zero_iff.mp (by omega)
        rw [this, List.append_nil]
      have x36 := x5.trans x6
      have back : ∀ {F' : Hp} {z' : Z} {σ' : L2.St} {H' : Hp}, z'.c = c1 ++ [.lst acc] → Same F2 F' → Cor K B F' (α1 ++ [D]) z' σ' H' → Cor K B F' (α1 ++ [D]) ⟨wipeE e1 vs, c1 ++ [.lst acc]⟩ (wipe σ vs) H' := by
        intro F' z' σ' H' ec s C'
        obtain ⟨e', c'⟩ := z'
        have ec : c' = c1 ++ [.lst acc] := ec
        subst ec
        refine ⟨C'.keep, C'.same, C'.len, C'.nd, C'.cell, C3.elen, fun i r ee => ?_⟩
        obtain ⟨v, g1, g2⟩ := C3.env i r ee
        refine ⟨v, g1, ?_⟩
        cases r with
        | p t => exact Rp.same g2 s
        | c k => exact g2
      cases b with
      | false =>
        obtain rfl := same_al ec6 x36 C6
        exact iteF ⟨F6, acc, (s12.trans s23).trans x36.1, (n12.trans n23).trans x36.2.2, back ec6 (s23.trans x36.1) C6, qf rfl, by omega⟩
      | true =>
        refine iteT (he B F6 α6 z6 σ5 H6 G _ _ er (qt rfl) C6 fun F7 α7 z7 r v H7 q7 x7 C7 r7 => ?_)
        obtain ⟨ec7, u, rfl, pu⟩ := q7
        have x37 := x36.trans x7
        obtain rfl := same_al ec7 x37 C7
        have C8 := back ec7 (s23.trans x37.1) C7
        have eD : (α1 ++ [D])[α1.length]? = some D := List.getElem?_concat_length
        have l0 : α1.length = c1.length := C1.len
        have ecl : (c1 ++ [Cell.lst acc])[α1.length]? = some (.lst acc) := by rw [l0]; exact List.getElem?_concat_length
        obtain ⟨hF, hB, xs, hx, hq⟩ := C8.cell _ D _ eD ecl
        refine ⟨xs, hx, by rw [hq.1]; omega, F7, acc ++ [u], (s12.trans s23).trans x37.1, (n12.trans n23).trans x37.2.2, ?_, pu, by rw [List.length_append]; show _ ≤ _; simp only [List.length_cons, List.length_nil]; omega⟩
        have C9 := C8.upc eD ecl (hq.append (Rq.cons r7 .nil))
        have : (⟨wipeE e1 vs, c1 ++ [Cell.lst acc]⟩ : Z).put α1.length (acc ++ [u]) = ⟨wipeE e1 vs, c1 ++ [.lst (acc ++ [u])]⟩ := by
          unfold Z.put
          rw [l0, List.set_append_right _ _ (Nat.le_refl _), Nat.sub_self]
          rfl
        rw [this] at C9
        exact C9
    rcases io.yld i H' x H3 sH hlt y with ⟨rfl, hr⟩ | ⟨T, xs, rfl, hT, rfl, lx, hr⟩
    · exact fin F2 H3 (.refl _) .refl C3 ((hr _ et).same s12)
    · obtain ⟨C4, x4⟩ := C3.fz (.tup xs) hT
      obtain ⟨ts, e, rq⟩ := hr _ et
      rw [e] at fin
      have rq3 := rq.same (s12.trans x4.1)
      exact fin _ _ x4.1 x4.2.2 C4 (Rp.tup (.of upd_same) lx rq3.1 rq3.2)
  · have e : i = its.length := by omega
    subst e
    refine .inl ⟨io.stop H' sH, ?_⟩
    obtain ⟨⟨xs, hx, hq⟩, C5⟩ := C3.unmk C1 s12
    rw [← upd_del hx]
    exact k F2 α1 ⟨e1, c1⟩ acc xs D (del D H') (hd acc hp (by omega)) (x1.trans ⟨s12, ⟨[], by rw [List.append_nil]⟩, n12⟩) C5 hq del_at (by rw [hq.1]; omega)
end
end VL

set_option maxRecDepth 100000
set_option maxHeartbeats 4000000
/-! # Promises told by trees -/
namespace VL
open PySem PySem.Spec PyProof.Rows L2
/-- what a def gives back: a tree, or a new list -/
inductive Rr where
  | t (t : Tr)
  | l (ts : List Tr)
def RvR (K : PySem.W.Frag) (H F' H' : Hp) (v : V) : Rr → Prop
  | .t t => Rp K F' v t
  | .l ts => ∃ a xs, v = .ref a ∧ H a = none ∧ F' a = none ∧ H' a = some (.lst xs) ∧ Rq K F' xs ts ∧ xs.length ≤ sizeLine
abbrev Pv := List Tr → (Rr → Prop) → Gx → Prop
/-- a promise told by trees: it changes nothing -/
def spV (K : PySem.W.Frag) (P : Pv) : Sp := fun vs H Q E => ∃ (F : Hp) (ts : List Tr) (PP : Rr → Prop) (GG : Gx), Same F H ∧ Rq K F vs ts ∧ P ts PP GG ∧ ErOk H E GG ∧
  ∀ r v F' H', PP r → Same F F' → NoL H F F' → Same F' H' → Same H H' → RvR K H F' H' v r → Q v H'
section
variable {K : PySem.W.Frag} {E : XK} {B F F' : Hp} {α α' β : List Addr} {z z' : Z} {σ : L2.St} {H H' : Hp}
theorem ErOk.same {G : Gx} (h : ErOk B E G) (s : Same B H) : ErOk H E G := fun C o g => (h C o g).same s
/-- the state behind a call -/
theorem Cor.after (C : Cor K B F α z σ H) (sF : Same F F') (n : NoL H F F') (s' : Same F' H') (s : Same H H') : Cor K B F' α z σ H' ∧ XTE B F α F' α := by
  have x : XTE B F α F' α := ⟨sF, ⟨[], by rw [List.append_nil]⟩, fun a xs m e => (n a xs m e).imp id (fun h => C.keep.free h)⟩
  refine ⟨⟨C.keep.trans s, s', C.len, C.nd, fun k a c e f => ?_, C.elen, fun i r e => ?_⟩, x⟩
  · refine (C.cell k a c e f).mono sF (fun _ _ _ h => h) (fun b u m hy _ hf => ?_) (fun _ _ h _ => s _ _ h)
    cases q : F' b with
    | none => rfl
    | some o =>
      have e1 := s' b o q
      rw [s b _ hy] at e1
      cases e1
      rcases n b u m q with h | h
      · rw [hf] at h; cases h
      · rw [hy] at h; cases h
  · obtain ⟨v, e1, e2⟩ := C.env i r e
    exact ⟨v, e1, e2.ext x⟩
theorem Same.del {a : Addr} (s : Same H H') (h : H a = none) : Same H (VL.del a H') := fun b o e => by
  unfold VL.del; rw [if_neg (fun q => by rw [q, h] at e; cases e)]; exact s b o e
theorem callV {P : Pv} {vs : List V} {ts : List Tr} {PP : Rr → Prop} {G : Gx} {Q : VK} (C : Cor K B F α z σ H) (er : ErOk B E G) (hv : Rq K F vs ts) (hp : P ts PP G)
    (kt : ∀ F' t v H', PP (.t t) → XTE B F α F' α → Cor K B F' α z σ H' → Rp K F' v t → Q v H')
    (kl : ∀ F' us xs a H', PP (.l us) → XTE B F α F' α → Cor K B F' α z σ H' → Rq K F' xs us → H' a = none → xs.length ≤ sizeLine → Q (.ref a) (upd H' a (.lst xs))) : spV K P vs H Q E := by
  refine ⟨F, ts, PP, G, C.same, hv, hp, er.same C.keep, fun r v F' H' q sF n s' s rr => ?_⟩
  cases r with
  | t t =>
    obtain ⟨C', x⟩ := C.after sF n s' s
    exact kt F' t v H' q x C' rr
  | l us =>
    obtain ⟨a, xs, rfl, ha, hF, hx, rq, lx⟩ := rr
    obtain ⟨C', x⟩ := C.after sF n (Same.del s' hF) (Same.del s ha)
    rw [← upd_del hx]
    exact kl F' us xs a _ q x C' rq del_at lx
/-- whom a call's errors go to -/
inductive EE (E : XK) : XK → (Gx → Gx) → Prop where
  | same : EE E E (fun G => G)
  | none : EE E E0 (fun _ _ _ => False)
  | none' : EE E (fun _ _ _ => False) (fun _ _ _ => False)
theorem EE.ok {E' : XK} {g : Gx → Gx} (h : EE E E' g) {G : Gx} (er : ErOk B E G) : ErOk B E' (g G) := by
  cases h with
  | same => exact er
  | none => exact fun _ _ q => q.elim
  | none' => exact fun _ _ q => q.elim
def prs : List Sv → Option (List Tr)
  | [] => some []
  | .p t :: rs => (prs rs).map (t :: ·)
  | .c _ :: _ => none
theorem prs_ok : ∀ {rs : List Sv} {ts : List Tr} {vs : List V}, prs rs = some ts → Rvs K F α vs rs → Rq K F vs ts
  | [], ts, vs, e, h => by cases e; cases h; exact .nil
  | .p t :: rs, ts, vs, e, h => by
    cases h with
    | cons h1 h2 =>
      have e : (prs rs).map (t :: ·) = some ts := e
      cases q : prs rs with
      | none => rw [q] at e; cases e
      | some us => rw [q] at e; cases e; exact .cons h1 (prs_ok q h2)
  | .c k :: rs, ts, vs, e, h => by cases e
/-- views of all -/
def vws : List Sv → Z → Option (List Tr)
  | [], _ => some []
  | r :: rs, z => (vw r z).bind fun t => (vws rs z).map (t :: ·)
def okL : List Tr → Prop
  | [] => True
  | .lst us :: ts => us.length ≤ sizeLine ∧ okL ts
  | _ :: ts => okL ts
theorem okL_hd {t : Tr} {ts : List Tr} (h : okL (t :: ts)) : (∀ us, t = .lst us → us.length ≤ sizeLine) ∧ okL ts := by
  cases t with
  | lst us => exact ⟨fun us' e => by cases e; exact h.1, h.2⟩
  | _ => exact ⟨fun us' e => (nomatch e), h⟩
theorem vws_ok : ∀ {rs : List Sv} {ts : List Tr} {vs : List V}, vws rs z = some ts → okL ts → Cor K B F α z σ H → Rvs K F α vs rs → Rq K H vs ts
  | [], ts, vs, e, l, C, h => by cases e; cases h; exact .nil
  | r :: rs, ts, vs, e, l, C, h => by
    cases h with
    | cons h1 h2 =>
      have e : (vw r z).bind (fun t => (vws rs z).map (t :: ·)) = some ts := e
      cases q : vw r z with
      | none => rw [q] at e; cases e
      | some t =>
        rw [q] at e
        have e : (vws rs z).map (t :: ·) = some ts := e
        cases q2 : vws rs z with
        | none => rw [q2] at e; cases e
        | some us => rw [q2] at e; cases e; exact .cons (vw_rp q (okL_hd l).1 C h1) (vws_ok q2 (okL_hd l).2 C h2)
def kR (Q : Sv → Z → Prop) (z : Z) : Rr → Prop
  | .t t => Q (.p t) z
  | .l us => Q (.p (.lst us)) z
def kL (Q : List Tr → Z → Prop) (z : Z) : Rr → Prop
  | .t _ => False
  | .l us => Q us z
/-- an answer that holds no place -/
def kA (Q : Sv → Z → Prop) (z : Z) : Rr → Prop
  | .t (.a v) => Q (.p (.a v)) z
  | _ => False
/-- borrowed: a call over cells whose answer is an atom -/
theorem callB {P : Pv} {vs : List V} {ts : List Tr} {G : Gx} {Q : VK} {Qv : Sv → Z → Prop} (C : Cor K B F α z σ H) (er : ErOk B E G) (hv : Rq K H vs ts) (hp : P ts (kA Qv z) G)
    (k : ∀ F' v H', Qv (.p (.a v)) z → XTE B F α F' α → Cor K B F' α z σ H' → Q v H') : spV K P vs H Q E := by
  refine ⟨H, ts, _, G, .refl _, hv, hp, er.same C.keep, fun r v F' H' q sF n s' s rr => ?_⟩
  cases r with
  | l us => exact q.elim
  | t t =>
    cases t with
    | a w =>
      have e := Rp.atom rr
      subst e
      exact k F v H' q .refl (C.grow s)
    | _ => exact q.elim
def fCall (ge : Gx → Gx) (P : Pv) (fa : VA) : VE := fun G z Q => fa G z fun rs z1 => (∃ ts, prs rs = some ts ∧ P ts (kR Q z1) (ge G)) ∨ (∃ ts, vws rs z1 = some ts ∧ okL ts ∧ P ts (kA Q z1) (ge G))
theorem re_call {E' : XK} {ge : Gx → Gx} {P : Pv} {ta : TA} {fa : VA} (ee : EE E E' ge) (h : RA K E ta fa) : RE K E (tCall (spV K P) [] E' ta) (fCall ge P fa) := by
  intro B F α z σ H G Qv Q er hf C k
  refine h B F α z σ H G _ _ er hf C fun F1 α1 z1 rs vs H1 q1 x1 C1 r1 => ?_
  rw [List.append_nil]
  rcases q1 with ⟨ts, e, hp⟩ | ⟨ts, e, l, hp⟩
  · refine callV C1 (ee.ok er) (prs_ok e r1) hp (fun F2 t v H2 q x2 C2 r2 => k F2 α1 z1 _ v H2 q (x1.trans x2) C2 r2) fun F2 us xs a H2 q x2 C2 rq ha lx => ?_
    obtain ⟨C3, x3⟩ := C2.fz (.lst xs) ha
    have rq3 := rq.same x3.1
    exact k _ α1 z1 _ _ _ q ((x1.trans x2).trans x3) C3 (Rp.lst upd_same lx rq3.1 rq3.2)
  · exact callB C1 (ee.ok er) (vws_ok e l C1 r1) hp fun F2 v H2 q x2 C2 => k F2 α1 z1 _ v H2 q (x1.trans x2) C2 (.a v)
def fCallC (ge : Gx → Gx) (P : Pv) (fa : VA) : VC := fun G z Q => fa G z fun rs z1 => ∃ ts, prs rs = some ts ∧ P ts (kL Q z1) (ge G)
theorem rc_call {E' : XK} {ge : Gx → Gx} {P : Pv} {ta : TA} {fa : VA} (ee : EE E E' ge) (h : RA K E ta fa) : RC K E (tCall (spV K P) [] E' ta) (fCallC ge P fa) := by
  intro B F α z σ H G Qv Q er hf C k
  refine h B F α z σ H G _ _ er hf C fun F1 α1 z1 rs vs H1 q1 x1 C1 r1 => ?_
  rw [List.append_nil]
  obtain ⟨ts, e, hp⟩ := q1
  exact callV C1 (ee.ok er) (prs_ok e r1) hp (fun F2 t v H2 q x2 C2 r2 => q.elim) fun F2 us xs a H2 q x2 C2 rq ha lx => k F2 α1 z1 us xs a H2 q (x1.trans x2) C2 rq ha lx
/-- a keyword's default that fills up -/
def atomsR (ws : List V) : List Tr := ws.map Tr.a
def fCallD (ge : Gx → Gx) (P : Pv) (ws : List V) (fa : VA) : VE := fun G z Q => fa G z fun rs z1 => (∃ ts, prs rs = some ts ∧ P (ts ++ atomsR ws) (kR Q z1) (ge G))
theorem re_callD {E' : XK} {ge : Gx → Gx} {P : Pv} {ws : List V} {ta : TA} {fa : VA} (ee : EE E E' ge) (h : RA K E ta fa) : RE K E (tCall (spV K P) ws E' ta) (fCallD ge P ws fa) := by
  intro B F α z σ H G Qv Q er hf C k
  refine h B F α z σ H G _ _ er hf C fun F1 α1 z1 rs vs H1 q1 x1 C1 r1 => ?_
  obtain ⟨ts, e, hp⟩ := q1
  refine callV C1 (ee.ok er) ((prs_ok e r1).append .of) hp (fun F2 t v H2 q x2 C2 r2 => k F2 α1 z1 _ v H2 q (x1.trans x2) C2 r2) fun F2 us xs a H2 q x2 C2 rq ha lx => ?_
  obtain ⟨C3, x3⟩ := C2.fz (.lst xs) ha
  have rq3 := rq.same x3.1
  exact k _ α1 z1 _ _ _ q ((x1.trans x2).trans x3) C3 (Rp.lst upd_same lx rq3.1 rq3.2)
def fCallDC (ge : Gx → Gx) (P : Pv) (ws : List V) (fa : VA) : VC := fun G z Q => fa G z fun rs z1 => ∃ ts, prs rs = some ts ∧ P (ts ++ atomsR ws) (kL Q z1) (ge G)
theorem rc_callD {E' : XK} {ge : Gx → Gx} {P : Pv} {ws : List V} {ta : TA} {fa : VA} (ee : EE E E' ge) (h : RA K E ta fa) : RC K E (tCall (spV K P) ws E' ta) (fCallDC ge P ws fa) := by
  intro B F α z σ H G Qv Q er hf C k
  refine h B F α z σ H G _ _ er hf C fun F1 α1 z1 rs vs H1 q1 x1 C1 r1 => ?_
  obtain ⟨ts, e, hp⟩ := q1
  exact callV C1 (ee.ok er) ((prs_ok e r1).append .of) hp (fun F2 t v H2 q x2 C2 r2 => q.elim) fun F2 us xs a H2 q x2 C2 rq ha lx => k F2 α1 z1 us xs a H2 q (x1.trans x2) C2 rq ha lx
/-! ### methods, properties of frozen instances -/
def fMeth (ge : Gx → Gx) (C : Addr) (m : Str) (P : Pv) (f : VE) (fa : VA) : VE := fun G z Q => f G z fun r z1 => ∃ fs, r = .p (.ins C fs) ∧ fs.lookup m = none ∧ fa G z1 fun rs z2 => ∃ ts, prs rs = some ts ∧ P (.ins C fs :: ts) (kR Q z2) (ge G)
theorem re_meth {E' : XK} {ge : Gx → Gx} {C0 : Addr} {m : Str} {P : Pv} {to : TE} {ta : TA} {f : VE} {fa : VA} (ee : EE E E' ge) (h1 : RE K E to f) (h2 : RA K E ta fa) : RE K E (tMeth C0 m (spV K P) [] E' to ta) (fMeth ge C0 m P f fa) := by
  intro B F α z σ H G Qv Q er hf C k
  refine h1 B F α z σ H G _ _ er hf C fun F1 α1 z1 r v H1 q1 x1 C1 r1 => ?_
  obtain ⟨fs, rfl, hl, q1⟩ := q1
  obtain ⟨p, dx, ws, rfl, g1, g2⟩ := Rp.inv_ins r1
  refine ⟨p, dx, ws, rfl, C1.same _ _ g1, (g2.lookup (f := m)).2 hl, ?_⟩
  refine h2 B F1 α1 z1 σ H1 G _ _ er q1 C1 fun F2 α2 z2 rs vs H2 q2 x2 C2 r2 => ?_
  rw [List.append_nil]
  obtain ⟨ts, e, hp⟩ := q2
  refine callV C2 (ee.ok er) (.cons (Rp.same r1 x2.1) (prs_ok e r2)) hp (fun F3 t v H3 q x3 C3 r3 => k F3 α2 z2 _ v H3 q ((x1.trans x2).trans x3) C3 r3) fun F3 us xs a H3 q x3 C3 rq ha lx => ?_
  obtain ⟨C4, x4⟩ := C3.fz (.lst xs) ha
  have rq4 := rq.same x4.1
  exact k _ α2 z2 _ _ _ q (((x1.trans x2).trans x3).trans x4) C4 (Rp.lst upd_same lx rq4.1 rq4.2)
def fMethC (ge : Gx → Gx) (C : Addr) (m : Str) (P : Pv) (f : VE) (fa : VA) : VC := fun G z Q => f G z fun r z1 => ∃ fs, r = .p (.ins C fs) ∧ fs.lookup m = none ∧ fa G z1 fun rs z2 => ∃ ts, prs rs = some ts ∧ P (.ins C fs :: ts) (kL Q z2) (ge G)
theorem rc_meth {E' : XK} {ge : Gx → Gx} {C0 : Addr} {m : Str} {P : Pv} {to : TE} {ta : TA} {f : VE} {fa : VA} (ee : EE E E' ge) (h1 : RE K E to f) (h2 : RA K E ta fa) : RC K E (tMeth C0 m (spV K P) [] E' to ta) (fMethC ge C0 m P f fa) := by
  intro B F α z σ H G Qv Q er hf C k
  refine h1 B F α z σ H G _ _ er hf C fun F1 α1 z1 r v H1 q1 x1 C1 r1 => ?_
  obtain ⟨fs, rfl, hl, q1⟩ := q1
  obtain ⟨p, dx, ws, rfl, g1, g2⟩ := Rp.inv_ins r1
  refine ⟨p, dx, ws, rfl, C1.same _ _ g1, (g2.lookup (f := m)).2 hl, ?_⟩
  refine h2 B F1 α1 z1 σ H1 G _ _ er q1 C1 fun F2 α2 z2 rs vs H2 q2 x2 C2 r2 => ?_
  rw [List.append_nil]
  obtain ⟨ts, e, hp⟩ := q2
  exact callV C2 (ee.ok er) (.cons (Rp.same r1 x2.1) (prs_ok e r2)) hp (fun F3 t v H3 q x3 C3 r3 => q.elim) fun F3 us xs a H3 q x3 C3 rq ha lx => k F3 α2 z2 us xs a H3 q ((x1.trans x2).trans x3) C3 rq ha lx
def fProp (ge : Gx → Gx) (C : Addr) (P : Pv) (f : VE) : VE := fun G z Q => f G z fun r z1 => ∃ fs, r = .p (.ins C fs) ∧ P [.ins C fs] (kR Q z1) (ge G)
theorem insV {P : Pv} {C0 p dx : Addr} {fs : List (Str × Tr)} {ts : List Tr} {vs : List V} {ws : List (Str × V)} {G : Gx} {Q : VK} {Qv : Sv → Z → Prop} (C : Cor K B F α z σ H) (er : ErOk B E G) (g1 : F p = some (.ins C0 dx ws)) (g2 : Rf K F ws fs) (hv : Rq K F vs ts) (hp : P (.ins C0 fs :: ts) (kR Qv z) G)
    (k : ∀ F' α' z' r v H', Qv r z' → XTE B F α F' α' → Cor K B F' α' z' σ H' → Rv K F' α' v r → Q v H') : spV K P (.ref p :: vs) H Q E := by
  refine callV C er (.cons (.ins g1 g2.1 g2.2) hv) hp (fun F3 t v H3 q x3 C3 r3 => k F3 α z _ v H3 q x3 C3 r3) fun F3 us xs a H3 q x3 C3 rq ha lx => ?_
  obtain ⟨C4, x4⟩ := C3.fz (.lst xs) ha
  have rq4 := rq.same x4.1
  exact k _ α z _ _ _ q (x3.trans x4) C4 (Rp.lst upd_same lx rq4.1 rq4.2)
theorem re_prop {E' : XK} {ge : Gx → Gx} {C0 : Addr} {P : Pv} {to : TE} {f : VE} (ee : EE E E' ge) (h : RE K E to f) : RE K E (tProp C0 (spV K P) [] E' to) (fProp ge C0 P f) := by
  intro B F α z σ H G Qv Q er hf C k
  refine h B F α z σ H G _ _ er hf C fun F1 α1 z1 r v H1 q1 x1 C1 r1 => ?_
  obtain ⟨fs, rfl, hp⟩ := q1
  obtain ⟨p, dx, ws, rfl, g1, g2⟩ := Rp.inv_ins r1
  exact ⟨p, dx, ws, rfl, C1.same _ _ g1, insV C1 (ee.ok er) g1 g2 .nil hp fun F2 α2 z2 r v H2 q x2 C2 r2 => k F2 α2 z2 r v H2 q (x1.trans x2) C2 r2⟩
/-- len(obj) -/
def kN (Q : Sv → Z → Prop) (z : Z) : Rr → Prop
  | .t (.a (.int i)) => 0 ≤ i ∧ i < 2 ^ 62 ∧ Q (.p (trI i)) z
  | _ => False
def fLenO (ge : Gx → Gx) (C : Addr) (P : Pv) (fa : VA) : VE := fun G z Q => fa G z fun rs z1 => ∃ fs, rs = [.p (.ins C fs)] ∧ P [.ins C fs] (kN Q z1) (ge G)
theorem re_lenO {E' : XK} {ge : Gx → Gx} {C0 : Addr} {P : Pv} {ta : TA} {fa : VA} (ee : EE E E' ge) (h : RA K E ta fa) : RE K E (tCB (rOwnLenW C0 (spV K P) E') ta) (fLenO ge C0 P fa) := by
  intro B F α z σ H G Qv Q er hf C k
  refine h B F α z σ H G _ _ er hf C fun F1 α1 z1 rs vs H1 q1 x1 C1 r1 => ?_
  obtain ⟨fs, rfl, hp⟩ := q1
  obtain ⟨v, rfl, r2⟩ := r1.one
  obtain ⟨p, dx, ws, rfl, g1, g2⟩ := Rp.inv_ins r2
  refine ⟨p, dx, ws, rfl, C1.same _ _ g1, callV C1 (ee.ok er) (.cons (.ins g1 g2.1 g2.2) .nil) hp (fun F3 t v H3 q x3 C3 r3 => ?_) fun F3 us xs a H3 q x3 C3 rq ha lx => q.elim⟩
  cases t with
  | a w =>
    cases w with
    | int i =>
      obtain ⟨h0, h1, q⟩ := q
      have e := Rp.atom r3
      subst e
      exact ⟨i.toNat, by rw [Int.toNat_of_nonneg h0], by omega, k F3 α1 z1 _ _ H3 q (x1.trans x3) C3 (.a _)⟩
    | _ => exact q.elim
  | _ => exact q.elim
/-- obj + obj, -obj -/
def fOwn2 (ge : Gx → Gx) (C : Addr) (P : Pv) (f g : VE) : VE := fun G z Q => f G z fun a z1 => g G z1 fun b z2 => ∃ fs gs, a = .p (.ins C fs) ∧ b = .p (.ins C gs) ∧ P [.ins C fs, .ins C gs] (kR Q z2) (ge G)
theorem re_own2 {E' : XK} {ge : Gx → Gx} {C0 : Addr} {P : Pv} {ta tb : TE} {f g : VE} (ee : EE E E' ge) (h1 : RE K E ta f) (h2 : RE K E tb g) : RE K E (tOp (rOwnOp C0 (spV K P) E') ta tb) (fOwn2 ge C0 P f g) := by
  intro B F α z σ H G Qv Q er hf C k
  refine h1 B F α z σ H G _ _ er hf C fun F1 α1 z1 a v H1 q1 x1 C1 r1 => ?_
  refine h2 B F1 α1 z1 σ H1 G _ _ er q1 C1 fun F2 α2 z2 b w H2 q2 x2 C2 r2 => ?_
  obtain ⟨fs, gs, rfl, rfl, hp⟩ := q2
  obtain ⟨p, dx, ws, rfl, g1, g2⟩ := Rp.inv_ins (Rp.same r1 x2.1)
  obtain ⟨p', dx', ws', rfl, g1', g2'⟩ := Rp.inv_ins r2
  exact ⟨p, dx, ws, p', dx', ws', rfl, rfl, C2.same _ _ g1, C2.same _ _ g1', insV C2 (ee.ok er) g1 g2 (.cons (.ins g1' g2'.1 g2'.2) .nil) hp fun F3 α3 z3 r v H3 q x3 C3 r3 => k F3 α3 z3 r v H3 q ((x1.trans x2).trans x3) C3 r3⟩
def fOwnN (ge : Gx → Gx) (C : Addr) (P : Pv) (f : VE) : VE := fun G z Q => f G z fun a z1 => ∃ fs, a = .p (.ins C fs) ∧ P [.ins C fs] (kR Q z1) (ge G)
theorem re_ownN {E' : XK} {ge : Gx → Gx} {C0 : Addr} {P : Pv} {ta : TE} {f : VE} (ee : EE E E' ge) (h : RE K E ta f) : RE K E (tUn (rOwnNeg C0 (spV K P) E') ta) (fOwnN ge C0 P f) := by
  intro B F α z σ H G Qv Q er hf C k
  refine h B F α z σ H G _ _ er hf C fun F1 α1 z1 r v H1 q1 x1 C1 r1 => ?_
  obtain ⟨fs, rfl, hp⟩ := q1
  obtain ⟨p, dx, ws, rfl, g1, g2⟩ := Rp.inv_ins r1
  exact ⟨p, dx, ws, rfl, C1.same _ _ g1, insV C1 (ee.ok er) g1 g2 .nil hp fun F2 α2 z2 r v H2 q x2 C2 r2 => k F2 α2 z2 r v H2 q (x1.trans x2) C2 r2⟩
/-- obj[i] -/
def fOwnIx (ge : Gx → Gx) (C : Addr) (P : Pv) (f g : VE) : VE := fun G z Q => f G z fun a z1 => g G z1 fun b z2 => ∃ fs i, a = .p (.ins C fs) ∧ b = .p (trI i) ∧ P [.ins C fs, trI i] (kR Q z2) (ge G)
theorem re_ownIx {E' : XK} {ge : Gx → Gx} {C0 : Addr} {P : Pv} {ta tb : TE} {f g : VE} (ee : EE E E' ge) (h1 : RE K E ta f) (h2 : RE K E tb g) : RE K E (tOwnIx C0 (spV K P) (fun _ => E') ta tb) (fOwnIx ge C0 P f g) := by
  intro B F α z σ H G Qv Q er hf C k
  refine h1 B F α z σ H G _ _ er hf C fun F1 α1 z1 a v H1 q1 x1 C1 r1 => ?_
  refine h2 B F1 α1 z1 σ H1 G _ _ er q1 C1 fun F2 α2 z2 b w H2 q2 x2 C2 r2 => ?_
  obtain ⟨fs, i, rfl, rfl, hp⟩ := q2
  obtain ⟨p, dx, ws, rfl, g1, g2⟩ := Rp.inv_ins (Rp.same r1 x2.1)
  have e := Rp.atom r2
  subst e
  exact ⟨p, dx, ws, i, rfl, rfl, C2.same _ _ g1, insV C2 (ee.ok er) g1 g2 (.cons (.a _) .nil) hp fun F3 α3 z3 r v H3 q x3 C3 r3 => k F3 α3 z3 r v H3 q ((x1.trans x2).trans x3) C3 r3⟩
/-! ### making -/
/-- __init__ of a class: P tells the fields -/
def spM (K : PySem.W.Frag) (C : Addr) (P : List Tr → (List (Str × Tr) → Prop) → Gx → Prop) : Sp := fun vs H Q E => ∃ (x dx : Addr) (ws : List V) (H0 F : Hp) (ts : List Tr) (PP : List (Str × Tr) → Prop) (GG : Gx),
  vs = .ref x :: ws ∧ H = upd (upd H0 dx (.own x)) x (.ins C dx []) ∧ H0 x = none ∧ H0 dx = none ∧ dx ≠ x ∧ Same F H0 ∧ Rq K F ws ts ∧ P ts PP GG ∧ ErOk H0 E GG ∧
  ∀ fs gs dx' F' H', PP fs → Same F F' → NoL H0 F F' → Same F' H' → Same H0 H' → F' x = none → H' x = some (.ins C dx' gs) → Rf K F' gs fs → Q .non H'
def kM (C : Addr) (Q : Sv → Z → Prop) (z : Z) : List (Str × Tr) → Prop := fun fs => Q (.p (.ins C fs)) z
def fMake (ge : Gx → Gx) (C : Addr) (P : List Tr → (List (Str × Tr) → Prop) → Gx → Prop) (fa : VA) : VE := fun G z Q => fa G z fun rs z1 => ∃ ts, prs rs = some ts ∧ P ts (kM C Q z1) (ge G)
theorem mkV {C0 : Addr} {P : List Tr → (List (Str × Tr) → Prop) → Gx → Prop} {vs : List V} {ts : List Tr} {G : Gx} {Q : VK} {Qv : Sv → Z → Prop} (C : Cor K B F α z σ H) (er : ErOk B E G) (hv : Rq K F vs ts) (hp : P ts (kM C0 Qv z) G)
    (k : ∀ F' v t H', Qv (.p t) z → XTE B F α F' α → Cor K B F' α z σ H' → Rp K F' v t → Q v H') : ∀ x dx, H x = none → H dx = none → dx ≠ x → spM K C0 P (.ref x :: vs) (upd (upd H dx (.own x)) x (.ins C0 dx [])) (fun v H2 => v = .non ∧ Q (.ref x) H2) E := by
  intro x dx hx hdx hne
  refine ⟨x, dx, vs, H, F, ts, _, G, rfl, rfl, hx, hdx, hne, C.same, hv, hp, er.same C.keep, fun fs gs dx' F' H' q sF n s' s fx hX rf => ⟨rfl, ?_⟩⟩
  obtain ⟨C', x'⟩ := C.after sF n s' s
  have hBx : B x = none := C.keep.free hx
  have sF2 : Same F' (upd F' x (.ins C0 dx' gs)) := .new fx
  have x2 : XTE B F' α (upd F' x (.ins C0 dx' gs)) α := ⟨sF2, ⟨[], by rw [List.append_nil]⟩, .new hBx⟩
  have nm : x ∉ α := C.notin hx
  refine k _ (.ref x) (.ins C0 fs) H' q (x'.trans x2) ⟨C'.keep, fun b o e => ?_, C'.len, C'.nd, fun kk a c e f => ?_, C'.elen, fun i r e => ?_⟩ (.ins upd_same rf.1 (rf.same sF2).2)
  · by_cases w : b = x
    · subst w; rw [upd_same] at e; rw [hX]; exact e
    · rw [upd_ne w] at e; exact C'.same b o e
  · refine (C.cell kk a c e f).mono (sF.trans sF2) (fun _ _ _ h => h) (fun b u m hy _ hf => ?_) (fun _ _ h _ => s _ _ h)
    rw [upd_ne (fun w => by rw [w, hx] at hy; cases hy)]
    cases q : F' b with
    | none => rfl
    | some o =>
      have e1 := s' b o q
      rw [s b _ hy] at e1
      cases e1
      rcases n b u m q with h | h
      · rw [hf] at h; cases h
      · rw [hy] at h; cases h
  · obtain ⟨v, e1, e2⟩ := C'.env i r e
    exact ⟨v, e1, e2.ext x2⟩
theorem re_make {E' : XK} {ge : Gx → Gx} {C0 : Addr} {P : List Tr → (List (Str × Tr) → Prop) → Gx → Prop} {ta : TA} {fa : VA} (ee : EE E E' ge) (h : RA K E ta fa) : RE K E (tMake C0 (spM K C0 P) [] E' ta) (fMake ge C0 P fa) := by
  intro B F α z σ H G Qv Q er hf C k
  refine h B F α z σ H G _ _ er hf C fun F1 α1 z1 rs vs H1 q1 x1 C1 r1 => ?_
  rw [List.append_nil]
  obtain ⟨ts, e, hp⟩ := q1
  exact mkV C1 (ee.ok er) (prs_ok e r1) hp fun F2 v t H2 q x2 C2 r2 => k F2 α1 z1 _ v H2 q (x1.trans x2) C2 r2
/-! ### draws -/
abbrev Pd := List Tr → (Rr → Prop) → Prop
/-- a promise whose first argument is a pool -/
def spD (K : PySem.W.Frag) (P : Pd) : Sp := fun vs H Q _ => ∃ (p : Addr) (ws st : List V) (F : Hp) (ts : List Tr) (PP : Rr → Prop), vs = .ref p :: ws ∧ H p = some (.lst st) ∧ PoolOk st ∧ F p = none ∧ Same F H ∧ Rq K F ws ts ∧ P ts PP ∧
  ∀ r v F' H' st', PP r → Same F F' → NoL H F F' → Same F' H' → But p H H' → F' p = none → H' p = some (.lst st') → PoolOk st' → RvR K H F' H' v r → Q v H'
theorem Cor.afterD (C : Cor K B F α z σ H) {k : Nat} {p : Addr} {st' : List V} (ep : α[k]? = some p) (ec : z.c[k]? = some .pool) (sF : Same F F') (n : NoL H F F') (s' : Same F' H') (s : But p H H') (hp' : H' p = some (.lst st')) (ok : PoolOk st') (fp : F' p = none) : Cor K B F' α z σ H' ∧ XTE B F α F' α := by
  have x : XTE B F α F' α := ⟨sF, ⟨[], by rw [List.append_nil]⟩, fun a xs m e => (n a xs m e).imp id (fun h => C.keep.free h)⟩
  obtain ⟨hF, hB, st, hp, _⟩ := C.cell k p _ ep ec
  refine ⟨⟨fun b o e => s b o (fun q => by rw [q, hB] at e; cases e) (C.keep b o e), s', C.len, C.nd, fun j a c e f => ?_, C.elen, fun i r e => ?_⟩, x⟩
  · by_cases q : a = p
    · subst q
      have : j = k := nd_inj C.nd (List.getElem?_eq_some_iff.mp e).1 (List.getElem?_eq_some_iff.mp ep).1 ((List.getElem?_eq_some_iff.mp e).2.trans (List.getElem?_eq_some_iff.mp ep).2.symm)
      subst this
      rw [ec] at f
      cases f
      exact ⟨fp, hB, st', hp', ok⟩
    · have ne : ∀ b, b = a ∨ b ∉ α → b ≠ p := fun b y => y.elim (fun y => y ▸ q) (fun y w => y (by rw [w]; exact List.mem_of_getElem? ep))
      refine (C.cell j a c e f).mono sF (fun _ _ _ h => h) (fun b u m hy y hf => ?_) (fun b o h y => s _ _ (ne b y) h)
      cases w : F' b with
      | none => rfl
      | some o =>
        have e1 := s' b o w
        rw [s b _ (ne b y) hy] at e1
        cases e1
        rcases n b u m w with h | h
        · rw [hf] at h; cases h
        · rw [hy] at h; cases h
  · obtain ⟨v, e1, e2⟩ := C.env i r e
    exact ⟨v, e1, e2.ext x⟩
theorem drawV {P : Pd} {k : Nat} {p : Addr} {vs : List V} {ts : List Tr} {PP : Rr → Prop} {Q : VK} (C : Cor K B F α z σ H) (ep : α[k]? = some p) (ec : z.c[k]? = some .pool) (hv : Rq K F vs ts) (hp : P ts PP)
    (kt : ∀ F' t v H', PP (.t t) → XTE B F α F' α → Cor K B F' α z σ H' → Rp K F' v t → Q v H')
    (kl : ∀ F' us xs a H', PP (.l us) → XTE B F α F' α → Cor K B F' α z σ H' → Rq K F' xs us → H' a = none → xs.length ≤ sizeLine → Q (.ref a) (upd H' a (.lst xs))) : spD K P (.ref p :: vs) H Q E := by
  obtain ⟨hF, hB, st, hx, ok⟩ := C.cell k p _ ep ec
  refine ⟨p, vs, st, F, ts, PP, rfl, hx, ok, hF, C.same, hv, hp, fun r v F' H' st' q sF n s' s fp hp' ok' rr => ?_⟩
  cases r with
  | t t =>
    obtain ⟨C', x⟩ := C.afterD ep ec sF n s' s hp' ok' fp
    exact kt F' t v H' q x C' rr
  | l us =>
    obtain ⟨a, xs, rfl, ha, hF', hx', rq, lx⟩ := rr
    have nm : a ≠ p := fun w => C.notin ha (by rw [w]; exact List.mem_of_getElem? ep)
    obtain ⟨C', x⟩ := C.afterD ep ec sF n (Same.del s' hF') (fun b o w e => by unfold VL.del; rw [if_neg (fun q => by rw [q, ha] at e; cases e)]; exact s b o w e) (by unfold VL.del; rw [if_neg (fun w => nm w.symm)]; exact hp') ok' fp
    rw [← upd_del hx']
    exact kl F' us xs a _ q x C' rq del_at lx
def fDraw (P : Pd) (fa : VA) : VE := fun G z Q => fa G z fun rs z1 => ∃ k rs' ts, rs = .c k :: rs' ∧ z1.c[k]? = some .pool ∧ prs rs' = some ts ∧ P ts (kR Q z1)
theorem re_draw {P : Pd} {E' : XK} {ta : TA} {fa : VA} (h : RA K E ta fa) : RE K E (tCall (spD K P) [] E' ta) (fDraw P fa) := by
  intro B F α z σ H G Qv Q er hf C k
  refine h B F α z σ H G _ _ er hf C fun F1 α1 z1 rs vs H1 q1 x1 C1 r1 => ?_
  rw [List.append_nil]
  obtain ⟨j, rs', ts, rfl, ec, e, hp⟩ := q1
  cases r1 with
  | cons h1 h2 =>
    obtain ⟨p, ep, rfl⟩ := h1
    refine drawV C1 ep ec (prs_ok e h2) hp (fun F2 t v H2 q x2 C2 r2 => k F2 α1 z1 _ v H2 q (x1.trans x2) C2 r2) fun F2 us xs a H2 q x2 C2 rq ha lx => ?_
    obtain ⟨C3, x3⟩ := C2.fz (.lst xs) ha
    have rq3 := rq.same x3.1
    exact k _ α1 z1 _ _ _ q ((x1.trans x2).trans x3) C3 (Rp.lst upd_same lx rq3.1 rq3.2)
def fDrawC (P : Pd) (fa : VA) : VC := fun G z Q => fa G z fun rs z1 => ∃ k rs' ts, rs = .c k :: rs' ∧ z1.c[k]? = some .pool ∧ prs rs' = some ts ∧ P ts (kL Q z1)
theorem rc_draw {P : Pd} {E' : XK} {ta : TA} {fa : VA} (h : RA K E ta fa) : RC K E (tCall (spD K P) [] E' ta) (fDrawC P fa) := by
  intro B F α z σ H G Qv Q er hf C k
  refine h B F α z σ H G _ _ er hf C fun F1 α1 z1 rs vs H1 q1 x1 C1 r1 => ?_
  rw [List.append_nil]
  obtain ⟨j, rs', ts, rfl, ec, e, hp⟩ := q1
  cases r1 with
  | cons h1 h2 =>
    obtain ⟨p, ep, rfl⟩ := h1
    exact drawV C1 ep ec (prs_ok e h2) hp (fun F2 t v H2 q x2 C2 r2 => q.elim) fun F2 us xs a H2 q x2 C2 rq ha lx => k F2 α1 z1 us xs a H2 q (x1.trans x2) C2 rq ha lx
/-- a pool is made of the script -/
def spPoolV (K : PySem.W.Frag) : Sp := fun vs H Q _ => ∃ (a : Addr) (ns : List Int) (i : Nat), vs = [.ref a, .int (i : Nat)] ∧ SqL K H a (ns.map V.int) ∧ ∀ l st, H l = none → PoolOk st → Q (.ref l) (upd H l (.lst st))
def fPool (fa : VA) : VE := fun G z Q => fa G z fun rs z1 => ∃ (ns : List Int) (i : Nat), rs = [.p (.scr ns), .p (trI (i : Nat))] ∧ Q (.c z1.c.length) ⟨z1.e, z1.c ++ [.pool]⟩
theorem re_pool {E' : XK} {ta : TA} {fa : VA} (h : RA K E ta fa) : RE K E (tCall (spPoolV K) [] E' ta) (fPool fa) := by
  intro B F α z σ H G Qv Q er hf C k
  refine h B F α z σ H G _ _ er hf C fun F1 α1 z1 rs vs H1 q1 x1 C1 r1 => ?_
  rw [List.append_nil]
  obtain ⟨ns, i, rfl, q⟩ := q1
  obtain ⟨v, w, rfl, h1, h2⟩ := r1.two
  have e := Rp.atom h2
  subst e
  have h1 : Rp K F1 v (.scr ns) := h1
  cases h1 with
  | scr hs =>
    refine ⟨_, ns, i, rfl, C1.same.seq hs, fun l st hl ok => ?_⟩
    obtain ⟨C2, x2⟩ := C1.mkPool hl ok
    exact k _ _ _ _ _ _ q (x1.trans x2) C2 ⟨l, by rw [← C1.len, List.getElem?_concat_length], rfl⟩
/-! ### from a body's reading to the def's promise -/
def startE (N : List Str) (ts : List Tr) : List (Option Sv) := ts.map (fun t => some (.p t)) ++ List.replicate (N.length - ts.length) none
theorem start_cor {N : List Str} {vs : List V} {ts : List Tr} (sF : Same F H) (rq : Rq K F vs ts) : Cor K H F [] ⟨startE N ts, []⟩ (L2.start N vs) H := by
  refine ⟨.refl _, sF, rfl, List.nodup_nil, fun k a c e => (by cases e), by unfold L2.start startE; rw [List.length_append, List.length_append, List.length_map, List.length_map, List.length_replicate, List.length_replicate, rq.1], fun i r e => ?_⟩
  have e : (startE N ts)[i]? = some (some r) := e
  unfold startE at e
  unfold L2.start
  by_cases hi : i < ts.length
  · rw [List.getElem?_append_left (by rw [List.length_map]; exact hi), List.getElem?_map, List.getElem?_eq_getElem hi] at e
    cases e
    have hv : i < vs.length := by rw [rq.1]; exact hi
    refine ⟨vs[i], ?_, rq.2 i _ _ (List.getElem?_eq_getElem hv) (List.getElem?_eq_getElem hi)⟩
    rw [List.getElem?_append_left (by rw [List.length_map]; exact hv), List.getElem?_map, List.getElem?_eq_getElem hv]
    rfl
  · rw [List.getElem?_append_right (by rw [List.length_map]; omega), List.getElem?_replicate] at e
    split at e <;> cases e
/-- what a def's end gives -/
def kE (PP : Rr → Prop) (r : Sv) (z : Z) : Prop := match r with
  | .p t => PP (.t t)
  | .c k => ∃ ts, z.c[k]? = some (.lst ts) ∧ ts.length ≤ sizeLine ∧ PP (.l ts)
theorem run_V {P : Pv} {t : TS} {f : VS} {N : List Str} {vs : List V} {H : Hp} {Q : VK} (hR : RS K E t f) (h : spV K P vs H Q E)
    (hf : ∀ ts PP G, P ts PP G → vs.length = ts.length → f G { nx := fun _ => PP (.t trN), rt := kE PP } ⟨startE N ts, []⟩) : t { nx := fun _ H' => Q .non H', rt := Q } (L2.start N vs) H := by
  obtain ⟨F, ts, PP, GG, sF, rq, hp, er, q⟩ := h
  have C := start_cor (K := K) (N := N) sF rq
  refine hR H F [] _ _ H GG _ _ er (hf ts PP GG hp rq.1) C ⟨fun F' α' z σ H' hn x C' => ?_, fun F' α' z σ H' r v hr x C' hv => ?_, fun F' α' z σ H' hn x C' => hn.elim, fun F' α' z σ H' hn x C' => hn.elim⟩
  · exact q (.t trN) .non F' H' hn x.1 x.2.2 C'.same C'.keep (.a _)
  · cases r with
    | p t => exact q (.t t) v F' H' hr x.1 x.2.2 C'.same C'.keep hv
    | c k =>
      obtain ⟨us, ec, l, hp⟩ := hr
      obtain ⟨a, ea, rfl⟩ := hv
      obtain ⟨h1, h2, xs, h3, h4⟩ := C'.cell k a _ ea ec
      exact q (.l us) _ F' H' hp x.1 x.2.2 C'.same C'.keep ⟨a, xs, rfl, h2, h1, h3, h4, by rw [h4.1]; exact l⟩
theorem run_V0 {P : Pv} {t : TS} {f : VS} {N : List Str} {vs : List V} {H : Hp} {Q : VK} (hR : RS K E0 t f) (h : spV K P vs H Q E)
    (hf : ∀ ts PP G, P ts PP G → vs.length = ts.length → f (fun _ _ => False) { nx := fun _ => PP (.t trN), rt := kE PP } ⟨startE N ts, []⟩) : t { nx := fun _ H' => Q .non H', rt := Q } (L2.start N vs) H := by
  obtain ⟨F, ts, PP, GG, sF, rq, hp, er, q⟩ := h
  have C := start_cor (K := K) (N := N) sF rq
  refine hR H F [] _ _ H (fun _ _ => False) _ _ (fun _ _ g => g.elim) (hf ts PP GG hp rq.1) C ⟨fun F' α' z σ H' hn x C' => ?_, fun F' α' z σ H' r v hr x C' hv => ?_, fun F' α' z σ H' hn x C' => hn.elim, fun F' α' z σ H' hn x C' => hn.elim⟩
  · exact q (.t trN) .non F' H' hn x.1 x.2.2 C'.same C'.keep (.a _)
  · cases r with
    | p t => exact q (.t t) v F' H' hr x.1 x.2.2 C'.same C'.keep hv
    | c k =>
      obtain ⟨us, ec, l, hp⟩ := hr
      obtain ⟨a, ea, rfl⟩ := hv
      obtain ⟨h1, h2, xs, h3, h4⟩ := C'.cell k a _ ea ec
      exact q (.l us) _ F' H' hp x.1 x.2.2 C'.same C'.keep ⟨a, xs, rfl, h2, h1, h3, h4, by rw [h4.1]; exact l⟩
def kED (PP : Rr → Prop) (r : Sv) (z : Z) : Prop := z.c[0]? = some .pool ∧ kE PP r z
def hide (p : Addr) (H : Hp) : Hp := VL.del p H
/-- the start over a pool -/
def startD (N : List Str) (ts : List Tr) : List (Option Sv) := some (.c 0) :: startE N.tail ts
theorem start_corD {x : Str} {N : List Str} {p : Addr} {st vs : List V} {ts : List Tr} (hp : H p = some (.lst st)) (ok : PoolOk st) (fp : F p = none) (sF : Same F H) (rq : Rq K F vs ts) : Cor K (VL.del p H) F [p] ⟨some (.c 0) :: startE N ts, [.pool]⟩ (L2.start (x :: N) (.ref p :: vs)) H := by
  have C := start_cor (K := K) (N := N) sF rq
  have es : L2.start (x :: N) (.ref p :: vs) = some (.ref p) :: L2.start N vs := by
    unfold L2.start
    rw [List.map_cons, List.cons_append, List.length_cons, List.length_cons, Nat.succ_sub_succ]
  rw [es]
  refine ⟨fun b o e => ?_, sF, rfl, List.nodup_cons.mpr ⟨by simp, List.nodup_nil⟩, fun k a c e f => ?_, by show _ + 1 = _ + 1; rw [C.elen], fun i r e => ?_⟩
  · unfold VL.del at e
    split at e
    · cases e
    · exact e
  · cases k with
    | zero => cases e; cases f; exact ⟨fp, del_at, st, hp, ok⟩
    | succ k => cases e
  · cases i with
    | zero => cases e; exact ⟨_, rfl, p, rfl, rfl⟩
    | succ i =>
      obtain ⟨v, e1, e2⟩ := C.env i r e
      refine ⟨v, e1, ?_⟩
      cases r with
      | p t => exact e2
      | c k => obtain ⟨a, ea, _⟩ := e2; cases ea
theorem run_D {P : Pd} {E' : XK} {t : TS} {f : VS} {x : Str} {N : List Str} {vs : List V} {H : Hp} {Q : VK} (hR : RS K E t f) (h : spD K P vs H Q E')
    (hf : ∀ ts PP, P ts PP → vs.length = ts.length + 1 → f (fun _ _ => False) { nx := fun z => z.c[0]? = some .pool ∧ PP (.t trN), rt := kED PP } ⟨some (.c 0) :: startE N ts, [.pool]⟩) : t { nx := fun _ H' => Q .non H', rt := Q } (L2.start (x :: N) vs) H := by
  obtain ⟨p, ws, st, F, ts, PP, rfl, hp, ok, fp, sF, rq, hP, q⟩ := h
  have C := start_corD (K := K) (x := x) (N := N) hp ok fp sF rq
  have fin : ∀ F' α' z σ H' (r : Rr) v, z.c[0]? = some .pool → XTE (VL.del p H) F [p] F' α' → Cor K (VL.del p H) F' α' z σ H' → PP r → RvR K H F' H' v r → Q v H' := fun F' α' z σ H' r v e0 x C' hr hv => by
    have ep : α'[0]? = some p := x.get rfl
    obtain ⟨h1, h2, st', h3, h4⟩ := C'.cell 0 p _ ep e0
    refine q r v F' H' st' hr x.1 (fun a xs m e => (x.2.2 a xs m e).imp id fun n => ?_) C'.same (fun b o n e => C'.keep b o (by unfold VL.del; rw [if_neg n]; exact e)) h1 h3 h4 hv
    unfold VL.del at n
    split at n
    · rename_i w; rw [w, h1] at e; cases e
    · exact n
  refine hR (VL.del p H) F [p] _ _ H (fun _ _ => False) _ _ (fun _ _ g => g.elim) (hf ts PP hP (by rw [List.length_cons, rq.1])) C ⟨fun F' α' z σ H' hn x C' => ?_, fun F' α' z σ H' r v hr x C' hv => ?_, fun F' α' z σ H' hn x C' => hn.elim, fun F' α' z σ H' hn x C' => hn.elim⟩
  · exact fin F' α' z σ H' (.t trN) .non hn.1 x C' hn.2 (.a _)
  · obtain ⟨e0, hr⟩ := hr
    cases r with
    | p t => exact fin F' α' z σ H' (.t t) v e0 x C' hr hv
    | c k =>
      obtain ⟨us, ec, l, hp'⟩ := hr
      obtain ⟨a, ea, rfl⟩ := hv
      obtain ⟨h1, h2, xs, h3, h4⟩ := C'.cell k a _ ea ec
      have np : a ≠ p := fun w => by
        subst w
        have ep : α'[0]? = some a := x.get rfl
        have : k = 0 := nd_inj C'.nd (List.getElem?_eq_some_iff.mp ea).1 (List.getElem?_eq_some_iff.mp ep).1 ((List.getElem?_eq_some_iff.mp ea).2.trans (List.getElem?_eq_some_iff.mp ep).2.symm)
        subst this
        rw [e0] at ec; cases ec
      have ha : H a = none := by
        unfold VL.del at h2
        rw [if_neg np] at h2; exact h2
      exact fin F' α' z σ H' (.l us) _ e0 x C' hp' ⟨a, xs, rfl, ha, h1, h3, h4, by rw [h4.1]; exact l⟩
/-- C.x, a number of the class -/
def fCVal (K : PySem.W.Frag) (f : VE) (x : Str) : VE := fun G z Q => f G z fun r z1 => ∃ (C : Addr) (mc : Value) (v : V) (u : Value), r = .p (.a (.ref C)) ∧ ClX.CRead K C mc ∧ ClX.CVal K C mc x v u ∧ Q (.p (.a v)) z1
theorem re_cval {t : TE} {f : VE} {x : Str} (h : RE K E t f) : RE K E (ClX.tCVal K t x) (fCVal K f x) := by
  intro B F α z σ H G Qv Q er hf C k
  refine h B F α z σ H G _ _ er hf C fun F1 α1 z1 r v H1 q1 x1 C1 r1 => ?_
  obtain ⟨C0, mc, w, u, rfl, c1, c2, q⟩ := q1
  exact ⟨C0, mc, w, u, Rp.atom r1, c1, c2, k F1 α1 z1 _ _ H1 q x1 C1 (.a _)⟩
/-! ### chains, raising, __init__ -/
def fChain (g g' : Sv → Sv → Z → (Tr → Prop) → Prop) (fa fb fc : VE) : VE := fun G z Q => fa G z fun a z1 => fb G z1 fun b z2 => g a b z2 fun t => ∃ k, t = trB k ∧ (k = true → fc G z2 fun c z3 => g' b c z3 fun t' => Q (.p t') z3) ∧ (k = false → Q (.p (trB false)) z2)
theorem re_chain {r r' : R2} {g g' : Sv → Sv → Z → (Tr → Prop) → Prop} {ta tb tc : TE} {fa fb fc : VE} (hr : RR2 K r g) (hr' : RR2 K r' g') (ha : RE K E ta fa) (hb : RE K E tb fb) (hc : RE K E tc fc) : RE K E (tChain r r' ta tb tc) (fChain g g' fa fb fc) := by
  intro B F α z σ H G Qv Q er hf C k
  refine ha B F α z σ H G _ _ er hf C fun F1 α1 z1 a x H1 q1 x1 C1 r1 => ?_
  refine hb B F1 α1 z1 σ H1 G _ _ er q1 C1 fun F2 α2 z2 b y H2 q2 x2 C2 r2 => ?_
  refine hr B F2 α2 z2 σ H2 x y a b _ _ q2 C2 (r1.ext x2) r2 fun t v q rp => ?_
  obtain ⟨b', rfl, qt, qf⟩ := q
  refine ⟨b', Rp.atom rp, ?_⟩
  cases b' with
  | true =>
    refine iteT (hc B F2 α2 z2 σ H2 G _ _ er (qt rfl) C2 fun F3 α3 z3 c w H3 q3 x3 C3 r3 => ?_)
    exact hr' B F3 α3 z3 σ H3 y w b c _ Q q3 C3 (r2.ext x3) r3 fun t v q rp => k F3 α3 z3 _ v H3 q ((x1.trans x2).trans x3) C3 rp
  | false => exact iteF (k F2 α2 z2 _ _ H2 (qf rfl) (x1.trans x2) C2 (.a _))
def atoms : List Tr → Option (List V)
  | [] => some []
  | .a v :: ts => (atoms ts).map (v :: ·)
  | _ :: _ => none
theorem atoms_ok : ∀ {ts : List Tr} {xs vs : List V}, atoms ts = some vs → Rq K F xs ts → xs = vs
  | [], xs, vs, e, h => by cases e; exact h.nil'
  | .a v :: ts, xs, vs, e, h => by
    obtain ⟨x, r, rfl, h1, h2⟩ := h.inv'
    have e : (atoms ts).map (v :: ·) = some vs := e
    cases q : atoms ts with
    | none => rw [q] at e; cases e
    | some us => rw [q] at e; cases e; rw [Rp.atom h1, atoms_ok q h2]
  | .tup _ :: _, xs, vs, e, h => by cases e
  | .lst _ :: _, xs, vs, e, h => by cases e
  | .ins _ _ :: _, xs, vs, e, h => by cases e
  | .scr _ :: _, xs, vs, e, h => by cases e
def fRaise (C : Addr) (ps : List Str) (l : List (Str × Str)) (fa : VA) : VS := fun G _ z => fa G z fun rs _ => ∃ ts vs, prs rs = some ts ∧ atoms ts = some vs ∧ vs.length = ps.length ∧ G C (.xd (fieldsX ps l vs))
theorem rs_raise {C0 : Addr} {ps : List Str} {l : List (Str × Str)} {ta : TA} {fa : VA} (h : RA K E ta fa) : RS K E (tRaiseX C0 ps l (fun cls d _ H => E cls d H) ta) (fRaise C0 ps l fa) := by
  intro B F α z σ H G Dv D er hf C eo
  refine h B F α z σ H G _ _ er hf C fun F1 α1 z1 rs vs H1 q1 x1 C1 r1 => ?_
  obtain ⟨ts, ws, e1, e2, hl, g⟩ := q1
  have e := atoms_ok e2 (prs_ok e1 r1)
  subst e
  exact ⟨hl, fun d hd => (er _ _ g) H1 d C1.keep hd⟩
theorem run_M {C0 : Addr} {P : List Tr → (List (Str × Tr) → Prop) → Gx → Prop} {t : TS} {f : VS} {N : List Str} {vs : List V} {H : Hp} {Q : VK} (ne : N ≠ []) (hR : RS K E t f) (h : spM K C0 P vs H Q E)
    (hf : ∀ ts PP G, P ts PP G → vs.length = ts.length + 1 → f G { nx := fun z => ∃ fs, z.c[0]? = some (.obj C0 fs) ∧ PP fs, rt := fun r z => r = .p trN ∧ ∃ fs, z.c[0]? = some (.obj C0 fs) ∧ PP fs } ⟨some (.c 0) :: startE N.tail ts, [.obj C0 []]⟩) : t { nx := fun _ H' => Q .non H', rt := Q } (L2.start N vs) H := by
  cases N with
  | nil => exact absurd rfl ne
  | cons n N =>
  obtain ⟨x, dx, ws, H0, F, ts, PP, GG, rfl, rfl, hx, hdx, hne, sF, rq, hp, er, q⟩ := h
  have s0 : Same H0 (upd (upd H0 dx (.own x)) x (.ins C0 dx [])) := (Same.new hdx).new' (by rw [upd_ne (Ne.symm hne)]; exact hx)
  have C := start_cor (K := K) (N := N) (sF.trans s0) rq
  have es : L2.start (n :: N) (.ref x :: ws) = some (.ref x) :: L2.start N ws := by
    unfold L2.start
    rw [List.map_cons, List.cons_append, List.length_cons, List.length_cons, Nat.succ_sub_succ]
  rw [es]
  have fx : F x = none := sF.free hx
  have C1 : Cor K H0 F [x] ⟨some (.c 0) :: startE N ts, [.obj C0 []]⟩ (some (.ref x) :: L2.start N ws) (upd (upd H0 dx (.own x)) x (.ins C0 dx [])) := by
    refine ⟨s0, sF.trans s0, rfl, List.nodup_cons.mpr ⟨by simp, List.nodup_nil⟩, fun k a c e f => ?_, by show _ + 1 = _ + 1; rw [C.elen], fun i r e => ?_⟩
    · cases k with
      | zero => cases e; cases f; exact ⟨fx, hx, dx, [], upd_same, .nil⟩
      | succ k => cases e
    · cases i with
      | zero => cases e; exact ⟨_, rfl, x, rfl, rfl⟩
      | succ i =>
        obtain ⟨v, e1, e2⟩ := C.env i r e
        refine ⟨v, e1, ?_⟩
        cases r with
        | p t => exact e2
        | c k => obtain ⟨a, ea, _⟩ := e2; cases ea
  have fin : ∀ F' α' z σ H' fs, z.c[0]? = some (.obj C0 fs) → XTE H0 F [x] F' α' → Cor K H0 F' α' z σ H' → PP fs → Q .non H' := fun F' α' z σ H' fs e0 x' C' hr => by
    have ep : α'[0]? = some x := x'.get rfl
    obtain ⟨h1, h2, dx', gs, h3, h4⟩ := C'.cell 0 x _ ep e0
    exact q fs gs dx' F' H' hr x'.1 x'.2.2 C'.same C'.keep h1 h3 h4
  refine hR H0 F [x] _ _ _ GG _ _ er (hf ts PP GG hp (by rw [List.length_cons, rq.1])) C1 ⟨fun F' α' z σ H' hn x' C' => ?_, fun F' α' z σ H' r v hr x' C' hv => ?_, fun F' α' z σ H' hn x' C' => hn.elim, fun F' α' z σ H' hn x' C' => hn.elim⟩
  · obtain ⟨fs, e0, hp⟩ := hn
    exact fin F' α' z σ H' fs e0 x' C' hp
  · obtain ⟨rfl, fs, e0, hp⟩ := hr
    have ev := Rp.atom hv
    subst ev
    exact fin F' α' z σ H' fs e0 x' C' hp
end
end VL

set_option maxRecDepth 100000
set_option maxHeartbeats 4000000
/-! # Deriving what a reading is to be told of trees; stepping through it; words of every law -/
namespace VL
open PySem PySem.Spec PyProof.Rows L2
/-- data: no places, at most n deep -/
def Dat : Nat → Tr → Prop
  | _, .a v => Atom v
  | n + 1, .tup ts => ∀ t ∈ ts, Dat n t
  | n + 1, .lst ts => ∀ t ∈ ts, Dat n t
  | _, _ => False
theorem Dat.mono {n : Nat} : ∀ {m : Nat} {t : Tr}, Dat m t → m ≤ n → Dat n t := by
  intro m
  induction n generalizing m with
  | zero =>
    intro t h l
    have : m = 0 := by omega
    subst this; exact h
  | succ n ih =>
    intro t h l
    cases m with
    | zero => cases t <;> first | exact h | exact h.elim
    | succ m => cases t <;> first | exact h | exact h.elim | exact fun u hu => ih (h u hu) (by omega)
theorem dat_I {n : Nat} {i : Int} : Dat n (trI i) := by cases n <;> exact .int i
theorem dat_B {n : Nat} {i : Bool} : Dat n (trB i) := by cases n <;> exact .bl i
theorem dat_S {n : Nat} {i : Str} : Dat n (trS i) := by cases n <;> exact .str i
theorem dat_N {n : Nat} : Dat n trN := by cases n <;> exact .non
theorem dat_mapI {n : Nat} {ns : List Int} : ∀ t ∈ ns.map trI, Dat n t := fun t h => by
  obtain ⟨i, _, rfl⟩ := List.mem_map.mp h
  exact dat_I
theorem dat_map {α : Type} {n : Nat} {f : α → Tr} {xs : List α} (h : ∀ x ∈ xs, Dat n (f x)) : ∀ t ∈ xs.map f, Dat n t := fun t ht => by
  obtain ⟨x, hx, rfl⟩ := List.mem_map.mp ht
  exact h x hx
theorem dat_app {n : Nat} {xs ys : List Tr} (h : ∀ t ∈ xs, Dat n t) (g : ∀ t ∈ ys, Dat n t) : ∀ t ∈ xs ++ ys, Dat n t := fun t ht => (List.mem_append.mp ht).elim (h t) (g t)
theorem dat_nil {n : Nat} : ∀ t ∈ ([] : List Tr), Dat n t := fun t h => (nomatch h)
theorem dat_cons {n : Nat} {x : Tr} {xs : List Tr} (h : Dat n x) (g : ∀ t ∈ xs, Dat n t) : ∀ t ∈ x :: xs, Dat n t := fun t ht => by
  rcases List.mem_cons.mp ht with e | e
  · rw [e]; exact h
  · exact g t e
theorem eqd_of {K : PySem.W.Frag} : ∀ {n : Nat} {t : Tr} {F : Hp} {x y : V}, Dat n t → Rp K F x t → Rp K F y t → Eqd K n F x y := by
  intro n
  induction n with
  | zero =>
    intro t F x y d h1 h2
    cases t with
    | a v => rw [Rp.atom h1, Rp.atom h2]; exact .atom d
    | _ => exact d.elim
  | succ n ih =>
    intro t F x y d h1 h2
    cases t with
    | a v => rw [Rp.atom h1, Rp.atom h2]; exact .atom d
    | tup ts =>
      obtain ⟨p, xs, rfl, g1, b1, q1⟩ := h1.inv_tup
      obtain ⟨p', ys, rfl, g2, b2, q2⟩ := h2.inv_tup
      refine .inr ⟨p, p', xs, ys, rfl, rfl, .inl ⟨g1, g2⟩, by rw [q1.1, q2.1], b1, fun i u v e f => ?_⟩
      have hi : i < ts.length := by rw [← q1.1]; exact (List.getElem?_eq_some_iff.mp e).1
      have et := List.getElem?_eq_getElem hi
      exact ih (d _ (List.mem_of_getElem? et)) (q1.2 i u _ e et) (q2.2 i v _ f et)
    | lst ts =>
      obtain ⟨p, xs, rfl, g1, b1, q1⟩ := h1.inv_lst
      obtain ⟨p', ys, rfl, g2, b2, q2⟩ := h2.inv_lst
      refine .inr ⟨p, p', xs, ys, rfl, rfl, .inr ⟨.of g1, .of g2⟩, by rw [q1.1, q2.1], b1, fun i u v e f => ?_⟩
      have hi : i < ts.length := by rw [← q1.1]; exact (List.getElem?_eq_some_iff.mp e).1
      have et := List.getElem?_eq_getElem hi
      exact ih (d _ (List.mem_of_getElem? et)) (q1.2 i u _ e et) (q2.2 i v _ f et)
    | ins C fs => exact d.elim
    | scr ns => exact d.elim
def pSame (n : Nat) : Pv := fun ts PP _ => ∃ t u, ts = [t, u] ∧ Dat n t ∧ t = u ∧ PP (.t (trB true))
theorem same_of {K : PySem.W.Frag} {n : Nat} {vs : List V} {H : Hp} {Q : VK} {E : XK} (h : spV K (pSame n) vs H Q E) : ∃ (x y : V), vs = [x, y] ∧ Eqd K n H x y ∧ Q (.bl true) H := by
  obtain ⟨F, ts, PP, GG, s, rq, ⟨t, u, rfl, d, rfl, hp⟩, er, q⟩ := h
  obtain ⟨x, r, rfl, r1, r2⟩ := rq.inv'
  obtain ⟨y, r', rfl, r3, r4⟩ := r2.inv'
  cases r4.nil'
  exact ⟨x, y, rfl, (eqd_of d r1 r3).same s, q (.t (trB true)) (.bl true) F H hp (.refl _) .refl s (.refl _) (.a _)⟩
def pDraw : Pd := fun ts PP => ∃ m, ts = [trI m] ∧ 0 < m ∧ m.natAbs < 2 ^ 200 ∧ ∀ v, 0 ≤ v → v < m → PP (.t (trI v))
theorem draw_of {K : PySem.W.Frag} {vs : List V} {H : Hp} {Q : VK} {E : XK} (h : spD K pDraw vs H Q E) : ∃ (p : Addr) (st : List V) (m : Int), vs = [.ref p, .int m] ∧ 0 < m ∧ m.natAbs < 2 ^ 200 ∧ H p = some (.lst st) ∧ PoolOk st ∧ ∀ v st', 0 ≤ v → v < m → PoolOk st' → Q (.int v) (upd H p (.lst st')) := by
  obtain ⟨p, ws, st, F, ts, PP, rfl, hp, ok, fp, s, rq, ⟨m, rfl, m0, m1, hv⟩, q⟩ := h
  obtain ⟨x, r, rfl, r1, r2⟩ := rq.inv'
  cases r2.nil'
  have e := Rp.atom r1
  subst e
  refine ⟨p, st, m, rfl, m0, m1, hp, ok, fun v st' h0 h1 ok' => ?_⟩
  exact q (.t (trI v)) (.int v) F (upd H p (.lst st')) st' (hv v h0 h1) (.refl _) .refl (fun b o e => by rw [upd_ne (fun z => by rw [z, fp] at e; cases e)]; exact s b o e) But.set fp upd_same ok' (.a _)
/-! ### comprehensions -/
section
variable {g : VG} {ft : VT} {fe : VE} {vs : List Nat} {its : List Tr} {G : Gx} {z1 : Z} {Q : List Tr → Z → Prop}
/-- one turn: the item's answer goes to Kp, a miss to Ks -/
def lcT (g : VG) (ft : VT) (fe : VE) (vs : List Nat) (G : Gx) (z1 : Z) (t : Tr) (acc : List Tr) (Kp : Tr → Prop) (Ks : Prop) : Prop :=
  g t ⟨wipeE z1.e vs, z1.c ++ [.lst acc]⟩ fun z2 => ft G z2 fun b z3 => z3.c = z1.c ++ [.lst acc] ∧ (b = true → fe G z3 fun r z4 => z4.c = z1.c ++ [.lst acc] ∧ ∃ u, r = .p u ∧ Kp u) ∧ (b = false → Ks)
/-- [dec y for x in xs if c x], y any with C x y -/
theorem lc_rel {α β : Type} (xs : List α) (enc : α → Tr) (c : α → Bool) (dec : β → Tr) (C : α → β → Prop) (e : its = xs.map enc) (l : xs.length ≤ sizeLine)
    (h : ∀ x ∈ xs, ∀ acc Kp Ks, (∀ y, c x = true → C x y → Kp (dec y)) → (c x = false → Ks) → lcT g ft fe vs G z1 (enc x) acc Kp Ks)
    (q : ∀ ys : List β, ys.length = (xs.filter c).length → (∀ (i : Nat) (x : α) (y : β), (xs.filter c)[i]? = some x → ys[i]? = some y → C x y) → Q (ys.map dec) z1) : lcI g ft fe vs its G z1 Q := by
  subst e
  unfold lcI
  refine ⟨by rw [List.length_map]; exact l, fun i acc => ∃ ys : List β, acc = ys.map dec ∧ ys.length = ((xs.take i).filter c).length ∧ ∀ (j : Nat) (x : α) (y : β), ((xs.take i).filter c)[j]? = some x → ys[j]? = some y → C x y, ⟨[], rfl, by simp, fun j x y _ f => (nomatch f)⟩, fun i t acc et hp => ?_, fun acc hp _ => ?_⟩
  · rw [List.getElem?_map] at et
    cases ex : xs[i]? with
    | none => rw [ex] at et; cases et
    | some x =>
      rw [ex] at et
      cases et
      obtain ⟨ys, rfl, hl, hc⟩ := hp
      have tk : xs.take (i + 1) = xs.take i ++ [x] := by rw [List.take_succ, ex]; rfl
      refine h x (List.mem_of_getElem? ex) (ys.map dec) (fun u => ∃ zs : List β, ys.map dec ++ [u] = zs.map dec ∧ zs.length = ((xs.take (i + 1)).filter c).length ∧ ∀ (j : Nat) (x : α) (y : β), ((xs.take (i + 1)).filter c)[j]? = some x → zs[j]? = some y → C x y)
        (∃ zs : List β, ys.map dec = zs.map dec ∧ zs.length = ((xs.take (i + 1)).filter c).length ∧ ∀ (j : Nat) (x : α) (y : β), ((xs.take (i + 1)).filter c)[j]? = some x → zs[j]? = some y → C x y) (fun y hcx hy => ?_) (fun hcx => ?_)
      · refine ⟨ys ++ [y], by rw [List.map_append]; rfl, ?_, fun j a b ea eb => ?_⟩
        · rw [tk, List.filter_append, List.length_append, List.length_append, hl, List.filter_cons, if_pos hcx]; rfl
        · rw [tk, List.filter_append, List.filter_cons, if_pos hcx] at ea
          by_cases hj : j < ys.length
          · rw [List.getElem?_append_left (by rw [← hl]; exact hj)] at ea
            rw [List.getElem?_append_left hj] at eb
            exact hc j a b ea eb
          · have hj' : j = ys.length := by
              have := (List.getElem?_eq_some_iff.mp eb).1
              rw [List.length_append] at this
              have : j < ys.length + 1 := this
              omega
            subst hj'
            rw [hl] at ea
            rw [List.filter_nil, List.getElem?_concat_length] at ea
            rw [List.getElem?_concat_length] at eb
            cases ea; cases eb
            exact hy
      · refine ⟨ys, rfl, ?_, fun j a b ea eb => ?_⟩
        · rw [tk, List.filter_append, List.filter_cons, if_neg (by rw [hcx]; decide), List.filter_nil, List.append_nil]; exact hl
        · rw [tk, List.filter_append, List.filter_cons, if_neg (by rw [hcx]; decide), List.filter_nil, List.append_nil] at ea
          exact hc j a b ea eb
  · obtain ⟨ys, rfl, hl, hc⟩ := hp
    rw [List.length_map, List.take_length] at hl hc
    exact q ys hl hc
/-- [f x for x in xs if c x] -/
theorem lc_det {α : Type} (xs : List α) (enc : α → Tr) (c : α → Bool) (f : α → Tr) (e : its = xs.map enc) (l : xs.length ≤ sizeLine)
    (h : ∀ x ∈ xs, ∀ acc Kp Ks, (c x = true → Kp (f x)) → (c x = false → Ks) → lcT g ft fe vs G z1 (enc x) acc Kp Ks)
    (q : Q ((xs.filter c).map f) z1) : lcI g ft fe vs its G z1 Q := by
  refine lc_rel xs enc c f (fun x y => x = y) e l (fun x hx acc Kp Ks k1 k2 => h x hx acc Kp Ks (fun hc => k1 x hc rfl) k2) fun ys hl hy => ?_
  have : ys = xs.filter c := by
    refine List.ext_getElem? fun i => ?_
    by_cases hi : i < ys.length
    · have e1 : ys[i]? = some ys[i] := List.getElem?_eq_getElem hi
      have e2 : (xs.filter c)[i]? = some (xs.filter c)[i] := List.getElem?_eq_getElem (by omega)
      rw [e1, e2, hy i _ _ e2 e1]
    · rw [List.getElem?_eq_none (by omega), List.getElem?_eq_none (by omega)]
  rw [this]; exact q
/-- [f x for x in xs if c x], c a proposition -/
theorem lc_detP {α : Type} (xs : List α) (enc : α → Tr) (c : α → Prop) [DecidablePred c] (f : α → Tr) (e : its = xs.map enc) (l : xs.length ≤ sizeLine)
    (h : ∀ x ∈ xs, ∀ acc Kp Ks, (c x → Kp (f x)) → (¬ c x → Ks) → lcT g ft fe vs G z1 (enc x) acc Kp Ks)
    (q : Q ((xs.filter fun x => decide (c x)).map f) z1) : lcI g ft fe vs its G z1 Q :=
  lc_det xs enc (fun x => decide (c x)) f e l (fun x hx acc Kp Ks k1 k2 => h x hx acc Kp Ks (fun hc => k1 (decide_eq_true hc)) (fun hc => k2 (decide_eq_false hc))) q
/-- [f x for x in xs] -/
theorem lc_map {α : Type} (xs : List α) (enc : α → Tr) (f : α → Tr) (e : its = xs.map enc) (l : xs.length ≤ sizeLine)
    (h : ∀ x ∈ xs, ∀ acc Kp Ks, Kp (f x) → lcT g ft fe vs G z1 (enc x) acc Kp Ks)
    (q : Q (xs.map f) z1) : lcI g ft fe vs its G z1 Q := by
  refine lc_det xs enc (fun _ => true) f e l (fun x hx acc Kp Ks k1 k2 => h x hx acc Kp Ks (k1 rfl)) ?_
  rw [List.filter_eq_self.mpr (fun _ _ => rfl)]; exact q
/-- [x for x in xs if c x] -/
theorem lc_fil {α : Type} (xs : List α) (enc : α → Tr) (c : α → Bool) (e : its = xs.map enc) (l : xs.length ≤ sizeLine)
    (h : ∀ x ∈ xs, ∀ acc Kp Ks, (c x = true → Kp (enc x)) → (c x = false → Ks) → lcT g ft fe vs G z1 (enc x) acc Kp Ks)
    (q : Q ((xs.filter c).map enc) z1) : lcI g ft fe vs its G z1 Q := lc_det xs enc c enc e l h q
/-- [y for x in xs], y any with C y, drawn -/
theorem lc_drw {α β : Type} (xs : List α) (enc : α → Tr) (dec : β → Tr) (C : β → Prop) (e : its = xs.map enc) (l : xs.length ≤ sizeLine)
    (h : ∀ x ∈ xs, ∀ acc Kp Ks, (∀ y, C y → Kp (dec y)) → lcT g ft fe vs G z1 (enc x) acc Kp Ks)
    (q : ∀ ys : List β, ys.length = xs.length → (∀ y ∈ ys, C y) → Q (ys.map dec) z1) : lcI g ft fe vs its G z1 Q := by
  refine lc_rel xs enc (fun _ => true) dec (fun _ y => C y) e l (fun x hx acc Kp Ks k1 k2 => h x hx acc Kp Ks (fun y hy => k1 y rfl hy)) fun ys hl hy => ?_
  rw [List.filter_eq_self.mpr (fun _ _ => rfl)] at hl hy
  refine q ys hl fun y hm => ?_
  obtain ⟨i, hi⟩ := List.getElem?_of_mem hm
  have : i < xs.length := by rw [← hl]; exact (List.getElem?_eq_some_iff.mp hi).1
  exact hy i _ y (List.getElem?_eq_getElem this) hi
end
/-! ### deriving -/
theorem run_D2 {K : PySem.W.Frag} {E E' : XK} {P : Pd} {t : TS} {f : VS} {N : List Str} {vs : List V} {H : Hp} {Q : VK} (ne : N ≠ []) (hR : RS K E t f) (h : spD K P vs H Q E')
    (hf : ∀ ts PP, P ts PP → vs.length = ts.length + 1 → f (fun _ _ => False) { nx := fun z => z.c[0]? = some .pool ∧ PP (.t trN), rt := kED PP } ⟨some (.c 0) :: startE N.tail ts, [.pool]⟩) : t { nx := fun _ H' => Q .non H', rt := Q } (L2.start N vs) H := by
  cases N with
  | nil => exact absurd rfl ne
  | cons x N => exact run_D hR h hf
theorem forW {g : VG} {fb : VS} {n0 : Nat} {its : List Tr} {G : Gx} {D : VEnds} {z1 : Z} (I : Nat → Z → Prop) (h0 : Wk n0 z1 (I 0))
    (hs : ∀ i t z, its[i]? = some t → I i z → g t z fun z2 => fb G { nx := fun z' => Wk n0 z' (I (i + 1)), ct := fun z' => Wk n0 z' (I (i + 1)), bk := D.nx, rt := D.rt } z2) (hd : ∀ z, I its.length z → D.nx z) : forI g fb n0 its G D z1 := by
  unfold forI; exact ⟨I, h0, hs, hd⟩
/-- items told by enc; the state after i turns is one of those of I i -/
theorem forT {α : Type} {g : VG} {fb : VS} {n0 : Nat} {its : List Tr} {G : Gx} {D : VEnds} {z1 : Z} (xs : List α) (enc : α → Tr) (e : its = xs.map enc) (I : Nat → Z → Prop) (h0 : Wk n0 z1 (I 0))
    (hs : ∀ i x z, xs[i]? = some x → I i z → g (enc x) z fun z2 => fb G { nx := fun z' => Wk n0 z' (I (i + 1)), ct := fun z' => Wk n0 z' (I (i + 1)), bk := D.nx, rt := D.rt } z2) (hd : ∀ z, I xs.length z → D.nx z) : forI g fb n0 its G D z1 := by
  subst e
  refine forW I h0 (fun i t z et hz => ?_) (fun z hz => hd z (by rw [List.length_map] at hz; exact hz))
  rw [List.getElem?_map] at et
  cases ex : xs[i]? with
  | none => rw [ex] at et; cases et
  | some x => rw [ex] at et; cases et; exact hs i x z ex hz
/-- enumerate -/
theorem forE {α : Type} {g : VG} {fb : VS} {n0 : Nat} {its : List Tr} {G : Gx} {D : VEnds} {z1 : Z} (k : Int) (xs : List α) (enc : α → Tr) (e : its = enT k (xs.map enc)) (I : Nat → Z → Prop) (h0 : Wk n0 z1 (I 0))
    (hs : ∀ i x z, xs[i]? = some x → I i z → g (.tup [trI (k + (i : Nat)), enc x]) z fun z2 => fb G { nx := fun z' => Wk n0 z' (I (i + 1)), ct := fun z' => Wk n0 z' (I (i + 1)), bk := D.nx, rt := D.rt } z2) (hd : ∀ z, I xs.length z → D.nx z) : forI g fb n0 its G D z1 := by
  subst e
  refine forW I h0 (fun i t z et hz => ?_) (fun z hz => hd z (by rw [enT_len, List.length_map] at hz; exact hz))
  obtain ⟨u, eu, rfl⟩ := enT_get et
  rw [List.getElem?_map] at eu
  cases ex : xs[i]? with
  | none => rw [ex] at eu; cases eu
  | some x => rw [ex] at eu; cases eu; exact hs i x z ex hz
/-- range -/
theorem forR {g : VG} {fb : VS} {n0 : Nat} {its : List Tr} {G : Gx} {D : VEnds} {z1 : Z} (lo : Int) (n : Nat) (e : its = (List.range n).map fun i => trI (lo + (i : Nat))) (I : Nat → Z → Prop) (h0 : Wk n0 z1 (I 0))
    (hs : ∀ i z, i < n → I i z → g (trI (lo + (i : Nat))) z fun z2 => fb G { nx := fun z' => Wk n0 z' (I (i + 1)), ct := fun z' => Wk n0 z' (I (i + 1)), bk := D.nx, rt := D.rt } z2) (hd : ∀ z, I n z → D.nx z) : forI g fb n0 its G D z1 := by
  refine forT (List.range n) _ e I h0 (fun i x z ex hz => ?_) (fun z hz => hd z (by rw [List.length_range] at hz; exact hz))
  have hi : i < n := by
    have := (List.getElem?_eq_some_iff.mp ex).1
    rw [List.length_range] at this; exact this
  rw [List.getElem?_range hi] at ex
  cases ex
  exact hs i z hi hz
theorem atI_I {f : Int → Tr} {xs : List Int} {i : Int} (h0 : 0 ≤ i) (h : i < xs.length) : L2.atI (xs.map f) i = some (f (xs.getD i.toNat 0)) := by
  obtain ⟨k, rfl⟩ : ∃ k : Nat, i = k := ⟨i.toNat, by omega⟩
  have hk : k < xs.length := by omega
  exact atI_nat (by rw [List.getElem?_map, List.getElem?_eq_getElem hk, Int.toNat_natCast, List.getD_eq_getElem?_getD, List.getElem?_eq_getElem hk]; rfl)
theorem atI_L {f : List Int → Tr} {xs : List (List Int)} {i : Int} (h0 : 0 ≤ i) (h : i < xs.length) : L2.atI (xs.map f) i = some (f (xs.getD i.toNat [])) := by
  obtain ⟨k, rfl⟩ : ∃ k : Nat, i = k := ⟨i.toNat, by omega⟩
  have hk : k < xs.length := by omega
  exact atI_nat (by rw [List.getElem?_map, List.getElem?_eq_getElem hk, Int.toNat_natCast, List.getD_eq_getElem?_getD, List.getElem?_eq_getElem hk]; rfl)
theorem ltLen {n : Nat} (h : Nat.ble (n + 1) 1000 = true) : n < 1000 := Nat.le_of_ble_eq_true h
theorem ifG {b : Bool} {A B : Prop} (h : (b = true → A) ∧ (b = false → B)) : (b = true → A) ∧ (b = false → B) := h
theorem list_rng {α β : Type} (d : α) (xs : List α) (f : α → β) : xs.map f = (List.range xs.length).map fun i => f (xs.getD i d) := by
  refine List.ext_getElem? fun i => ?_
  by_cases hi : i < xs.length
  · rw [List.getElem?_map, List.getElem?_map, List.getElem?_range hi, List.getElem?_eq_getElem hi, Option.map_some, Option.map_some, List.getD_eq_getElem?_getD, List.getElem?_eq_getElem hi]; rfl
  · rw [List.getElem?_eq_none (by rw [List.length_map]; omega), List.getElem?_eq_none (by rw [List.length_map, List.length_range]; omega)]
theorem enT_rng {α : Type} (d : α) (k : Int) (xs : List α) (enc : α → Tr) : enT k (xs.map enc) = (List.range xs.length).map fun i => .tup [trI (k + (i : Nat)), enc (xs.getD i d)] := by
  refine List.ext_getElem? fun i => ?_
  by_cases hi : i < xs.length
  · have e : (enT k (xs.map enc))[i]? = some ((enT k (xs.map enc))[i]'(by rw [enT_len, List.length_map]; exact hi)) := List.getElem?_eq_getElem _
    obtain ⟨u, eu, e2⟩ := enT_get e
    rw [e, e2, List.getElem?_map, List.getElem?_range hi, Option.map_some]
    rw [List.getElem?_map, List.getElem?_eq_getElem hi] at eu
    cases eu
    rw [List.getD_eq_getElem?_getD, List.getElem?_eq_getElem hi]; rfl
  · rw [List.getElem?_eq_none (by rw [enT_len, List.length_map]; omega), List.getElem?_eq_none (by rw [List.length_map, List.length_range]; omega)]
theorem lenF {α : Type} {p : α → Bool} {xs : List α} {n : Nat} (h : xs.length ≤ n) : (xs.filter p).length ≤ n := Nat.le_trans (List.length_filter_le ..) h
theorem ifEq {i j : Int} {A B : Prop} (h1 : i = j → A) (h2 : i ≠ j → B) : (eqA (V.int i) (V.int j) = true → A) ∧ (eqA (V.int i) (V.int j) = false → B) := ⟨fun h => h1 (of_decide_eq_true h), fun h => h2 (of_decide_eq_false h)⟩
theorem cutA_le {α : Type} (xs : List α) (lo hi : Option Int) : (cutA xs lo hi).length ≤ xs.length := by
  unfold cutA
  rw [List.length_take, List.length_drop]
  omega
theorem andF {α : Sort _} {P : α → Prop} {b : Prop} (h1 : ∀ x, P x) (h2 : b) : (∀ x, P x) ∧ b := ⟨h1, h2⟩
theorem ifD {p A B : Prop} [Decidable p] (h1 : p → A) (h2 : ¬ p → B) : (decide p = true → A) ∧ (decide p = false → B) := ⟨fun h => h1 (of_decide_eq_true h), fun h => h2 (of_decide_eq_false h)⟩
theorem ifND {p A B : Prop} [Decidable p] (h1 : ¬ p → A) (h2 : p → B) : ((!decide p) = true → A) ∧ ((!decide p) = false → B) := by
  by_cases c : p
  · exact ⟨fun h => absurd h (by rw [decide_eq_true c]; decide), fun _ => h2 c⟩
  · exact ⟨fun _ => h1 c, fun h => absurd h (by rw [decide_eq_false c]; decide)⟩
theorem ifNe {i j : Int} {A B : Prop} (h1 : i ≠ j → A) (h2 : i = j → B) : ((!eqA (V.int i) (V.int j)) = true → A) ∧ ((!eqA (V.int i) (V.int j)) = false → B) := ifND h1 h2
theorem ifTt {A B : Prop} (h : A) : (true = true → A) ∧ (true = false → B) := ⟨fun _ => h, fun h => nomatch h⟩
theorem ifFf {A B : Prop} (h : B) : (false = true → A) ∧ (false = false → B) := ⟨fun h => (nomatch h), fun _ => h⟩
theorem ifB {b : Bool} {A B : Prop} (h1 : b = true → A) (h2 : b = false → B) : (b = true → A) ∧ (b = false → B) := ⟨h1, h2⟩
theorem exTr {P : Tr → Prop} {x : Tr} (h : P x) : ∃ x, P x := ⟨x, h⟩
theorem exSv {P : Sv → Prop} {x : Sv} (h : P x) : ∃ x, P x := ⟨x, h⟩
theorem exN {P : Nat → Prop} {x : Nat} (h : P x) : ∃ x, P x := ⟨x, h⟩
theorem sidL {n : Nat} (h : n ≤ 1000000) : n ≤ sizeLine := by rw [sizeLine_eq]; omega
theorem sidLt {n : Nat} (h : n < 1000000) : n < sizeLine := by rw [sizeLine_eq]; omega
end VL
/- what a reading is to be told: its derivation -/
local macro_rules | `(tactic| kbo_bools) => `(tactic| first
  | with_reducible exact VL.rs_next | with_reducible exact VL.rs_break | with_reducible exact VL.rs_cont | with_reducible exact VL.rs_retN
  | (with_reducible refine' VL.rs_seq ?_ ?_) | (with_reducible refine' VL.rs_cutI ?_ ?_) | (with_reducible refine' VL.rs_if ?_ ?_ ?_) | (with_reducible refine' VL.rs_for ?_ ?_ ?_)
  | (with_reducible refine' VL.rs_fldSet ?_ ?_) | (with_reducible refine' VL.rs_raise ?_) | (with_reducible refine' VL.rs_asgI ?_ ?_ ?_) | (with_reducible refine' VL.rs_aug ?_) | (with_reducible refine' VL.rs_drop ?_)
  | (with_reducible refine' VL.rs_asgR (by with_reducible assumption) (VL.re_var)) | (with_reducible refine' VL.rs_asgR (by with_reducible assumption) (VL.re_pool ?_)) | (with_reducible refine' VL.rs_asgC (by with_reducible assumption) ?_)
  | (with_reducible refine' VL.rs_asg ?_ ?_)
  | (with_reducible refine' VL.rs_retC (VL.rc_lst ?_)) | (with_reducible refine' VL.rs_retC (VL.rc_lc ?_ ?_ ?_ ?_ ?_)) | (with_reducible refine' VL.rs_retC (VL.rc_op VL.rrc_cat ?_ ?_)) | (with_reducible refine' VL.rs_retC (VL.rc_op VL.rrc_repI ?_ ?_)) | (with_reducible refine' VL.rs_retC (VL.rc_slL ?_ ?_ ?_)) | (with_reducible refine' VL.rs_retC (VL.rc_cb VL.rcc_list ?_)) | (with_reducible refine' VL.rs_retC (VL.rc_cb VL.rcc_sorted ?_))
  | (with_reducible refine' VL.rs_ret ?_)
  | with_reducible exact VL.rg_name | (with_reducible refine' VL.rg_tup ?_) | (with_reducible refine' VL.rg_cons ?_ ?_) | with_reducible exact VL.rg_nil
  | with_reducible exact VL.ro_no | (with_reducible refine' VL.ro_part ?_)
  | with_reducible exact VL.ra_nil | (with_reducible refine' VL.ra_cons ?_ ?_)
  | with_reducible exact VL.rt_yes | (with_reducible refine' VL.rt_and ?_ ?_) | (with_reducible refine' VL.rt_or ?_ ?_) | (with_reducible refine' VL.rt_not ?_) | (with_reducible refine' VL.rt_tB ?_) | (with_reducible refine' VL.rt_test ?_) | (with_reducible refine' VL.rt_tru ?_)
  | (with_reducible refine' VL.ri_list ?_) | (with_reducible refine' VL.ri_tup ?_) | (with_reducible refine' VL.ri_seqV ?_) | (with_reducible refine' VL.ri_rng1 ?_) | (with_reducible refine' VL.ri_rng2 ?_) | (with_reducible refine' VL.ri_enumA ?_) | (with_reducible refine' VL.ri_enumS ?_ ?_) | (with_reducible refine' VL.ri_zip ?_) | (with_reducible refine' VL.ri_rev ?_) | (with_reducible refine' VL.ri_own ?_)
  | (with_reducible refine' VL.rc_lst ?_) | (with_reducible refine' VL.rc_lc ?_ ?_ ?_ ?_ ?_) | (with_reducible refine' VL.rc_op VL.rrc_cat ?_ ?_) | (with_reducible refine' VL.rc_op VL.rrc_repI ?_ ?_) | (with_reducible refine' VL.rc_op VL.rrc_rep ?_ ?_) | (with_reducible refine' VL.rc_slL ?_ ?_ ?_) | (with_reducible refine' VL.rc_cb VL.rcc_list ?_) | (with_reducible refine' VL.rc_cb VL.rcc_sorted ?_) | (with_reducible refine' VL.rc_call ?_ ?_) | (with_reducible refine' VL.rc_callD ?_ ?_) | (with_reducible refine' VL.rc_draw ?_) | (with_reducible refine' VL.rc_meth ?_ ?_ ?_)
  | with_reducible exact VL.only_name (by decide) | (with_reducible refine' VL.only_tup ?_) | (with_reducible refine' VL.only_cons ?_ ?_ ?_ ?_) | with_reducible exact VL.only_nil
  | with_reducible exact VL.mono_name | (with_reducible refine' VL.mono_tup ?_) | (with_reducible refine' VL.mono_cons ?_ ?_) | with_reducible exact VL.mono_nil
  | with_reducible exact VL.EE.same | with_reducible exact VL.EE.none | with_reducible exact VL.EE.none'
  | with_reducible exact VL.re_var | with_reducible exact VL.re_C | (with_reducible refine' VL.re_tup ?_) | (with_reducible refine' VL.re_if ?_ ?_ ?_) | (with_reducible refine' VL.re_fld ?_) | (with_reducible refine' VL.re_cval ?_)
  | (with_reducible refine' VL.re_andV ?_ ?_) | (with_reducible refine' VL.re_orV ?_ ?_) | (with_reducible refine' VL.re_notV ?_) | (with_reducible refine' VL.re_notU ?_)
  | (with_reducible refine' VL.re_call ?_ ?_) | (with_reducible refine' VL.re_callD ?_ ?_) | (with_reducible refine' VL.re_draw ?_) | (with_reducible refine' VL.re_pool ?_) | (with_reducible refine' VL.re_make ?_ ?_) | (with_reducible refine' VL.re_meth ?_ ?_ ?_) | (with_reducible refine' VL.re_prop ?_ ?_) | (with_reducible refine' VL.re_lenO ?_ ?_) | (with_reducible refine' VL.re_ownIx ?_ ?_ ?_) | (with_reducible refine' VL.re_own2 ?_ ?_ ?_) | (with_reducible refine' VL.re_ownN ?_ ?_)
  | (with_reducible refine' VL.re_chain ?_ ?_ ?_ ?_ ?_) | with_reducible exact VL.rr_I0 | with_reducible exact VL.rr_I | with_reducible exact VL.rr_eq | with_reducible exact VL.rr_ne
  | (with_reducible refine' VL.re_op VL.rr_I0 ?_ ?_) | (with_reducible refine' VL.re_op VL.rr_I ?_ ?_) | (with_reducible refine' VL.re_op VL.rr_eq ?_ ?_) | (with_reducible refine' VL.re_op VL.rr_ne ?_ ?_) | (with_reducible refine' VL.re_op VL.rr_isN ?_ ?_) | (with_reducible refine' VL.re_op VL.rr_notN ?_ ?_)
  | (with_reducible refine' VL.re_op VL.rr_ixL ?_ ?_) | (with_reducible refine' VL.re_op VL.rr_ixT ?_ ?_) | (with_reducible refine' VL.re_op VL.rr_ix ?_ ?_) | (with_reducible refine' VL.re_op VL.rr_in ?_ ?_) | (with_reducible refine' VL.re_op VL.rr_eqRow ?_ ?_)
  | (with_reducible refine' VL.re_opT VL.rrt_cat ?_ ?_) | (with_reducible refine' VL.re_opT VL.rrt_rep ?_ ?_) | (with_reducible refine' VL.re_slT ?_ ?_ ?_) | (with_reducible refine' VL.re_un VL.rr_U ?_)
  | (with_reducible refine' VL.re_cb VL.rcb_len ?_) | (with_reducible refine' VL.re_cb VL.rcb_lenQ ?_) | (with_reducible refine' VL.re_cb VL.rcb_abs ?_) | (with_reducible refine' VL.re_cb VL.rcb_max2 ?_) | (with_reducible refine' VL.re_cb VL.rcb_min2 ?_) | (with_reducible refine' VL.re_cb VL.rcb_sum ?_) | (with_reducible refine' VL.re_cb VL.rcb_sumA ?_) | (with_reducible refine' VL.re_cb VL.rcb_max ?_) | (with_reducible refine' VL.re_cb VL.rcb_min ?_) | (with_reducible refine' VL.re_cb VL.rcb_any ?_) | (with_reducible refine' VL.re_cb VL.rcb_all ?_) | (with_reducible refine' VL.re_cb VL.rcb_int1 ?_) | (with_reducible refine' VL.re_cb VL.rcb_bool1 ?_)
  | (with_reducible refine' VL.re_cbT VL.rct_tup ?_) | (with_reducible refine' VL.re_bm VL.rmt_app ?_ ?_) | (with_reducible refine' VL.re_bm VL.rmt_ext ?_ ?_) | (with_reducible refine' VL.re_bm VL.rmt_cnt ?_ ?_)
  | (with_reducible refine' VL.re_fz ?_))
/- side conditions -/
local macro_rules | `(tactic| keq_hits) => `(tactic| first
  | exact rfl
  | with_reducible assumption
  | (refine Or.inl ?_; exact rfl) | (refine Or.inr ?_; exact rfl) | (refine Or.inl ?_; exact ⟨rfl, by keq_hits⟩)
  | omega
  | exact VL.ltLen rfl
  | (refine VL.sidL ?_; (try simp only [List.length_map, List.length_append, List.length_replicate, List.length_cons, List.length_nil, List.length_range, List.length_set]); omega)
  | (refine VL.sidL ?_; (try simp only [List.length_map]); refine VL.lenF ?_; (try simp only [List.length_map, List.length_range]); omega)
  | (refine VL.sidLt ?_; (try simp only [List.length_map, List.length_append, List.length_replicate, List.length_cons, List.length_nil, List.length_range, List.length_set]); omega)
  | exact L2.drawOk (by omega) (by omega)
  | exact L2.ixN_ok (by omega) (by (try simp only [List.length_map, List.length_set, List.length_range, List.length_replicate]); omega)
  | exact VL.atI_I (by omega) (by omega) | exact VL.atI_L (by omega) (by omega)
  | exact ⟨by omega, by omega, by omega, by omega⟩
  | exact ⟨_, rfl⟩
  | decide
  | (refine VL.sidL ?_; (try simp only [List.length_map, List.length_append, List.length_cons, List.length_nil]); grind [VL.cutA_le])
  | (refine VL.sidLt ?_; (try simp only [List.length_map, List.length_append, List.length_cons, List.length_nil]); grind [VL.cutA_le])
  | ((try simp only [List.length_map, List.length_append, List.length_cons, List.length_nil]); grind))
/- one step -/
local macro_rules | `(tactic| kp_flats) => `(tactic| first
  | (with_reducible exact L2.tf) | (with_reducible exact L2.ft)
  | (with_reducible intro h; try simp only [List.length_map] at h)
  | ((with_reducible apply VL.exTr)) | ((with_reducible apply VL.exSv)) | ((with_reducible apply L2.exV)) | ((with_reducible apply L2.exA)) | ((with_reducible apply L2.exI)) | ((with_reducible apply L2.exB)) | ((with_reducible apply VL.exN)) | ((with_reducible apply L2.exVal)) | ((with_reducible apply L2.exL)) | ((with_reducible apply L2.exS))
  | ((with_reducible refine VL.ifG ?_); first
    | (with_reducible refine VL.ifTt ?_) | (with_reducible refine VL.ifFf ?_)
    | ((with_reducible refine VL.ifD ?_ ?_) <;> intro h <;> (try simp only [List.length_map] at h) <;> first | (exfalso; omega) | exact absurd rfl h | skip)
    | ((with_reducible refine VL.ifND ?_ ?_) <;> intro h <;> (try simp only [List.length_map] at h) <;> first | (exfalso; omega) | exact absurd rfl h | skip)
    | ((with_reducible refine VL.ifEq ?_ ?_) <;> intro h <;> (try simp only [List.length_map] at h) <;> first | (exfalso; omega) | exact absurd rfl h | skip)
    | ((with_reducible refine VL.ifNe ?_ ?_) <;> intro h <;> (try simp only [List.length_map] at h) <;> first | (exfalso; omega) | exact absurd rfl h | skip)
    | (refine VL.ifTt ?_) | (refine VL.ifFf ?_)
    | ((refine VL.ifD ?_ ?_) <;> intro h <;> (try simp only [List.length_map] at h) <;> first | (exfalso; omega) | exact absurd rfl h | skip)
    | ((with_reducible refine VL.ifB ?_ ?_) <;> intro h <;> (try simp only [List.length_map] at h) <;> first | (exfalso; omega) | exact absurd rfl h | skip))
  | ((with_reducible refine Or.inl ?_); (repeat (first | with_reducible apply L2.exL | with_reducible apply L2.exI | with_reducible apply L2.exB)); (with_reducible refine And.intro ?_ ?_); (· exact rfl))
  | ((with_reducible refine Or.inr ?_); (repeat (first | with_reducible apply L2.exL | with_reducible apply L2.exI | with_reducible apply L2.exB)); (with_reducible refine And.intro ?_ ?_); (· exact rfl))
  | ((with_reducible show False); first | omega | contradiction)
  | (with_reducible refine VL.andF ?_ ?_)
  | ((with_reducible refine And.intro ?_ ?_); (· keq_hits)))
local macro_rules | `(tactic| keq_rows) => `(tactic| ((repeat' (first | kp_flats | ((conv => whnf); kp_flats))) <;> (try dsimp only [VL.fNext, VL.fBreak, VL.fCont, VL.Z.set, VL.Z.put, VL.Z.putO, VL.kE, VL.kR, VL.kM, List.set, List.length_cons, List.length_nil, Nat.reduceAdd, List.nil_append, List.cons_append]) <;> (try simp only [List.length_map, Int.zero_add])))
/- slots forgotten -/
local macro_rules | `(tactic| kx_w2) => `(tactic| ((conv => whnf); first | exact True.intro | (refine ⟨rfl, ?_, ?_⟩; (· first | exact True.intro | exact Nat.le_of_ble_eq_true rfl); (· kx_w2))))

set_option maxRecDepth 100000
set_option maxHeartbeats 4000000
/-! # Defs with one keyword-only parameter -/
namespace VL
open PySem PySem.Spec PyProof.Rows L2
structure OkW (P : Program) (w : World) (K : PySem.W.Frag) (mg : Str → Option Value) (base : Heap) (CX : CXT) (k : Nat) (f : Addr) (ps : List Str) (sp : Sp) (n : Nat) (q : Str × V) : Prop where
  ex : ∃ fd, FnOk P w K mg base CX k f fd ps sp ∧ PySem.W.keepIn K (.ref f) = true ∧ (∃ ds, Vals [q.2] ds ∧ Binds K fd ps ds) ∧ ∃ mv : List Value, KBn K fd ps n [q.1] (fun us ws => us ++ ws) (fun vs zs => vs ++ zs)
section
variable {P : Program} {w : World} {K : PySem.W.Frag} {mg : Str → Option Value} {base : Heap} {CX : CXT} {k j n : Nat} {q : Str × V} {f : Addr} {ps : List Str} {sp sp' : Sp}
theorem OkW.mono (O : OkW P w K mg base CX k f ps sp n q) (h : k ≤ j) : OkW P w K mg base CX j f ps sp n q := let ⟨fd, a, b, c⟩ := O.ex; ⟨fd, a.mono h, b, c⟩
theorem OkW.imp (O : OkW P w K mg base CX k f ps sp n q) (h : ∀ vs H Q E, sp' vs H Q E → sp vs H Q E) : OkW P w K mg base CX k f ps sp' n q := let ⟨fd, a, b, c⟩ := O.ex; ⟨fd, a.imp h, b, c⟩
theorem OkW.of {x qual : Str} {params : Arguments} {body : List Stmt} {scope : Scope} {N : List Str} (m : Nat) (hf : ∃ fd, FunD K x qual params body scope [] [q] f fd) (S : FnScope N ps scope)
    (hb : ∀ {fd : FuncData}, FunD K x qual params body scope [] [q] f fd → (∃ ds, Vals [q.2] ds ∧ Binds K fd ps ds) ∧ ∃ mv : List Value, KBn K fd ps n [q.1] (fun us ws => us ++ ws) (fun vs zs => vs ++ zs)) (hk : m + 1 ≤ k)
    (len : ∀ vs H Q E, sp vs H Q E → vs.length = ps.length)
    (hbody : ∀ (cdv : Value) (A : Around) (outer : List Env) (s : Shared) (H : Hp) (vs : List V) (Q : VK) (E : XK), Room m (A.deeper (envOfC qual scope s.heap.objs.size f cdv)) → sp vs H Q E →
      ∃ t, PSs (cxOf CX P w K mg base N qual scope f cdv A outer s H E) body t ∧ t { nx := fun _ H' => Q .non H', rt := Q } (L2.start N vs) H) : OkW P w K mg base CX k f ps sp n q := by
  obtain ⟨fd, F⟩ := hf
  exact ⟨fd, (F.ok S len hbody).mono hk, F.kp, hb F⟩
end
section
variable {X : Cx} {CX : CXT} {k n : Nat} {q : Str × V} {f C : Addr} {ps : List Str} {sp : Sp} {E : XK} {x : Str} {p pos : Pos} {e : Expr} {es : List Expr} {kws : List Keyword} {t tk : TA}
/-- f(e, ..), the keyword left out -/
theorem pcD (O : OkW X.prog X.w X.K X.mg X.base CX k f ps sp n q) (hr : Room k X.A) (hm : X.mg x = some (.ref f)) (hx : Passes CX X E) (ha : PA X (e :: es) t) (hg : Gl X x := by rfl) (hdb : (x == ("__debug__" : Str)) = false := by decide)
    (he : starEach (e :: es) X.env = (false, eval e X.env) :: starEach es X.env := by rfl) (hpl : (backTo pos (starEach es X.env)).any (·.1) = false := by rfl) :
    PE X (.Call (.Name x p) (e :: es) [] pos) (tCall sp [q.2] E t) := let ⟨fd, a, b, ⟨ds, c1, c2⟩, _⟩ := O.ex; pe_call a hr hg hm b c2 c1 hx ha hdb he hpl
/-- f(e, .., q = v) -/
theorem pcK (O : OkW X.prog X.w X.K X.mg X.base CX k f ps sp n q) (hr : Room k X.A) (hm : X.mg x = some (.ref f)) (hx : Passes CX X E) (ha : PA X (e :: es) t) (hkw : PK X kws tk) (hg : Gl X x := by rfl)
    (hall : (backToKw pos (keywordEach kws X.env)).all (·.1.isSome) = true := by rfl) (hks : (backToKw pos (keywordEach kws X.env)).filterMap (·.1) = [q.1] := by rfl)
    (hdb : (x == ("__debug__" : Str)) = false := by decide) (he : starEach (e :: es) X.env = (false, eval e X.env) :: starEach es X.env := by rfl)
    (hpl : ((backTo pos (starEach (e :: es) X.env)).any (·.1) || (backToKw pos (keywordEach kws X.env)).any (·.1.isNone)) = false := by rfl) :
    PE X (.Call (.Name x p) (e :: es) kws pos) (tCallN n 1 sp (fun vs zs => vs ++ zs) E t tk) := let ⟨fd, a, b, _, ⟨mv, c⟩⟩ := O.ex; pe_callN a hr hg hm b c hx ha hkw hall hks hdb he hpl
theorem pmkD (O : OkW X.prog X.w X.K X.mg X.base CX k f ps sp n q) (M : Mk X.K C f) (hr : Room (k + 1) X.A) (hm : X.mg x = some (.ref C)) (hx : Passes CX X E) (ha : PA X (e :: es) t) (hg : Gl X x := by rfl) (hdb : (x == ("__debug__" : Str)) = false := by decide)
    (he : starEach (e :: es) X.env = (false, eval e X.env) :: starEach es X.env := by rfl) (hpl : (backTo pos (starEach es X.env)).any (·.1) = false := by rfl) :
    PE X (.Call (.Name x p) (e :: es) [] pos) (tMake C sp [q.2] E t) := let ⟨fd, a, b, ⟨ds, c1, c2⟩, _⟩ := O.ex; pe_make M a hr hg hm c2 c1 hx ha hdb he hpl
theorem pmkK (O : OkW X.prog X.w X.K X.mg X.base CX k f ps sp (n + 1) q) (M : Mk X.K C f) (hr : Room (k + 1) X.A) (hm : X.mg x = some (.ref C)) (hx : Passes CX X E) (ha : PA X (e :: es) t) (hkw : PK X kws tk) (hg : Gl X x := by rfl)
    (hall : (backToKw pos (keywordEach kws X.env)).all (·.1.isSome) = true := by rfl) (hks : (backToKw pos (keywordEach kws X.env)).filterMap (·.1) = [q.1] := by rfl) (hdb : (x == ("__debug__" : Str)) = false := by decide)
    (he : starEach (e :: es) X.env = (false, eval e X.env) :: starEach es X.env := by rfl) (hpl : ((backTo pos (starEach (e :: es) X.env)).any (·.1) || (backToKw pos (keywordEach kws X.env)).any (·.1.isNone)) = false := by rfl) :
    PE X (.Call (.Name x p) (e :: es) kws pos) (tMakeK C n 1 sp (fun vs zs => vs ++ zs) E t tk) := let ⟨fd, a, b, _, ⟨mv, c⟩⟩ := O.ex; pe_makeK M a hr hg hm c hx ha hkw hall hks hdb he hpl
end
section
variable {K : PySem.W.Frag} {E : XK} {B F F' : Hp} {α α' β : List Addr} {z z' : Z} {σ : L2.St} {H H' : Hp}
theorem Rvs.append {vs ws : List V} {rs ss : List Sv} (h : Rvs K F α vs rs) (g : Rvs K F α ws ss) : Rvs K F α (vs ++ ws) (rs ++ ss) := by
  induction h with
  | nil => exact g
  | cons h r ih => exact .cons h ih
def fCallK (ge : Gx → Gx) (n m : Nat) (P : Pv) (fa fk : VA) : VE := fun G z Q => fa G z fun rs z1 => fk G z1 fun ss z2 => rs.length = n ∧ ss.length = m ∧ ∃ ts, prs (rs ++ ss) = some ts ∧ P ts (kR Q z2) (ge G)
theorem re_callK {E' : XK} {ge : Gx → Gx} {n m : Nat} {P : Pv} {ta tk : TA} {fa fk : VA} (ee : EE E E' ge) (h : RA K E ta fa) (h' : RA K E tk fk) : RE K E (tCallN n m (spV K P) (fun vs zs => vs ++ zs) E' ta tk) (fCallK ge n m P fa fk) := by
  intro B F α z σ H G Qv Q er hf C k
  refine h B F α z σ H G _ _ er hf C fun F1 α1 z1 rs vs H1 q1 x1 C1 r1 => ?_
  refine h' B F1 α1 z1 σ H1 G _ _ er q1 C1 fun F2 α2 z2 ss zs H2 q2 x2 C2 r2 => ?_
  obtain ⟨l1, l2, ts, e, hp⟩ := q2
  refine ⟨by rw [r1.length]; exact l1, by rw [r2.length]; exact l2, ?_⟩
  refine callV C2 (ee.ok er) (prs_ok e ((r1.ext x2).append r2)) hp (fun F3 t v H3 q x3 C3 r3 => k F3 α2 z2 _ v H3 q ((x1.trans x2).trans x3) C3 r3) fun F3 us xs a H3 q x3 C3 rq ha lx => ?_
  obtain ⟨C4, x4⟩ := C3.fz (.lst xs) ha
  have rq4 := rq.same x4.1
  exact k _ α2 z2 _ _ _ q (((x1.trans x2).trans x3).trans x4) C4 (Rp.lst upd_same lx rq4.1 rq4.2)
def fCallKC (ge : Gx → Gx) (n m : Nat) (P : Pv) (fa fk : VA) : VC := fun G z Q => fa G z fun rs z1 => fk G z1 fun ss z2 => rs.length = n ∧ ss.length = m ∧ ∃ ts, prs (rs ++ ss) = some ts ∧ P ts (kL Q z2) (ge G)
theorem rc_callK {E' : XK} {ge : Gx → Gx} {n m : Nat} {P : Pv} {ta tk : TA} {fa fk : VA} (ee : EE E E' ge) (h : RA K E ta fa) (h' : RA K E tk fk) : RC K E (tCallN n m (spV K P) (fun vs zs => vs ++ zs) E' ta tk) (fCallKC ge n m P fa fk) := by
  intro B F α z σ H G Qv Q er hf C k
  refine h B F α z σ H G _ _ er hf C fun F1 α1 z1 rs vs H1 q1 x1 C1 r1 => ?_
  refine h' B F1 α1 z1 σ H1 G _ _ er q1 C1 fun F2 α2 z2 ss zs H2 q2 x2 C2 r2 => ?_
  obtain ⟨l1, l2, ts, e, hp⟩ := q2
  refine ⟨by rw [r1.length]; exact l1, by rw [r2.length]; exact l2, ?_⟩
  exact callV C2 (ee.ok er) (prs_ok e ((r1.ext x2).append r2)) hp (fun F3 t v H3 q x3 C3 r3 => q.elim) fun F3 us xs a H3 q x3 C3 rq ha lx => k F3 α2 z2 us xs a H3 q ((x1.trans x2).trans x3) C3 rq ha lx
def fMakeK (ge : Gx → Gx) (n m : Nat) (C : Addr) (P : List Tr → (List (Str × Tr) → Prop) → Gx → Prop) (fa fk : VA) : VE := fun G z Q => fa G z fun rs z1 => fk G z1 fun ss z2 => rs.length = n ∧ ss.length = m ∧ ∃ ts, prs (rs ++ ss) = some ts ∧ P ts (kM C Q z2) (ge G)
theorem re_makeK {E' : XK} {ge : Gx → Gx} {n m : Nat} {C0 : Addr} {P : List Tr → (List (Str × Tr) → Prop) → Gx → Prop} {ta tk : TA} {fa fk : VA} (ee : EE E E' ge) (h : RA K E ta fa) (h' : RA K E tk fk) : RE K E (tMakeK C0 n m (spM K C0 P) (fun vs zs => vs ++ zs) E' ta tk) (fMakeK ge n m C0 P fa fk) := by
  intro B F α z σ H G Qv Q er hf C k
  refine h B F α z σ H G _ _ er hf C fun F1 α1 z1 rs vs H1 q1 x1 C1 r1 => ?_
  refine h' B F1 α1 z1 σ H1 G _ _ er q1 C1 fun F2 α2 z2 ss zs H2 q2 x2 C2 r2 => ?_
  obtain ⟨l1, l2, ts, e, hp⟩ := q2
  refine ⟨by rw [r1.length]; exact l1, by rw [r2.length]; exact l2, ?_⟩
  exact mkV C2 (ee.ok er) (prs_ok e ((r1.ext x2).append r2)) hp fun F3 v t H3 q x3 C3 r3 => k F3 α2 z2 _ v H3 q ((x1.trans x2).trans x3) C3 r3
def fMakeD (ge : Gx → Gx) (C : Addr) (P : List Tr → (List (Str × Tr) → Prop) → Gx → Prop) (ws : List V) (fa : VA) : VE := fun G z Q => fa G z fun rs z1 => ∃ ts, prs rs = some ts ∧ P (ts ++ atomsR ws) (kM C Q z1) (ge G)
theorem re_makeD {E' : XK} {ge : Gx → Gx} {C0 : Addr} {ws : List V} {P : List Tr → (List (Str × Tr) → Prop) → Gx → Prop} {ta : TA} {fa : VA} (ee : EE E E' ge) (h : RA K E ta fa) : RE K E (tMake C0 (spM K C0 P) ws E' ta) (fMakeD ge C0 P ws fa) := by
  intro B F α z σ H G Qv Q er hf C k
  refine h B F α z σ H G _ _ er hf C fun F1 α1 z1 rs vs H1 q1 x1 C1 r1 => ?_
  obtain ⟨ts, e, hp⟩ := q1
  exact mkV C1 (ee.ok er) ((prs_ok e r1).append .of) hp fun F2 v t H2 q x2 C2 r2 => k F2 α1 z1 _ v H2 q (x1.trans x2) C2 r2
end
end VL
local macro_rules | `(tactic| kbo_bools) => `(tactic| first
  | (with_reducible refine' VL.rc_callK ?_ ?_ ?_) | (with_reducible refine' VL.re_callK ?_ ?_ ?_) | (with_reducible refine' VL.re_makeK ?_ ?_ ?_) | (with_reducible refine' VL.re_makeD ?_ ?_))

set_option maxRecDepth 100000
set_option maxHeartbeats 4000000
/-! # The same rules, the frag given -/
namespace VL
open PySem PySem.Spec PyProof.Rows L2
theorem pprop {X : Cx} {CX : CXT} {k : Nat} {C p g : Addr} {f : Str} {ps : List Str} {sp : Sp} {E : XK} {e : Expr} {pos : Pos} {ta : TE} (O : Ok X.prog X.w X.K X.mg X.base CX k g ps sp) (he : PE X e ta) (c : Cls X.K C) (hp : PropOf X.K C f p g) (hr : Room (k + 1) X.A) (hx : Passes CX X.nox E)
    (hab : attributeBase e f X.env (eval e X.env) = eval e X.env := by rfl) : PE X (.Attribute e f pos) (tProp C sp [] E ta) := let ⟨_, a, b, _⟩ := O.ex; pe_prop he c hp a hr b .nil hx hab
section
variable {X : Cx} (K : PySem.W.Frag) (h : X.K = K)
include h
theorem k_ix_list : IxR X (rIxL K) := by subst h; exact ix_list
theorem k_ix_tup : IxR X (rIxT K) := by subst h; exact ix_tup
theorem k_ix_seq : IxR X (rIx K) := by subst h; exact ix_seq
theorem k_op_in_seq : OpR X (compareOp .In) (rIn K false) := by subst h; exact op_in_seq
theorem k_op_notIn_seq : OpR X (compareOp .NotIn) (rIn K true) := by subst h; exact op_notIn_seq
theorem k_call_len_seq : CallR X (.builtin "len") (rLenQ K) := by subst h; exact call_len_seq
theorem k_call_list_of : CallR X (.type "list") (fun xs H Q => ∃ p ys, xs = [V.ref p] ∧ (SqL K H p ys ∨ SqT K H p ys) ∧ ∀ l, H l = none → Q (.ref l) (upd H l (.lst ys))) := by subst h; exact call_list_of
theorem k_call_tuple_of : CallR X (.type "tuple") (fun xs H Q => ∃ p ys, xs = [V.ref p] ∧ ((SqL K H p ys ∧ ∀ l, H l = none → Q (.ref l) (upd H l (.tup ys))) ∨ (SqT K H p ys ∧ Q (.ref p) H))) := by subst h; exact call_tuple_of
theorem k_cr_sum (hc : X.calm = true) : CallR X (.builtin "sum") (rSum K) := by subst h; exact cr_sum hc
theorem k_cr_sumA (hc : X.calm = true) : CallR X (.builtin "sum") (fun vs H Q => ∃ (a : Addr) (ns : List Int), vs = [V.ref a] ∧ SqA K H a (ns.map V.int) ∧ Q (.int ns.sum) H) := by subst h; exact cr_sumA hc
theorem k_cr_max (hc : X.calm = true) : CallR X (.builtin "max") (rMax K) := by subst h; exact cr_max hc
theorem k_cr_min (hc : X.calm = true) : CallR X (.builtin "min") (rMin K) := by subst h; exact cr_min hc
theorem k_cr_all (hc : X.calm = true) : CallR X (.builtin "all") (rAll K) := by subst h; exact cr_all hc
theorem k_cr_any (hc : X.calm = true) : CallR X (.builtin "any") (rAny K) := by subst h; exact cr_any hc
theorem k_cr_sorted : CallR X (.builtin "sorted") (rSorted K) := by subst h; exact cr_sorted
theorem k_sl_list : SlR X (rSlL K) := by subst h; exact sl_list
theorem k_sl_tupW : SlR X (rSlW K) := by subst h; exact sl_tupW
theorem k_op_catW : OpR X (binaryOp .Add) (rCatW K) := by subst h; exact op_catW
theorem k_op_repW : OpR X (binaryOp .Mult) (rRepW K) := by subst h; exact op_repW
theorem k_op_eqRow (hu : X.A.units + 64 < cLine) : OpR X (compareOp .Eq) (rEqRow K false) := by subst h; exact op_eqRow hu
theorem k_op_neRow (hu : X.A.units + 64 < cLine) : OpR X (compareOp .NotEq) (rEqRow K true) := by subst h; exact op_neRow hu
theorem k_mt_lcount : MtR X "list.count" (rCntI K) := by subst h; exact mt_lcount
theorem k_call_isi : CallR X (.builtin "isinstance") (rIsi K) := by subst h; exact call_isi
theorem k_pi_list {tg l : Expr} {tl : TE} (hl : PE X l tl) : PI X tg l (iList K tl) := by subst h; exact pi_list hl
theorem k_pi_tup {tg l : Expr} {tl : TE} (hl : PE X l tl) : PI X tg l (iTup K tl) := by subst h; exact pi_tup hl
theorem k_pi_seqV {tg l : Expr} {tl : TE} (hl : PE X l tl) : PI X tg l (iSeqV K tl) := by subst h; exact pi_seqV hl
theorem k_pi_enumA {e : Expr} {ta : TA} {p pos tpos : Pos} {elts : List Expr} {kk : Nat} (hg : Gl X "enumerate") (hm : X.mg "enumerate" = none) (ha : PA X [e] ta) (hs : starEach [e] X.env = [(false, eval e X.env)] := by rfl) :
    PI X (.Tuple elts kk tpos) (.Call (.Name "enumerate" p) [e] [] pos) (iEnumA K ta) := by subst h; exact pi_enumA hg hm ha hs
theorem k_pi_enumS {e : Expr} {kws : List Keyword} {ta tk : TA} {p pos tpos : Pos} {elts : List Expr} {kk : Nat} (hg : Gl X "enumerate") (hm : X.mg "enumerate" = none) (ha : PA X [e] ta) (hk : PK X kws tk)
    (he : backTo pos (starEach [e] X.env) = (false, eval e X.env) :: backTo pos (starEach [] X.env) := by rfl) (hpl : (backTo pos (starEach [e] X.env)).any (·.1) = false := by rfl)
    (hall : (backToKw pos (keywordEach kws X.env)).all (·.1.isSome) = true := by rfl) (hnone : (backToKw pos (keywordEach kws X.env)).any (·.1.isNone) = false := by rfl) (hks : (backToKw pos (keywordEach kws X.env)).filterMap (·.1) = [Str.ofString "start"] := by rfl) :
    PI X (.Tuple elts kk tpos) (.Call (.Name "enumerate" p) [e] kws pos) (iEnumS K ta tk) := by subst h; exact pi_enumS hg hm ha hk he hpl hall hnone hks
theorem k_pi_reversed {tg e : Expr} {ta : TA} {p pos : Pos} (hg : Gl X "reversed") (hm : X.mg "reversed" = none) (ha : PA X [e] ta) (hs : starEach [e] X.env = [(false, eval e X.env)] := by rfl) : PI X tg (.Call (.Name "reversed" p) [e] [] pos) (iRev K ta) := by subst h; exact pi_reversed hg hm ha hs
theorem k_pi_zip {e e2 : Expr} {ta : TA} {p pos tpos : Pos} {elts : List Expr} {kk : Nat} (hg : Gl X "zip") (hm : X.mg "zip" = none) (ha : PA X [e, e2] ta)
    (he : starEach [e, e2] X.env = (false, eval e X.env) :: starEach [e2] X.env := by rfl) (hpl : (backTo pos (starEach [e2] X.env)).any (·.1) = false := by rfl) :
    PI X (.Tuple elts kk tpos) (.Call (.Name "zip" p) [e, e2] [] pos) (iZip K ta) := by subst h; exact pi_zip hg hm ha he hpl
theorem k_pe_fld {o : Expr} {ta : TE} {f : Str} {pos : Pos} (he : PE X o ta) (hb : attributeBase o f X.env (eval o X.env) = eval o X.env) : PE X (.Attribute o f pos) (tFld K ta f) := by subst h; exact pe_fld he hb
theorem k_pe_notT {a : Expr} {ta : TE} {pos : Pos} (ha : PE X a ta) : PE X (.UnaryOp .Not a pos) (tNotT K ta) := by subst h; exact pe_notT ha
theorem k_pt_truth {a : Expr} {ta : TE} (ha : PE X a ta) (he : ∀ whole, isTrue a X.env whole = (do let v ← whole; standAt a.pos; holding [v] (truthy v))) : PT X a (fun σ H Q => ta σ H fun x H' => ∃ k, TruV K x H' k ∧ Q k H') := by subst h; exact pt_truth ha he
end
end VL

set_option maxRecDepth 100000
set_option maxHeartbeats 8000000
namespace K14v
open PySem PySem.Spec PyProof.Rows L2 VL K14
section
variable {w : World} {K : PySem.W.Frag} {mg : Str → Option Value} {base : Heap}
theorem ok_law_draw (T : Tx K mg) : Ok PG w K mg base CX0 2 (a_law_draw K) p_law_draw (spD K pDraw) := (K14.ok_law_draw T).imp fun vs H Q E h => draw_of h
theorem ok_law_same (T : Tx K mg) : Ok PG w K mg base CX0 7 (a_law_same K) p_law_same (spV K (pSame 4)) := (K14.ok_law_same T 4).imp fun vs H Q E h => same_of h
theorem ok_law_pool (T : Tx K mg) : Ok PG w K mg base CX0 2 (a_law_pool K) p_law_pool (spPoolV K) := K14.ok_law_pool T
/-! ### checks -/
def pNight (K : PySem.W.Frag) : Pv := fun ts PP G => ∃ (n m : Int), ts = [trI n, trI m] ∧ (¬ (1 ≤ n ∧ n ≤ m) → G (c_NoNight K) (.xd [("night", .int n)])) ∧ (1 ≤ n ∧ n ≤ m → PP (.t trN))
theorem ok_check_night (T : Tx K mg) : Ok PG w K mg base (L2.CX PG w) 2 (a_check_night K) p_check_night (spV K (pNight K)) := by
  refine Ok.of 1 T.f_check_night sc_check_night bi_check_night (by decide) (fun vs H Q E h => ?_) (fun cdv A outer s H vs Q E hr h => ?_)
  · obtain ⟨_, _, _, _, _, rq, ⟨_, _, rfl, _⟩, _⟩ := h
    exact rq.1
  · have T0 := T
    have nd := sc_check_night.nd
    refine ⟨_, pss_one (ps_if (pt_not (pt_chain op_le op_le pe_int (pv 0) (pv 1))) (pss_one (ps_raiseX rfl T.e_NoNight (by decide) (by decide) hr (takes_of rfl rfl rfl rfl) rfl (pa_cons (pv 0) pa_nil))) pss_nil), ?_⟩
    try dsimp only [cxOf]
    refine run_V (by repeat' kbo_bools) h fun ts PP G hp _ => ?_
    obtain ⟨n, m, rfl, h1, h2⟩ := hp
    have se : ∀ t0 t1 : Tr, startE n_check_night [t0, t1] = [some (.p t0), some (.p t1)] := fun _ _ => rfl
    rw [se]; clear se h hr
    keq_rows
    all_goals first | exact h2 (by omega) | exact h1 (by omega)
def pCount (K : PySem.W.Frag) : Pv := fun ts PP G => ∃ (n m : Int), ts = [trI n, trI m] ∧ (n > m → G (c_TooLong K) (.xd [("count", .int n)])) ∧ (n ≤ m → PP (.t trN))
theorem ok_check_count (T : Tx K mg) : Ok PG w K mg base (L2.CX PG w) 3 (a_check_count K) p_check_count (spV K (pCount K)) := by
  refine Ok.of 2 T.f_check_count sc_check_count bi_check_count (by decide) (fun vs H Q E h => ?_) (fun cdv A outer s H vs Q E hr h => ?_)
  · obtain ⟨_, _, _, _, _, rq, ⟨_, _, rfl, _⟩, _⟩ := h
    exact rq.1
  · have T0 := T
    have nd := sc_check_count.nd
    refine ⟨_, pss_one (ps_if (pt_cmpR op_gt (pv 0) (pv 1) (nomark _)) (pss_one (ps_raiseX rfl T.e_TooLong (by decide) (by decide) hr (takes_of rfl rfl rfl rfl) rfl (pa_cons (pv 0) pa_nil))) pss_nil), ?_⟩
    try dsimp only [cxOf]
    refine run_V (by repeat' kbo_bools) h fun ts PP G hp _ => ?_
    obtain ⟨n, m, rfl, h1, h2⟩ := hp
    have se : ∀ t0 t1 : Tr, startE n_check_count [t0, t1] = [some (.p t0), some (.p t1)] := fun _ _ => rfl
    rw [se]; clear se h hr
    keq_rows
    all_goals first | exact h2 (by omega) | exact h1 (by omega)
def pNumber (K : PySem.W.Frag) : Pv := fun ts PP G => ∃ (i n g : Int), ts = [trI i, trI n, trI g] ∧ (¬ (0 ≤ n ∧ n ≤ g) → G (c_BadNumber K) (.xd [("number", .int n), ("place", .int i)])) ∧ (0 ≤ n ∧ n ≤ g → PP (.t trN))
theorem ok_check_number (T : Tx K mg) : Ok PG w K mg base (L2.CX PG w) 2 (a_check_number K) p_check_number (spV K (pNumber K)) := by
  refine Ok.of 1 T.f_check_number sc_check_number bi_check_number (by decide) (fun vs H Q E h => ?_) (fun cdv A outer s H vs Q E hr h => ?_)
  · obtain ⟨_, _, _, _, _, rq, ⟨_, _, _, rfl, _⟩, _⟩ := h
    exact rq.1
  · have T0 := T
    have nd := sc_check_number.nd
    refine ⟨_, pss_one (ps_if (pt_not (pt_chain op_le op_le pe_int (pv 1) (pv 2))) (pss_one (ps_raiseX rfl T.e_BadNumber (by decide) (by decide) hr (takes_of rfl rfl rfl rfl) rfl (pa_cons (pv 0) (pa_cons (pv 1) pa_nil)))) pss_nil), ?_⟩
    try dsimp only [cxOf]
    refine run_V (by repeat' kbo_bools) h fun ts PP G hp _ => ?_
    obtain ⟨i, n, g, rfl, h1, h2⟩ := hp
    have se : ∀ t0 t1 t2 : Tr, startE n_check_number [t0, t1, t2] = [some (.p t0), some (.p t1), some (.p t2)] := fun _ _ _ => rfl
    rw [se]; clear se h hr
    keq_rows
    all_goals first | exact h2 (by omega) | exact h1 (by omega)
def pRest (K : PySem.W.Frag) : Pv := fun ts PP G => ∃ (n : Int), ts = [trI n] ∧ (¬ (0 ≤ n ∧ n ≤ 60) → G (c_BadRest K) (.xd [("rest", .int n)])) ∧ (0 ≤ n ∧ n ≤ 60 → PP (.t trN))
theorem ok_check_rest (T : Tx K mg) : Ok PG w K mg base (L2.CX PG w) 2 (a_check_rest K) p_check_rest (spV K (pRest K)) := by
  refine Ok.of 1 T.f_check_rest sc_check_rest bi_check_rest (by decide) (fun vs H Q E h => ?_) (fun cdv A outer s H vs Q E hr h => ?_)
  · obtain ⟨_, _, _, _, _, rq, ⟨_, rfl, _⟩, _⟩ := h
    exact rq.1
  · have T0 := T
    have nd := sc_check_rest.nd
    obtain ⟨_, cv_GREATEST_REST⟩ := T.v_GREATEST_REST
    refine ⟨_, pss_one (ps_if (pt_not (pt_chain op_le op_le pe_int (pv 0) (pe_glob (v := .int 60) rfl cv_GREATEST_REST ⟨_, rfl⟩))) (pss_one (ps_raiseX rfl T.e_BadRest (by decide) (by decide) hr (takes_of rfl rfl rfl rfl) rfl (pa_cons (pv 0) pa_nil))) pss_nil), ?_⟩
    try dsimp only [cxOf]
    refine run_V (by repeat' kbo_bools) h fun ts PP G hp _ => ?_
    obtain ⟨n, rfl, h1, h2⟩ := hp
    have se : ∀ t0 : Tr, startE n_check_rest [t0] = [some (.p t0)] := fun _ => rfl
    rw [se]; clear se h hr
    keq_rows
    all_goals first | exact h2 (by omega) | exact h1 (by omega)
/-- a list or a tuple of these -/
abbrev rowOf (t : Tr) (ts : List Tr) : Prop := t = .tup ts ∨ t = .lst ts
def pNumbers (K : PySem.W.Frag) : Pv := fun ts PP G => ∃ (t : Tr) (ns : List Int) (g : Int), ts = [t, trI g] ∧ rowOf t (ns.map trI) ∧ (∀ i n, bad g 0 ns = some (i, n) → G (c_BadNumber K) (.xd [("number", .int n), ("place", .int (i : Nat))])) ∧ (bad g 0 ns = none → PP (.t trN))
theorem ok_check_numbers (T : Tx K mg) : Ok PG w K mg base (L2.CX PG w) 3 (a_check_numbers K) p_check_numbers (spV K (pNumbers K)) := by
  refine Ok.of 2 T.f_check_numbers sc_check_numbers bi_check_numbers (by decide) (fun vs H Q E h => ?_) (fun cdv A outer s H vs Q E hr h => ?_)
  · obtain ⟨_, _, _, _, _, rq, ⟨_, _, _, rfl, _⟩, _⟩ := h
    exact rq.1
  · have T0 := T
    have nd := sc_check_numbers.nd
    refine ⟨_, pss_one (ps_for (passX rfl) rfl (k_pi_enumA K rfl (by rfl) T.m_enumerate (pa_cons (pv 0) pa_nil)) (pg_tup (n := 2) rfl (pgs_cons (pg_name (i := 2) nd rfl (.inl rfl)) (pgs_cons (pg_name (i := 3) nd rfl (.inl rfl)) pgs_nil)))
        (pss_one (ps_expr (pc (ok_check_number T) hr T.g_check_number px (pa_cons (pv 2) (pa_cons (pv 3) (pa_cons (pv 1) pa_nil))))))), ?_⟩
    try dsimp only [cxOf]
    refine run_V (by repeat' kbo_bools) h fun ts PP G hp _ => ?_
    obtain ⟨t, ns, g, rfl, ht, h1, h2⟩ := hp
    have se : ∀ t0 t1 : Tr, startE n_check_numbers [t0, t1] = [some (.p t0), some (.p t1), none, none] := fun _ _ => rfl
    rw [se]; clear se h hr
    keq_rows
    refine forE 0 ns trI rfl (fun i z => z = ⟨[some (.p t), some (.p (trI g)), none, none], []⟩ ∧ bad g 0 ns = bad g i (ns.drop i)) (wkM (by kx_w2) ⟨rfl, rfl⟩) (fun i x z ex hz => ?_) (fun z hz => ?_)
    · obtain ⟨rfl, hb⟩ := hz
      obtain ⟨b1, b2⟩ := bad_step (k := 0) (by rw [Nat.zero_add]; exact hb.symm) ex
      keq_rows
      · rename_i c
        exact h1 i x (by rw [Nat.zero_add] at b2; exact b2 c)
      · rename_i c
        exact wkM (by kx_w2) ⟨rfl, by rw [Nat.zero_add] at b1; exact (b1 c).symm⟩
    · obtain ⟨rfl, hb⟩ := hz
      rw [List.drop_length] at hb
      keq_rows
      exact h2 hb
/-! ### runs -/
abbrev wT (K : PySem.W.Frag) (days : List Int) : Tr := .ins (c_Wants K) [("numbers", trTI days)]
def pWInit (K : PySem.W.Frag) : List Tr → (List (Str × Tr) → Prop) → Gx → Prop := fun ts PP G => ∃ (t : Tr) (ns : List Int), ts = [t] ∧ rowOf t (ns.map trI) ∧ (60 < ns.length → G (c_TooLong K) (.xd [("count", .int (ns.length : Nat))])) ∧
  (ns.length ≤ 60 → ∀ i n, bad 30 0 ns = some (i, n) → G (c_BadNumber K) (.xd [("number", .int n), ("place", .int (i : Nat))])) ∧ (ns.length ≤ 60 → bad 30 0 ns = none → PP [("numbers", trTI ns)])
theorem ok_Wants_init (T : Tx K mg) : Ok PG w K mg base (L2.CX PG w) 4 (a_Wants_init K) p_Wants_init (spM K (c_Wants K) (pWInit K)) := by
  refine Ok.of 3 T.f_Wants_init sc_Wants_init bi_Wants_init (by decide) (fun vs H Q E h => ?_) (fun cdv A outer s H vs Q E hr h => ?_)
  · obtain ⟨_, _, _, _, _, _, _, _, rfl, _, _, _, _, _, rq, ⟨_, _, rfl, _⟩, _⟩ := h
    exact congrArg Nat.succ rq.1
  · have T0 := T
    have fc_Wants := T.cWants
    have fn_Wants_numbers := T.nWants_numbers
    obtain ⟨u_GREATEST, cv_GREATEST⟩ := T.vWants_GREATEST
    obtain ⟨u_MOST, cv_MOST⟩ := T.vWants_MOST
    have cr_Wants := T.rWants
    have nd := sc_Wants_init.nd
    refine ⟨_, pss_cons (ps_expr (pc (ok_check_count T) hr T.g_check_count px (pa_cons (pe_callB (k_call_len_seq K rfl) (by rfl) T.m_len PySem.boot_len (pa_cons (pv 1) pa_nil)) (pa_cons (ClX.pe_cval (pgC T.gWants)) pa_nil))))
      (pss_cons (ps_expr (pc (ok_check_numbers T) hr T.g_check_numbers px (pa_cons (pv 1) (pa_cons (ClX.pe_cval (pgC T.gWants)) pa_nil))))
      (pss_one (ps_fld (pv 0) (pe_callTy (k_call_tuple_of K rfl) (by rfl) T.m_tuple (by decide +kernel) (pa_cons (pv 1) pa_nil)) rfl))), ?_⟩
    try dsimp only [cxOf]
    refine run_M (by decide) (by repeat' kbo_bools) h fun ts PP G hp _ => ?_
    obtain ⟨t, ns, rfl, ht, h1, h2, h3⟩ := hp
    have se : ∀ t0 : Tr, startE n_Wants_init.tail [t0] = [some (.p t0)] := fun _ => rfl
    rw [se]; clear se h hr
    rcases ht with rfl | rfl
    all_goals
      keq_rows
      all_goals first | exact h1 (by omega) | exact h2 (by omega) _ _ (by assumption) | exact h3 (by omega) (by assumption)
theorem bad_ok {g : Int} {k : Nat} {ns : List Int} (h : ∀ n ∈ ns, 0 ≤ n ∧ n ≤ g) : bad g k ns = none := bad_none.mpr h
def pWLen (K : PySem.W.Frag) : Pv := fun ts PP G => ∃ (ns : List Int), ts = [wT K ns] ∧ PP (.t (trI (ns.length : Nat)))
theorem ok_Wants_len (T : Tx K mg) : Ok PG w K mg base CX0 2 (a_Wants_len K) p_Wants_len (spV K (pWLen K)) := by
  refine Ok.of 1 T.f_Wants_len sc_Wants_len bi_Wants_len (by decide) (fun vs H Q E h => ?_) (fun cdv A outer s H vs Q E hr h => ?_)
  · obtain ⟨_, _, _, _, _, rq, ⟨_, rfl, _⟩, _⟩ := h
    exact rq.1
  · have T0 := T
    have fc_Wants := T.cWants
    have fn_Wants_numbers := T.nWants_numbers
    have nd := sc_Wants_len.nd
    refine ⟨_, pss_one (ps_ret (pe_callB (k_call_len_seq K rfl) (by rfl) T.m_len PySem.boot_len (pa_cons (k_pe_fld K rfl (pv 0) rfl) pa_nil))), ?_⟩
    try dsimp only [cxOf]
    refine run_V0 (by repeat' kbo_bools) h fun ts PP G hp _ => ?_
    obtain ⟨ns, rfl, q⟩ := hp
    have se : ∀ t0 : Tr, startE n_Wants_len [t0] = [some (.p t0)] := fun _ => rfl
    rw [se]; clear se h hr
    keq_rows
    exact q
def pWAt (K : PySem.W.Frag) : Pv := fun ts PP G => ∃ (ns : List Int) (i : Int), ts = [wT K ns, trI i] ∧ (¬ (1 ≤ i ∧ i ≤ ns.length) → G (c_NoNight K) (.xd [("night", .int i)])) ∧ (∀ n, 1 ≤ i → ns[i.toNat - 1]? = some n → PP (.t (trI n)))
theorem ok_Wants_getitem (T : Tx K mg) : Ok PG w K mg base (L2.CX PG w) 3 (a_Wants_getitem K) p_Wants_getitem (spV K (pWAt K)) := by
  refine Ok.of 2 T.f_Wants_getitem sc_Wants_getitem bi_Wants_getitem (by decide) (fun vs H Q E h => ?_) (fun cdv A outer s H vs Q E hr h => ?_)
  · obtain ⟨_, _, _, _, _, rq, ⟨_, _, rfl, _⟩, _⟩ := h
    exact rq.1
  · have T0 := T
    have fc_Wants := T.cWants
    have fn_Wants_numbers := T.nWants_numbers
    have nd := sc_Wants_getitem.nd
    refine ⟨_, pss_cons (ps_expr (pc (ok_check_night T) hr T.g_check_night px (pa_cons (pv 1) (pa_cons (pe_callB (k_call_len_seq K rfl) (by rfl) T.m_len PySem.boot_len (pa_cons (k_pe_fld K rfl (pv 0) rfl) pa_nil)) pa_nil))))
      (pss_one (ps_ret (pe_ix (k_ix_tup K rfl) (k_pe_fld K rfl (pv 0) rfl) (pe_op op_sub (pv 1) pe_int) (fun _ _ => rfl)))), ?_⟩
    try dsimp only [cxOf]
    refine run_V (by repeat' kbo_bools) h fun ts PP G hp _ => ?_
    obtain ⟨ns, i, rfl, h1, h2⟩ := hp
    have se : ∀ t0 t1 : Tr, startE n_Wants_getitem [t0, t1] = [some (.p t0), some (.p t1)] := fun _ _ => rfl
    rw [se]; clear se h hr
    keq_rows
    · exact h1 (by assumption)
    · refine h2 _ (by omega) ?_
      rw [show (i - 1).toNat = i.toNat - 1 by omega, List.getD_eq_getElem?_getD]
      rw [List.getElem?_eq_getElem (by omega)]; rfl
theorem it_Wants (T : Tx K mg) : OwnIt K mg (c_Wants K) (a_Wants_iter K) "numbers" := by
  obtain ⟨fd, F⟩ := T.f_Wants_iter
  exact ownIt_of T.cWants T.nWants_numbers T.wWants_iter.1 T.wWants_iter.2 T.m_iter F ⟨_, _, _, _, _, rfl, fun env h => by obtain ⟨⟩ := env; cases h; rfl⟩ ⟨rfl, rfl, by decide +kernel, rfl, rfl, rfl⟩ fun s fd v h1 h2 h3 => .of_eq (by obtain ⟨⟩ := fd; cases h1; cases h2; cases h3; rfl)
/-! ### houses -/
abbrev hT (K : PySem.W.Frag) (days starts : List Int) (gap : Int) : Tr := .ins (c_House K) [("wants", wT K days), ("comings", trTI starts), ("rest", trI gap)]
def badc (g : Int) : Nat → List Int → Option (Nat × Int)
  | _, [] => none
  | i, n :: ns => if 1 ≤ n ∧ n ≤ g then badc g (i + 1) ns else some (i, n)
theorem badc_step {g : Int} {ns : List Int} {i : Nat} {x : Int} (h : badc g 0 ns = badc g i (ns.drop i)) (e : ns[i]? = some x) : (1 ≤ x ∧ x ≤ g → badc g 0 ns = badc g (i + 1) (ns.drop (i + 1))) ∧ (¬ (1 ≤ x ∧ x ≤ g) → badc g 0 ns = some (i, x)) := by
  obtain ⟨hi, e⟩ := List.getElem?_eq_some_iff.mp e
  rw [List.drop_eq_getElem_cons hi, e, show badc g i (x :: ns.drop (i + 1)) = if 1 ≤ x ∧ x ≤ g then badc g (i + 1) (ns.drop (i + 1)) else some (i, x) from rfl] at h
  constructor
  · intro c
    rw [if_pos c] at h; exact h
  · intro c
    rw [if_neg c] at h; exact h
def pHInit (K : PySem.W.Frag) : List Tr → (List (Str × Tr) → Prop) → Gx → Prop := fun ts PP G => ∃ (days : List Int) (t : Tr) (starts : List Int) (gap : Int), ts = [wT K days, t, trI gap] ∧ rowOf t (starts.map trI) ∧ days.length ≤ 60 ∧
  (30 < starts.length → G (c_TooLong K) (.xd [("count", .int (starts.length : Nat))])) ∧ (starts.length ≤ 30 → ∀ i n, badc (days.length + 1) 0 starts = some (i, n) → G (c_BadComing K) (.xd [("coming", .int n), ("person", .int (i : Nat))])) ∧
  (starts.length ≤ 30 → badc (days.length + 1) 0 starts = none → ¬ (0 ≤ gap ∧ gap ≤ 60) → G (c_BadRest K) (.xd [("rest", .int gap)])) ∧
  (starts.length ≤ 30 → badc (days.length + 1) 0 starts = none → 0 ≤ gap ∧ gap ≤ 60 → PP [("wants", wT K days), ("comings", trTI starts), ("rest", trI gap)])
theorem okw_House_init (T : Tx K mg) : OkW PG w K mg base (L2.CX PG w) 4 (a_House_init K) p_House_init (spM K (c_House K) (pHInit K)) 3 ("rest", .int 1) := by
  refine OkW.of 3 T.f_House_init sc_House_init (fun F => ⟨F.binds0 3 (by simp) rfl (fun _ _ _ _ _ _ us ks hl hk => match us, ks, hl, hk with | [_, _, _], [_], _, _ => ⟨_, _, _, _, _, _, rfl, rfl, rfl⟩), F.kbinds0 3 ["rest"] [] (fun us _ ws => us ++ ws) (by simp) (by simp) (fun r1 _ r3 => r1.append r3) (fun _ _ _ _ _ _ us mv ws hl hi hw => match us, mv, ws, hl, hi, hw with | [_, _, _], [], [_], _, _, _ => rfl)⟩) (by decide) (fun vs H Q E h => ?_) (fun cdv A outer s H vs Q E hr h => ?_)
  · obtain ⟨_, _, _, _, _, _, _, _, rfl, _, _, _, _, _, rq, ⟨_, _, _, _, rfl, _⟩, _⟩ := h
    exact congrArg Nat.succ rq.1
  · have T0 := T
    have fc_House := T.cHouse
    have fn_House_wants := T.nHouse_wants
    have fn_House_comings := T.nHouse_comings
    have fn_House_rest := T.nHouse_rest
    have nd := sc_House_init.nd
    obtain ⟨_, cv_MOST_PEOPLE⟩ := T.v_MOST_PEOPLE
    refine ⟨_, pss_cons (ps_expr (pc (ok_check_count T) hr T.g_check_count px (pa_cons (pe_callB (k_call_len_seq K rfl) (by rfl) T.m_len PySem.boot_len (pa_cons (pv 2) pa_nil)) (pa_cons (pe_glob (v := .int 30) rfl cv_MOST_PEOPLE ⟨_, rfl⟩) pa_nil))))
      (pss_cons (ps_for (passX rfl) rfl (k_pi_enumA K rfl (by rfl) T.m_enumerate (pa_cons (pv 2) pa_nil)) (pg_tup (n := 2) rfl (pgs_cons (pg_name (i := 4) nd rfl (.inl rfl)) (pgs_cons (pg_name (i := 5) nd rfl (.inl rfl)) pgs_nil)))
        (pss_one (ps_if (pt_not (pt_chain op_le op_le pe_int (pv 5) (pe_op op_add (pe_callB (cLen (ok_Wants_len T) T.wWants_len hr pass0) (by rfl) T.m_len PySem.boot_len (pa_cons (pv 1) pa_nil)) pe_int))) (pss_one (ps_raiseX rfl T.e_BadComing (by decide) (by decide) hr (takes_of rfl rfl rfl rfl) rfl (pa_cons (pv 4) (pa_cons (pv 5) pa_nil)))) pss_nil)))
      (pss_cons (ps_expr (pc (ok_check_rest T) (hr.mono (by decide)) T.g_check_rest px (pa_cons (pv 3) pa_nil)))
      (pss_cons (ps_fld (pv 0) (pv 1) rfl)
      (pss_cons (ps_fld (pv 0) (pe_callTy (k_call_tuple_of K rfl) (by rfl) T.m_tuple (by decide +kernel) (pa_cons (pv 2) pa_nil)) rfl)
      (pss_one (ps_fld (pv 0) (pv 3) rfl)))))), ?_⟩
    try dsimp only [cxOf]
    refine run_M (by decide) (by repeat' kbo_bools) h fun ts PP G hp _ => ?_
    obtain ⟨days, t, starts, gap, rfl, ht, ld, h1, h2, h3, h4⟩ := hp
    have se : ∀ t0 t1 t2 : Tr, startE n_House_init.tail [t0, t1, t2] = [some (.p t0), some (.p t1), some (.p t2), none, none] := fun _ _ _ => rfl
    rw [se]; clear se h hr
    rcases ht with rfl | rfl
    all_goals
      keq_rows
      · exact h1 (by omega)
      refine forE 0 starts trI rfl (fun i z => (∃ t, rowOf t (starts.map trI) ∧ z = ⟨[some (.c 0), some (.p (wT K days)), some (.p t), some (.p (trI gap)), none, none], [.obj (c_House K) []]⟩) ∧ badc (days.length + 1) 0 starts = badc (days.length + 1) i (starts.drop i)) (wkM (by kx_w2) ⟨⟨_, by first | exact .inl rfl | exact .inr rfl, rfl⟩, rfl⟩) (fun i x z ex hz => ?_) (fun z hz => ?_)
      · obtain ⟨⟨t, ht, rfl⟩, hb⟩ := hz
        obtain ⟨b1, b2⟩ := badc_step hb ex
        keq_rows
        all_goals first | exact h2 (by omega) i x (b2 (by omega)) | exact wkM (by kx_w2) ⟨⟨t, ht, rfl⟩, b1 (by omega)⟩
      · obtain ⟨⟨t, ht, rfl⟩, hb⟩ := hz
        rw [List.drop_length] at hb
        rcases ht with rfl | rfl
        all_goals
          keq_rows
          all_goals first | exact h3 (by omega) hb (by assumption) | exact h4 (by omega) hb (by assumption)
end
end K14v

set_option maxHeartbeats 4000000
/-! # What is wrong with a plan -/
namespace VL
open PySem L2
inductive Flt where
  | length (a b : Int)
  | stranger (n e : Int)
  | twice (n e : Int)
  | early (n e : Int)
  | rest (n e b : Int)
  | count (n f w : Int)
  deriving DecidableEq
def fT : Flt → Tr
  | .length a b => .tup [trS "length", trI a, trI b]
  | .stranger n e => .tup [trS "stranger", trI n, trI e]
  | .twice n e => .tup [trS "twice", trI n, trI e]
  | .early n e => .tup [trS "early", trI n, trI e]
  | .rest n e b => .tup [trS "rest", trI n, trI e, trI b]
  | .count n f w => .tup [trS "count", trI n, trI f, trI w]
/-- the latest night up to i with e in its row, or 0 -/
def lastOf (rows : List (List Int)) : Nat → Int → Nat
  | 0, _ => 0
  | i + 1, e => if e ∈ rows.getD i [] then i + 1 else lastOf rows i e
theorem lastOf_le (rows : List (List Int)) (e : Int) : ∀ i, lastOf rows i e ≤ i
  | 0 => Nat.le_refl _
  | i + 1 => by
    unfold lastOf
    split
    · exact Nat.le_refl _
    · exact Nat.le_succ_of_le (lastOf_le rows e i)
/-- the nights of a person -/
def nightsOf (rows : List (List Int)) (e : Int) : List Int := ((List.range rows.length).filter fun i => decide (e ∈ rows.getD i [])).map fun i : Nat => (1 + (i : Int))
def watchF (starts : List Int) (gap n e b : Int) : List Flt := (if n < starts.getD e.toNat 0 then [.early n e] else []) ++ (if 0 < b ∧ n - b ≤ gap then [.rest n e b] else [])
def stepF (starts : List Int) (gap n : Int) (prev : Int → Nat) (s : List Flt × List Int) (e : Int) : List Flt × List Int :=
  if ¬ (0 ≤ e ∧ e < starts.length) then (s.1 ++ [.stranger n e], s.2)
  else if e ∈ s.2 then (s.1 ++ [.twice n e], s.2)
  else (s.1 ++ watchF starts gap n e (prev e), s.2 ++ [e])
def rowF (starts : List Int) (gap n : Int) (prev : Int → Nat) (row : List Int) : List Flt × List Int := row.foldl (stepF starts gap n prev) ([], [])
def cntF (short : Bool) (n f w : Int) : List Flt := if f > w ∨ (f < w ∧ short = false) then [.count n f w] else []
def nightR (starts : List Int) (gap : Int) (rows : List (List Int)) (i : Nat) : List Flt × List Int := rowF starts gap (1 + (i : Int)) (lastOf rows i) (rows.getD i [])
def nightF (days starts : List Int) (gap : Int) (rows : List (List Int)) (short : Bool) (i : Nat) : List Flt := (nightR starts gap rows i).1 ++ cntF short (1 + (i : Int)) ((nightR starts gap rows i).2.length : Nat) (days.getD i 0)
def accF (days starts : List Int) (gap : Int) (rows : List (List Int)) (short : Bool) (i : Nat) : List Flt := (List.range i).flatMap (nightF days starts gap rows short)
def faultsF (days starts : List Int) (gap : Int) (rows : List (List Int)) (short : Bool) : List Flt := if rows.length ≠ days.length then [.length (rows.length : Nat) (days.length : Nat)] else accF days starts gap rows short rows.length
theorem accF_succ {days starts : List Int} {gap : Int} {rows : List (List Int)} {short : Bool} {i : Nat} : accF days starts gap rows short (i + 1) = accF days starts gap rows short i ++ nightF days starts gap rows short i := by
  unfold accF
  rw [List.range_succ, List.flatMap_append, List.flatMap_cons, List.flatMap_nil, List.append_nil]
theorem foldl_take {α β : Type} (f : β → α → β) (s : β) {xs : List α} {j : Nat} {x : α} (e : xs[j]? = some x) : (xs.take (j + 1)).foldl f s = f ((xs.take j).foldl f s) x := by
  rw [List.take_succ, e, List.foldl_append]; rfl
theorem watchF_len (starts : List Int) (gap n e b : Int) : (watchF starts gap n e b).length ≤ 2 := by
  unfold watchF
  split <;> split <;> simp
theorem stepF_len (starts : List Int) (gap n : Int) (prev : Int → Nat) (s : List Flt × List Int) (e : Int) : (stepF starts gap n prev s e).1.length ≤ s.1.length + 2 := by
  have := watchF_len starts gap n e (prev e)
  unfold stepF
  split
  · simp
  · split
    · simp
    · simp only [List.length_append]; omega
theorem foldF_len (starts : List Int) (gap n : Int) (prev : Int → Nat) (row : List Int) : ∀ s : List Flt × List Int, (row.foldl (stepF starts gap n prev) s).1.length ≤ s.1.length + 2 * row.length := by
  induction row with
  | nil => intro s; exact Nat.le_refl _
  | cons e row ih =>
    intro s
    rw [List.foldl_cons, List.length_cons]
    have h1 := ih (stepF starts gap n prev s e)
    have h2 := stepF_len starts gap n prev s e
    omega
theorem cntF_len (short : Bool) (n f w : Int) : (cntF short n f w).length ≤ 1 := by unfold cntF; split <;> simp
theorem getD_row {rows : List (List Int)} {m : Nat} (h : ∀ r ∈ rows, r.length ≤ m) (i : Nat) : (rows.getD i []).length ≤ m := by
  rw [List.getD_eq_getElem?_getD]
  cases e : rows[i]? with
  | none => exact Nat.zero_le _
  | some r => exact h r (List.mem_of_getElem? e)
theorem nightF_len {rows : List (List Int)} {m : Nat} (h : ∀ r ∈ rows, r.length ≤ m) (days starts : List Int) (gap : Int) (short : Bool) (i : Nat) : (nightF days starts gap rows short i).length ≤ 2 * m + 1 := by
  have h1 := foldF_len starts gap (1 + (i : Int)) (lastOf rows i) (rows.getD i []) ([], [])
  have h2 := getD_row h i
  unfold nightF nightR rowF
  rw [List.length_append]
  have h3 := cntF_len short (1 + (i : Int)) (((rows.getD i []).foldl (stepF starts gap (1 + (i : Int)) (lastOf rows i)) ([], [])).2.length : Nat) (days.getD i 0)
  have h4 : ([] : List Flt).length = 0 := rfl
  simp only [h4] at h1
  omega
theorem accF_len {rows : List (List Int)} {m : Nat} (h : ∀ r ∈ rows, r.length ≤ m) (days starts : List Int) (gap : Int) (short : Bool) : ∀ i, (accF days starts gap rows short i).length ≤ i * (2 * m + 1)
  | 0 => by rw [Nat.zero_mul]; exact Nat.le_refl _
  | i + 1 => by
    rw [accF_succ, List.length_append, Nat.succ_mul]
    have h1 := accF_len h days starts gap short i
    have h2 := nightF_len h days starts gap short i
    omega
theorem rowF_seen (starts : List Int) (gap n : Int) (prev : Int → Nat) (row : List Int) : ∀ s : List Flt × List Int, s.2.Nodup → (∀ x ∈ s.2, 0 ≤ x ∧ x < starts.length) →
    (row.foldl (stepF starts gap n prev) s).2.Nodup ∧ ∀ x, x ∈ (row.foldl (stepF starts gap n prev) s).2 ↔ x ∈ s.2 ∨ (x ∈ row ∧ 0 ≤ x ∧ x < starts.length) := by
  induction row with
  | nil => intro s h1 h2; exact ⟨h1, fun x => by simp⟩
  | cons e row ih =>
    intro s h1 h2
    rw [List.foldl_cons]
    by_cases c : 0 ≤ e ∧ e < starts.length
    · by_cases d : e ∈ s.2
      · have es : stepF starts gap n prev s e = (s.1 ++ [.twice n e], s.2) := by unfold stepF; rw [if_neg (not_not_intro c), if_pos d]
        rw [es]
        obtain ⟨g1, g2⟩ := ih (s.1 ++ [.twice n e], s.2) h1 h2
        refine ⟨g1, fun x => (g2 x).trans ?_⟩
        rw [List.mem_cons]
        constructor
        · rintro (h | ⟨h, h'⟩)
          · exact .inl h
          · exact .inr ⟨.inr h, h'⟩
        · rintro (h | ⟨rfl | h, h'⟩)
          · exact .inl h
          · exact .inl d
          · exact .inr ⟨h, h'⟩
      · have es : stepF starts gap n prev s e = (s.1 ++ watchF starts gap n e (prev e), s.2 ++ [e]) := by unfold stepF; rw [if_neg (not_not_intro c), if_neg d]
        rw [es]
        obtain ⟨g1, g2⟩ := ih (s.1 ++ watchF starts gap n e (prev e), s.2 ++ [e]) (by
          rw [List.nodup_append]
          exact ⟨h1, by simp, fun a ha b hb => by rw [List.mem_singleton] at hb; intro q; exact d (by rw [← hb, ← q]; exact ha)⟩) (fun x hx => by
          rcases List.mem_append.mp hx with hx | hx
          · exact h2 x hx
          · rw [List.mem_singleton.mp hx]; exact c)
        refine ⟨g1, fun x => (g2 x).trans ?_⟩
        rw [List.mem_cons, List.mem_append, List.mem_singleton]
        constructor
        · rintro ((h | rfl) | ⟨h, h'⟩)
          · exact .inl h
          · exact .inr ⟨.inl rfl, c⟩
          · exact .inr ⟨.inr h, h'⟩
        · rintro (h | ⟨rfl | h, h'⟩)
          · exact .inl (.inl h)
          · exact .inl (.inr rfl)
          · exact .inr ⟨h, h'⟩
    · have es : stepF starts gap n prev s e = (s.1 ++ [.stranger n e], s.2) := by unfold stepF; rw [if_pos c]
      rw [es]
      obtain ⟨g1, g2⟩ := ih (s.1 ++ [.stranger n e], s.2) h1 h2
      refine ⟨g1, fun x => (g2 x).trans ?_⟩
      rw [List.mem_cons]
      constructor
      · rintro (h | ⟨h, h'⟩)
        · exact .inl h
        · exact .inr ⟨.inr h, h'⟩
      · rintro (h | ⟨rfl | h, h'⟩)
        · exact .inl h
        · exact absurd h' c
        · exact .inr ⟨h, h'⟩
theorem count_seen {n : Int} {la seen : List Int} (nd : seen.Nodup) (hr : ∀ x ∈ seen, 0 ≤ x ∧ x < la.length) (h : ∀ e : Nat, e < la.length → (la.getD e 0 = n ↔ (e : Int) ∈ seen)) : la.count n = seen.length := by
  have e1 : la = (List.range la.length).map fun e => la.getD e 0 := by
    refine List.ext_getElem? fun i => ?_
    by_cases hi : i < la.length
    · rw [List.getElem?_map, List.getElem?_range hi, List.getElem?_eq_getElem hi, Option.map_some, List.getD_eq_getElem?_getD, List.getElem?_eq_getElem hi]; rfl
    · rw [List.getElem?_eq_none (by omega), List.getElem?_eq_none (by simp; omega)]
  have e2 : la.count n = ((List.range la.length).filter fun e : Nat => decide ((e : Int) ∈ seen)).length := by
    conv => lhs; rw [e1]
    rw [List.count_eq_countP, List.countP_map, List.countP_eq_length_filter]
    congr 1
    refine List.filter_congr fun e he => ?_
    have := h e (List.mem_range.mp he)
    show (la.getD e 0 == n) = decide ((e : Int) ∈ seen)
    by_cases c : la.getD e 0 = n
    · rw [decide_eq_true (this.mp c), c]; exact beq_self_eq_true n
    · rw [decide_eq_false (fun q => c (this.mpr q))]; exact beq_eq_false_iff_ne.mpr c
  rw [e2]
  have p : ((List.range la.length).filter fun e : Nat => decide ((e : Int) ∈ seen)).Perm (seen.map Int.toNat) := by
    refine (List.perm_ext_iff_of_nodup (List.Pairwise.filter _ List.nodup_range) ?_).mpr fun a => ?_
    · refine List.pairwise_map.mpr (List.Pairwise.imp_of_mem (fun {a b} ha hb ne q => ?_) nd)
      have := hr a ha
      have := hr b hb
      exact ne (by omega)
    · rw [List.mem_filter, List.mem_range, List.mem_map]
      constructor
      · rintro ⟨h1, h2⟩
        exact ⟨(a : Int), of_decide_eq_true h2, by simp⟩
      · rintro ⟨x, hx, rfl⟩
        have := hr x hx
        exact ⟨by omega, decide_eq_true (by rw [Int.toNat_of_nonneg this.1]; exact hx)⟩
  rw [p.length_eq, List.length_map]
def brief : Flt → Bool
  | .count _ f w => decide (w < f)
  | _ => true
theorem watchF_brief (starts : List Int) (gap n e b : Int) : ∀ f ∈ watchF starts gap n e b, brief f = true := fun f hf => by
  unfold watchF at hf
  rcases List.mem_append.mp hf with h | h
  · split at h
    · rw [List.mem_singleton.mp h]; rfl
    · cases h
  · split at h
    · rw [List.mem_singleton.mp h]; rfl
    · cases h
theorem rowF_brief (starts : List Int) (gap n : Int) (prev : Int → Nat) (row : List Int) : ∀ s : List Flt × List Int, (∀ f ∈ s.1, brief f = true) → ∀ f ∈ (row.foldl (stepF starts gap n prev) s).1, brief f = true := by
  induction row with
  | nil => intro s h; exact h
  | cons e row ih =>
    intro s h
    rw [List.foldl_cons]
    refine ih _ fun f hf => ?_
    unfold stepF at hf
    split at hf
    · rcases List.mem_append.mp hf with g | g
      · exact h f g
      · rw [List.mem_singleton.mp g]; rfl
    · split at hf
      · rcases List.mem_append.mp hf with g | g
        · exact h f g
        · rw [List.mem_singleton.mp g]; rfl
      · rcases List.mem_append.mp hf with g | g
        · exact h f g
        · exact watchF_brief _ _ _ _ _ f g
theorem cntF_brief (n f w : Int) : (cntF false n f w).filter brief = cntF true n f w := by
  unfold cntF
  by_cases c : f > w
  · rw [if_pos (.inl c), if_pos (.inl c), List.filter_cons, if_pos (show brief (.count n f w) = true from decide_eq_true c), List.filter_nil]
  · have h2 : ¬ (f > w ∨ (f < w ∧ true = false)) := fun h => h.elim c (fun h => by cases h.2)
    rw [if_neg h2]
    split
    · rw [List.filter_cons, if_neg (by show ¬ (decide (w < f) = true); rw [decide_eq_false c]; decide), List.filter_nil]
    · rfl
theorem faultsF_brief (days starts : List Int) (gap : Int) (rows : List (List Int)) : (faultsF days starts gap rows false).filter brief = faultsF days starts gap rows true := by
  unfold faultsF
  split
  · rfl
  · unfold accF
    rw [List.filter_flatMap]
    congr 1
    funext i
    unfold nightF
    rw [List.filter_append, cntF_brief]
    congr 1
    refine List.filter_eq_self.mpr fun f hf => ?_
    unfold nightR rowF at hf
    exact rowF_brief _ _ _ _ _ _ (fun f h => by cases h) f hf
theorem faultsF_len {rows : List (List Int)} {m : Nat} (h : ∀ r ∈ rows, r.length ≤ m) (days starts : List Int) (gap : Int) (short : Bool) : (faultsF days starts gap rows short).length ≤ rows.length * (2 * m + 1) + 1 := by
  unfold faultsF
  split
  · show 1 ≤ _; omega
  · have := accF_len h days starts gap short rows.length
    omega
/-- the latest of the nights from lo on -/
theorem earlier_last (rows : List (List Int)) (e : Int) (lo : Nat) : ∀ m : Nat, (((List.range m).filter fun n => decide (e ∈ rows.getD (lo + n) [])) = [] ∧ lastOf rows (lo + m) e ≤ lo) ∨
    ∃ pre k, ((List.range m).filter fun n => decide (e ∈ rows.getD (lo + n) [])) = pre ++ [k] ∧ k < m ∧ lastOf rows (lo + m) e = lo + k + 1
  | 0 => .inl ⟨rfl, lastOf_le rows e lo⟩
  | m + 1 => by
    rw [List.range_succ, List.filter_append, show lo + (m + 1) = (lo + m) + 1 from rfl, lastOf]
    by_cases c : e ∈ rows.getD (lo + m) []
    · rw [if_pos c, List.filter_cons, if_pos (decide_eq_true c)]
      exact .inr ⟨_, m, rfl, Nat.lt_succ_self m, rfl⟩
    · rw [if_neg c, List.filter_cons, if_neg (by rw [decide_eq_false c]; decide), List.filter_nil, List.append_nil]
      rcases earlier_last rows e lo m with h | ⟨pre, k, h1, h2, h3⟩
      · exact .inl h
      · exact .inr ⟨pre, k, h1, by omega, h3⟩
end VL

set_option maxRecDepth 100000
set_option maxHeartbeats 8000000
namespace K14v
open PySem PySem.Spec PyProof.Rows L2 VL K14
section
variable {w : World} {K : PySem.W.Frag} {mg : Str → Option Value} {base : Heap}
abbrev pT (K : PySem.W.Frag) (rows : List (List Int)) : Tr := .ins (c_Plan K) [("rows", .tup (rows.map trTI))]
def pPInit : List Tr → (List (Str × Tr) → Prop) → Gx → Prop := fun ts PP _ => ∃ (t : Tr) (rows : List (List Int)) (enc : List Int → Tr), ts = [t] ∧ rowOf t (rows.map enc) ∧ (enc = trLI ∨ enc = trTI) ∧ rows.length ≤ 100000 ∧ (∀ r ∈ rows, r.length ≤ 100000) ∧ PP [("rows", .tup (rows.map trTI))]
theorem ok_Plan_init (T : Tx K mg) : Ok PG w K mg base CX0 2 (a_Plan_init K) p_Plan_init (spM K (c_Plan K) (pPInit)) := by
  refine Ok.of 1 T.f_Plan_init sc_Plan_init bi_Plan_init (by decide) (fun vs H Q E h => ?_) (fun cdv A outer s H vs Q E hr h => ?_)
  · obtain ⟨_, _, _, _, _, _, _, _, rfl, _, _, _, _, _, rq, ⟨_, _, _, rfl, _⟩, _⟩ := h
    exact congrArg Nat.succ rq.1
  · have T0 := T
    have fc_Plan := T.cPlan
    have fn_Plan_rows := T.nPlan_rows
    have nd := sc_Plan_init.nd
    refine ⟨_, pss_one (ps_fld (pv 0) (pe_callTy (k_call_tuple_of K rfl) (by rfl) T.m_tuple (by decide +kernel) (pa_cons (pe_lc (own := [("row", 2)]) (g := gName 2) (tt := tYes) rfl nd (k_pi_seqV K rfl (pv 1)) (blkOk_by (N := n_Plan_init) (sc := defScope s_Plan_init) (by decide +kernel)) (fun _ _ _ _ _ => pg_name (i := 2) nd rfl (Or.inl rfl)) (fun _ _ _ _ _ => pts_nil) (fun _ _ _ _ _ => pe_callTy (k_call_tuple_of K rfl) (by rfl) T.m_tuple (by decide +kernel) (pa_cons (pv 2) pa_nil))) pa_nil)) rfl), ?_⟩
    try dsimp only [cxOf]
    refine run_M (by decide) (by repeat' kbo_bools) h fun ts PP G hp _ => ?_
    obtain ⟨t, rows, enc, rfl, ht, he, lr, lx, q⟩ := hp
    have se : ∀ t0 : Tr, startE n_Plan_init.tail [t0] = [some (.p t0), none] := fun _ => rfl
    rw [se]; clear se h hr
    rcases ht with rfl | rfl
    all_goals
      keq_rows
      refine lc_map rows enc trTI rfl (sidL (by omega)) (fun r hr acc Kp Ks hk => ?_) ?_
      · have := lx r hr
        rcases he with rfl | rfl
        all_goals
          keq_rows
          exact hk
      · keq_rows
        exact q
def pPLen (K : PySem.W.Frag) : Pv := fun ts PP _ => ∃ (rows : List (List Int)), ts = [pT K rows] ∧ PP (.t (trI (rows.length : Nat)))
theorem ok_Plan_len (T : Tx K mg) : Ok PG w K mg base CX0 2 (a_Plan_len K) p_Plan_len (spV K (pPLen K)) := by
  refine Ok.of 1 T.f_Plan_len sc_Plan_len bi_Plan_len (by decide) (fun vs H Q E h => ?_) (fun cdv A outer s H vs Q E hr h => ?_)
  · obtain ⟨_, _, _, _, _, rq, ⟨_, rfl, _⟩, _⟩ := h
    exact rq.1
  · have T0 := T
    have fc_Plan := T.cPlan
    have fn_Plan_rows := T.nPlan_rows
    have nd := sc_Plan_len.nd
    refine ⟨_, pss_one (ps_ret (pe_callB (k_call_len_seq K rfl) (by rfl) T.m_len PySem.boot_len (pa_cons (k_pe_fld K rfl (pv 0) rfl) pa_nil))), ?_⟩
    try dsimp only [cxOf]
    refine run_V0 (by repeat' kbo_bools) h fun ts PP G hp _ => ?_
    obtain ⟨rows, rfl, q⟩ := hp
    have se : ∀ t0 : Tr, startE n_Plan_len [t0] = [some (.p t0)] := fun _ => rfl
    rw [se]; clear se h hr
    keq_rows
    exact q
theorem it_Plan (T : Tx K mg) : OwnIt K mg (c_Plan K) (a_Plan_iter K) "rows" := by
  obtain ⟨fd, F⟩ := T.f_Plan_iter
  exact ownIt_of T.cPlan T.nPlan_rows T.wPlan_iter.1 T.wPlan_iter.2 T.m_iter F ⟨_, _, _, _, _, rfl, fun env h => by obtain ⟨⟩ := env; cases h; rfl⟩ ⟨rfl, rfl, by decide +kernel, rfl, rfl, rfl⟩ fun s fd v h1 h2 h3 => .of_eq (by obtain ⟨⟩ := fd; cases h1; cases h2; cases h3; rfl)
def pPAt (K : PySem.W.Frag) : Pv := fun ts PP G => ∃ (rows : List (List Int)) (i : Int), ts = [pT K rows, trI i] ∧ (¬ (1 ≤ i ∧ i ≤ rows.length) → G (c_NoNight K) (.xd [("night", .int i)])) ∧ (1 ≤ i → i ≤ rows.length → PP (.t (trTI (rows.getD (i.toNat - 1) []))))
theorem ok_Plan_getitem (T : Tx K mg) : Ok PG w K mg base (L2.CX PG w) 4 (a_Plan_getitem K) p_Plan_getitem (spV K (pPAt K)) := by
  refine Ok.of 3 T.f_Plan_getitem sc_Plan_getitem bi_Plan_getitem (by decide) (fun vs H Q E h => ?_) (fun cdv A outer s H vs Q E hr h => ?_)
  · obtain ⟨_, _, _, _, _, rq, ⟨_, _, rfl, _⟩, _⟩ := h
    exact rq.1
  · have T0 := T
    have fc_Plan := T.cPlan
    have fn_Plan_rows := T.nPlan_rows
    have nd := sc_Plan_getitem.nd
    refine ⟨_, pss_cons (ps_expr (pc (ok_check_night T) (hr.mono (by decide)) T.g_check_night px (pa_cons (pv 1) (pa_cons (pe_callB (k_call_len_seq K rfl) (by rfl) T.m_len PySem.boot_len (pa_cons (k_pe_fld K rfl (pv 0) rfl) pa_nil)) pa_nil))))
      (pss_one (ps_ret (pe_ix (k_ix_tup K rfl) (k_pe_fld K rfl (pv 0) rfl) (pe_op op_sub (pv 1) pe_int) (fun _ _ => rfl)))), ?_⟩
    try dsimp only [cxOf]
    refine run_V (by repeat' kbo_bools) h fun ts PP G hp _ => ?_
    obtain ⟨rows, i, rfl, h1, h2⟩ := hp
    have se : ∀ t0 t1 : Tr, startE n_Plan_getitem [t0, t1] = [some (.p t0), some (.p t1)] := fun _ _ => rfl
    rw [se]; clear se h hr
    keq_rows
    · exact h1 (by assumption)
    · rw [show (i - 1).toNat = i.toNat - 1 by omega]
      exact h2 (by omega) (by omega)
def pNightsOf (K : PySem.W.Frag) : Pv := fun ts PP _ => ∃ (rows : List (List Int)) (e : Int), ts = [pT K rows, trI e] ∧ rows.length ≤ 100000 ∧ PP (.l ((nightsOf rows e).map trI))
theorem ok_Plan_nights_of (T : Tx K mg) : Ok PG w K mg base CX0 2 (a_Plan_nights_of K) p_Plan_nights_of (spV K (pNightsOf K)) := by
  refine Ok.of 1 T.f_Plan_nights_of sc_Plan_nights_of bi_Plan_nights_of (by decide) (fun vs H Q E h => ?_) (fun cdv A outer s H vs Q E hr h => ?_)
  · obtain ⟨_, _, _, _, _, rq, ⟨_, _, rfl, _⟩, _⟩ := h
    exact rq.1
  · have T0 := T
    have fc_Plan := T.cPlan
    have fn_Plan_rows := T.nPlan_rows
    have nd := sc_Plan_nights_of.nd
    refine ⟨_, pss_one (ps_ret (pe_lc (own := [("night", 2), ("row", 3)]) (g := gTup K 2 (gCons (gName 2) (gCons (gName 3) gNil))) rfl nd (k_pi_enumS K rfl (by rfl) T.m_enumerate (pa_cons (k_pe_fld K rfl (pv 0) rfl) pa_nil) (pk_cons pe_int pk_nil)) (blkOk_by (N := n_Plan_nights_of) (sc := defScope s_Plan_nights_of) (by decide +kernel)) (fun _ _ _ _ _ => pg_tup (n := 2) rfl (pgs_cons (pg_name (i := 2) nd rfl (Or.inl rfl)) (pgs_cons (pg_name (i := 3) nd rfl (Or.inl rfl)) pgs_nil))) (fun _ _ _ _ _ => pts_one (pt_cmpR (k_op_in_seq K rfl) (pv 1) (pv 3) (by rfl))) (fun _ _ _ _ _ => pv 2))), ?_⟩
    try dsimp only [cxOf]
    refine run_V0 (by repeat' kbo_bools) h fun ts PP G hp _ => ?_
    obtain ⟨rows, e, rfl, lr, q⟩ := hp
    have se : ∀ t0 t1 : Tr, startE n_Plan_nights_of [t0, t1] = [some (.p t0), some (.p t1), none, none] := fun _ _ => rfl
    rw [se]; clear se h hr
    keq_rows
    refine lc_detP (List.range rows.length) _ (fun i => e ∈ rows.getD i []) (fun i => trI (1 + (i : Nat))) (enT_rng [] 1 rows trTI) (sidL (by rw [List.length_range]; omega)) (fun i hi acc Kp Ks hk hs => ?_) ?_
    · keq_rows
      · exact hk (by assumption)
      · exact hs (by assumption)
    · keq_rows
      unfold nightsOf at q
      rw [List.map_map] at q
      exact q
def pHPeople (K : PySem.W.Frag) : Pv := fun ts PP _ => ∃ (days starts : List Int) (gap : Int), ts = [hT K days starts gap] ∧ PP (.t (trI (starts.length : Nat)))
def pHNights (K : PySem.W.Frag) : Pv := fun ts PP _ => ∃ (days starts : List Int) (gap : Int), ts = [hT K days starts gap] ∧ days.length ≤ 1000 ∧ PP (.t (trI (days.length : Nat)))
theorem ok_House_people (T : Tx K mg) : Ok PG w K mg base CX0 2 (a_House_people K) p_House_people (spV K (pHPeople K)) := by
  refine Ok.of 1 T.f_House_people sc_House_people bi_House_people (by decide) (fun vs H Q E h => ?_) (fun cdv A outer s H vs Q E hr h => ?_)
  · obtain ⟨_, _, _, _, _, rq, ⟨_, _, _, rfl, _⟩, _⟩ := h
    exact rq.1
  · have T0 := T
    have fc_House := T.cHouse
    have fn_House_comings := T.nHouse_comings
    have nd := sc_House_people.nd
    refine ⟨_, pss_one (ps_ret (pe_callB (k_call_len_seq K rfl) (by rfl) T.m_len PySem.boot_len (pa_cons (k_pe_fld K rfl (pv 0) rfl) pa_nil))), ?_⟩
    try dsimp only [cxOf]
    refine run_V0 (by repeat' kbo_bools) h fun ts PP G hp _ => ?_
    obtain ⟨days, starts, gap, rfl, q⟩ := hp
    have se : ∀ t0 : Tr, startE n_House_people [t0] = [some (.p t0)] := fun _ => rfl
    rw [se]; clear se h hr
    keq_rows
    exact q
theorem ok_House_nights (T : Tx K mg) : Ok PG w K mg base CX0 4 (a_House_nights K) p_House_nights (spV K (pHNights K)) := by
  refine Ok.of 3 T.f_House_nights sc_House_nights bi_House_nights (by decide) (fun vs H Q E h => ?_) (fun cdv A outer s H vs Q E hr h => ?_)
  · obtain ⟨_, _, _, _, _, rq, ⟨_, _, _, rfl, _⟩, _⟩ := h
    exact rq.1
  · have T0 := T
    have fc_House := T.cHouse
    have fn_House_wants := T.nHouse_wants
    have nd := sc_House_nights.nd
    refine ⟨_, pss_one (ps_ret (pe_callB (cLen (ok_Wants_len T) T.wWants_len hr pass0) (by rfl) T.m_len PySem.boot_len (pa_cons (k_pe_fld K rfl (pv 0) rfl) pa_nil))), ?_⟩
    try dsimp only [cxOf]
    refine run_V0 (by repeat' kbo_bools) h fun ts PP G hp _ => ?_
    obtain ⟨days, starts, gap, rfl, ld, q⟩ := hp
    have se : ∀ t0 : Tr, startE n_House_nights [t0] = [some (.p t0)] := fun _ => rfl
    rw [se]; clear se h hr
    keq_rows
    exact q
def pCounts (K : PySem.W.Frag) : Pv := fun ts PP _ => ∃ (days starts : List Int) (gap : Int) (rows : List (List Int)), ts = [hT K days starts gap, pT K rows] ∧ starts.length ≤ 1000 ∧ rows.length ≤ 100000 ∧ PP (.l (((List.range starts.length).map fun e : Nat => ((nightsOf rows e).length : Int)).map trI))
theorem ok_counts_of (T : Tx K mg) : Ok PG w K mg base CX0 4 (a_counts_of K) p_counts_of (spV K (pCounts K)) := by
  refine Ok.of 3 T.f_counts_of sc_counts_of bi_counts_of (by decide) (fun vs H Q E h => ?_) (fun cdv A outer s H vs Q E hr h => ?_)
  · obtain ⟨_, _, _, _, _, rq, ⟨_, _, _, _, rfl, _⟩, _⟩ := h
    exact rq.1
  · have T0 := T
    have nd := sc_counts_of.nd
    refine ⟨_, pss_one (ps_ret (pe_lc (own := [("person", 2)]) (g := gName 2) (tt := tYes) rfl nd (pi_range1 rfl T.m_range (pa_cons (pprop (ok_House_people T) (pv 0) T.cHouse T.wHouse_people hr pass0) pa_nil)) (blkOk_by (N := n_counts_of) (sc := defScope s_counts_of) (by decide +kernel)) (fun _ _ _ _ _ => pg_name (i := 2) nd rfl (Or.inl rfl)) (fun _ _ _ _ _ => pts_nil) (fun _ _ _ _ _ => pe_callB (r := rLenQ K) (k_call_len_seq K rfl) (by rfl) T.m_len PySem.boot_len (pa_cons (pmeth (ok_Plan_nights_of T) (pv 1) T.cPlan T.wPlan_nights_of (hr.mono (by decide)) pass0 (pa_cons (pv 2) pa_nil)) pa_nil)))), ?_⟩
    try dsimp only [cxOf]
    refine run_V0 (by repeat' kbo_bools) h fun ts PP G hp _ => ?_
    obtain ⟨days, starts, gap, rows, rfl, ls, lr, q⟩ := hp
    have se : ∀ t0 t1 : Tr, startE n_counts_of [t0, t1] = [some (.p t0), some (.p t1), none] := fun _ _ => rfl
    rw [se]; clear se h hr
    keq_rows
    refine lc_map (List.range starts.length) _ (fun e => trI ((nightsOf rows (e : Nat)).length : Nat)) rfl (sidL (by rw [List.length_range]; omega)) (fun e he acc Kp Ks hk => ?_) ?_
    · keq_rows
      exact hk
    · keq_rows
      rw [List.map_map] at q
      exact q
end
end K14v

set_option maxRecDepth 100000
set_option maxHeartbeats 4000000
/-! # More words: cuts of rows, draws of the laws -/
namespace VL
open PySem PySem.Spec PyProof.Rows L2
theorem cutA_map {α β : Type} (f : α → β) (xs : List α) (lo hi : Option Int) : cutA (xs.map f) lo hi = (cutA xs lo hi).map f := by
  unfold cutA
  rw [List.length_map, List.map_take, List.map_drop]
theorem sIx_in {n : Nat} {d : Nat} {i : Int} (h0 : 0 ≤ i) (h : i ≤ n) : HT.sIx n d (some i) = i.toNat := by
  unfold HT.sIx
  simp only
  split <;> omega
theorem cutA_to {α : Type} {xs : List α} {i : Int} (h0 : 0 ≤ i) (h : i ≤ xs.length) : cutA xs none (some i) = xs.take i.toNat := by
  unfold cutA
  rw [sIx_in h0 h, show HT.sIx xs.length 0 none = 0 from rfl, List.drop_zero, Nat.sub_zero]
theorem cutA_from {α : Type} {xs : List α} {i : Int} (h0 : 0 ≤ i) (h : i ≤ xs.length) : cutA xs (some i) none = xs.drop i.toNat := by
  unfold cutA
  rw [sIx_in h0 h, show HT.sIx xs.length xs.length none = xs.length from rfl]
  exact List.take_of_length_le (by rw [List.length_drop]; omega)
theorem cutA_from_len {α : Type} {xs : List α} {i : Int} (h0 : 0 ≤ i) : (cutA xs (some i) none).length = xs.length - i.toNat := by
  by_cases h : i ≤ xs.length
  · rw [cutA_from h0 h, List.length_drop]
  · unfold cutA
    rw [List.length_take, List.length_drop, show HT.sIx xs.length 0 (some i) = xs.length by unfold HT.sIx; simp only; split <;> omega]
    omega
theorem cutA_to_ge {α : Type} {xs : List α} {i : Int} (h : xs.length ≤ i) : cutA xs none (some i) = xs := by
  unfold cutA
  have : HT.sIx xs.length xs.length (some i) = xs.length := by
    unfold HT.sIx
    simp only
    split <;> omega
  rw [this, show HT.sIx xs.length 0 none = 0 from rfl, List.drop_zero, Nat.sub_zero, List.take_length]
theorem cutA_between {α : Type} {xs : List α} {i j : Int} (h0 : 0 ≤ i) (h : i ≤ xs.length) (j0 : 0 ≤ j) (hj : j ≤ xs.length) : cutA xs (some i) (some j) = (xs.drop i.toNat).take (j.toNat - i.toNat) := by
  unfold cutA
  rw [sIx_in h0 h, sIx_in j0 hj]
/-- a row without its i-th -/
theorem take_drop_perm {α : Type} {xs : List α} {i : Nat} {x : α} (h : xs[i]? = some x) : (x :: (xs.take i ++ xs.drop (i + 1))).Perm xs := by
  obtain ⟨hi, e⟩ := List.getElem?_eq_some_iff.mp h
  have : xs = xs.take i ++ x :: xs.drop (i + 1) := by
    rw [← e, ← List.drop_eq_getElem_cons hi, List.take_append_drop]
  conv => rhs; rw [this]
  exact List.perm_middle.symm
/-- range(n) -/
theorem forR0 {g : VG} {fb : VS} {n0 : Nat} {its : List Tr} {G : Gx} {D : VEnds} {z1 : Z} (n : Nat) (e : its = (List.range n).map fun i => trI (i : Nat)) (I : Nat → Z → Prop) (h0 : Wk n0 z1 (I 0))
    (hs : ∀ i z, i < n → I i z → g (trI (i : Nat)) z fun z2 => fb G { nx := fun z' => Wk n0 z' (I (i + 1)), ct := fun z' => Wk n0 z' (I (i + 1)), bk := D.nx, rt := D.rt } z2) (hd : ∀ z, I n z → D.nx z) : forI g fb n0 its G D z1 := by
  refine forR 0 n (by rw [e]; simp only [Int.zero_add]) I h0 (fun i z hi hz => ?_) hd
  rw [Int.zero_add]
  exact hs i z hi hz
end VL
local macro_rules | `(tactic| keq_hits) => `(tactic| ((simp only [List.length_map, List.length_append, List.length_cons, List.length_nil, List.length_set, List.length_take, List.length_drop]); first | omega | exact L2.drawOk (by omega) (by omega) | (refine VL.sidL ?_; omega) | (refine VL.sidLt ?_; omega)))
local macro_rules | `(tactic| keq_hits) => `(tactic| (refine VL.sidL (Nat.le_trans (Nat.add_le_add (VL.cutA_le _ _ _) (VL.cutA_le _ _ _)) ?_); (try simp only [List.length_map]); omega))
local macro_rules | `(tactic| keq_rows) => `(tactic| ((repeat' (first | kp_flats | ((conv => whnf); kp_flats))) <;> (try (first | ((conv => whnf); (with_reducible show VL.Wk _ _ _)) | ((conv => whnf); (with_reducible show VL.forI _ _ _ _ _ _ _)) | ((conv => whnf); (with_reducible show VL.lcI _ _ _ _ _ _ _ _)))) <;> (try dsimp only [VL.fNext, VL.fBreak, VL.fCont, VL.Z.set, VL.Z.put, VL.Z.putO, VL.kE, VL.kED, VL.kR, VL.kM, List.set, List.length_cons, List.length_nil, Nat.reduceAdd, List.nil_append, List.cons_append]) <;> (try simp only [List.length_map, Int.zero_add])))

set_option maxRecDepth 100000
set_option maxHeartbeats 8000000
namespace K14v
open PySem PySem.Spec PyProof.Rows L2 VL K14
section
variable {w : World} {K : PySem.W.Frag} {mg : Str → Option Value} {base : Heap}
def pLawSize : Pd := fun ts PP => ∃ (m : Int), ts = [trI m] ∧ 0 < m ∧ m ≤ 100 ∧ ∀ v, 0 ≤ v → v ≤ m → PP (.t (trI v))
theorem ok_law_size (T : Tx K mg) : Ok PG w K mg base CX0 3 (a_law_size K) p_law_size (spD K (pLawSize)) := by
  refine Ok.of 2 T.f_law_size sc_law_size bi_law_size (by decide) (fun vs H Q E h => ?_) (fun cdv A outer s H vs Q E hr h => ?_)
  · obtain ⟨_, _, _, _, _, _, rfl, _, _, _, _, rq, ⟨_, rfl, _⟩, _⟩ := h
    exact congrArg Nat.succ rq.1
  · have T0 := T
    have nd := sc_law_size.nd
    refine ⟨_, pss_cons (ps_if (pt_cmpR op_eq (pc (ok_law_draw T) hr T.g_law_draw pass0 (pa_cons (pv 0) (pa_cons pe_int pa_nil))) pe_int (nomark _)) (pss_one (ps_ret pe_int)) pss_nil)
      (pss_one (ps_ret (pe_op op_add pe_int (pe_callB (call_max2 rfl) (by rfl) T.m_max (by decide +kernel) (pa_cons (pc (ok_law_draw T) hr T.g_law_draw pass0 (pa_cons (pv 0) (pa_cons (pv 1) pa_nil))) (pa_cons (pc (ok_law_draw T) hr T.g_law_draw pass0 (pa_cons (pv 0) (pa_cons (pv 1) pa_nil))) pa_nil)))))), ?_⟩
    try dsimp only [cxOf]
    refine run_D2 (E := E0) (by decide) (by repeat' kbo_bools) h fun ts PP hp _ => ?_
    obtain ⟨m, rfl, m0, m1, hp⟩ := hp
    have se : ∀ t0 : Tr, startE n_law_size.tail [t0] = [some (.p t0)] := fun _ => rfl
    rw [se]; clear se h hr
    keq_rows
    all_goals exact hp _ (by omega) (by omega)
def pLawComings : Pd := fun ts PP => ∃ (m n : Int), ts = [trI m, trI n] ∧ 0 ≤ m ∧ m ≤ 100 ∧ 0 ≤ n ∧ n ≤ 1000 ∧ ∀ cs : List Int, cs.length = m.toNat → (∀ x ∈ cs, 1 ≤ x ∧ x ≤ n + 1) → PP (.l (cs.map trI))
theorem ok_law_comings (T : Tx K mg) : Ok PG w K mg base CX0 3 (a_law_comings K) p_law_comings (spD K (pLawComings)) := by
  refine Ok.of 2 T.f_law_comings sc_law_comings bi_law_comings (by decide) (fun vs H Q E h => ?_) (fun cdv A outer s H vs Q E hr h => ?_)
  · obtain ⟨_, _, _, _, _, _, rfl, _, _, _, _, rq, ⟨_, _, rfl, _⟩, _⟩ := h
    exact congrArg Nat.succ rq.1
  · have T0 := T
    have mt3 : Mt 3 := trivial
    have nd := sc_law_comings.nd
    refine ⟨_, pss_cons (ps_set (i := 3) nd rfl (.inl rfl) (pe_lst pa_nil))
      (pss_cons (ps_for (passX rfl) rfl (pi_range1 rfl T.m_range (pa_cons (pv 1) pa_nil)) (pg_name (i := 4) nd rfl (.inl rfl))
        (pss_cons (ps_set (i := 5) nd rfl (.inl rfl) pe_int)
          (pss_cons (ps_if (pt_cmpR op_eq (pc (ok_law_draw T) hr T.g_law_draw pass0 (pa_cons (pv 0) (pa_cons pe_int pa_nil))) pe_int (nomark _)) (pss_one (ps_set (i := 5) nd rfl (.inl rfl) (pe_op op_add pe_int (pc (ok_law_draw T) hr T.g_law_draw pass0 (pa_cons (pv 0) (pa_cons (pe_op op_add (pv 2) pe_int) pa_nil)))))) pss_nil)
          (pss_one (ps_expr (pe_bm PySem.F.plainAttrs_list PySem.F.slot_list_append PySem.F.type_list_append mt_append (pv 3) (pa_cons (pv 5) pa_nil)))))))
      (pss_one (ps_ret (pv 3)))), ?_⟩
    try dsimp only [cxOf]
    refine run_D2 (E := E0) (by decide) (by repeat' kbo_bools) h fun ts PP hp _ => ?_
    obtain ⟨m, n, rfl, m0, m1, n0, n1, hp⟩ := hp
    have se : ∀ t0 t1 : Tr, startE n_law_comings.tail [t0, t1] = [some (.p t0), some (.p t1), none, none, none] := fun _ _ => rfl
    rw [se]; clear se h hr
    keq_rows
    refine forR0 m.toNat rfl (fun i z => ∃ (L : List Tr) (cs : List Int), z = ⟨[some (.c 0), some (.p (trI m)), some (.p (trI n)), some (.c 1), none, none], [.pool, .lst L]⟩ ∧ L = cs.map trI ∧ cs.length = i ∧ ∀ x ∈ cs, 1 ≤ x ∧ x ≤ n + 1)
      (wkM (by kx_w2) ⟨_, [], rfl, rfl, rfl, fun x h => by cases h⟩) (fun i z hi hz => ?_) (fun z hz => ?_)
    · obtain ⟨_, cs, rfl, rfl, hl, hb⟩ := hz
      have add : ∀ y : Int, 1 ≤ y ∧ y ≤ n + 1 → ∀ x ∈ cs ++ [y], 1 ≤ x ∧ x ≤ n + 1 := fun y hy x hx => (List.mem_append.mp hx).elim (hb x) (fun q => by rw [List.mem_singleton.mp q]; exact hy)
      keq_rows
      all_goals exact wkM (by kx_w2) ⟨_, cs ++ [_], rfl, by rw [List.map_append]; rfl, by rw [List.length_append, hl]; rfl, add _ (by omega)⟩
    · obtain ⟨_, cs, rfl, rfl, hl, hb⟩ := hz
      keq_rows
      exact hp cs hl hb
/-- rows drawn so that they fit -/
def RowsOk (starts : List Int) (gap : Int) (rows : List (List Int)) : Prop := ∀ i (e : Int), e ∈ rows.getD i [] → 0 ≤ e ∧ e < starts.length ∧ starts.getD e.toNat 0 ≤ i + 1 ∧ ∀ j : Nat, j < i → (i : Int) - j ≤ gap → e ∉ rows.getD j []
def pLawRows : Pd := fun ts PP => ∃ (n : Int) (starts : List Int) (gap keen : Int), ts = [trI n, trLI starts, trI gap, trI keen] ∧ 0 ≤ n ∧ n ≤ 1000 ∧ starts.length ≤ 1000 ∧ 0 ≤ gap ∧ 0 < keen ∧ keen ≤ 1000 ∧ ∀ rows : List (List Int), rows.length = n.toNat → RowsOk starts gap rows → (∀ r ∈ rows, r.Pairwise (· < ·) ∧ r.length ≤ starts.length) → PP (.l (rows.map trLI))
theorem getD_snoc {rows : List (List Int)} {row : List Int} (i : Nat) : (rows ++ [row]).getD i [] = if i = rows.length then row else rows.getD i [] := by
  rw [List.getD_eq_getElem?_getD, List.getD_eq_getElem?_getD]
  by_cases c : i < rows.length
  · rw [List.getElem?_append_left c, if_neg (by omega)]
  · rw [List.getElem?_append_right (by omega)]
    by_cases d : i = rows.length
    · subst d; rw [Nat.sub_self, if_pos rfl]; rfl
    · rw [if_neg d, List.getElem?_eq_none (by show 1 ≤ _; omega), List.getElem?_eq_none (by omega)]
/-- what the next free nights tell -/
def Again (starts : List Int) (gap : Int) (rows : List (List Int)) (ag : List Int) : Prop := ag.length = starts.length ∧ ∀ e : Nat, e < starts.length → starts.getD e 0 ≤ ag.getD e 0 ∧ ∀ j : Nat, (e : Int) ∈ rows.getD j [] → (j : Int) + gap + 2 ≤ ag.getD e 0
theorem ok_law_rows (T : Tx K mg) : Ok PG w K mg base CX0 3 (a_law_rows K) p_law_rows (spD K (pLawRows)) := by
  refine Ok.of 2 T.f_law_rows sc_law_rows bi_law_rows (by decide) (fun vs H Q E h => ?_) (fun cdv A outer s H vs Q E hr h => ?_)
  · obtain ⟨_, _, _, _, _, _, rfl, _, _, _, _, rq, ⟨_, _, _, _, rfl, _⟩, _⟩ := h
    exact congrArg Nat.succ rq.1
  · have T0 := T
    have mt5 : Mt 5 := trivial
    have mt6 : Mt 6 := trivial
    have mt8 : Mt 8 := trivial
    have nd := sc_law_rows.nd
    refine ⟨_, pss_cons (ps_set (i := 5) nd rfl (.inl rfl) (pe_lst pa_nil))
      (pss_cons (ps_set (i := 6) nd rfl (.inl rfl) (pe_callTy (k_call_list_of K rfl) (by rfl) T.m_list (by decide +kernel) (pa_cons (pv 2) pa_nil)))
      (pss_cons (ps_for (passX rfl) rfl (pi_range2 rfl T.m_range (pa_cons pe_int (pa_cons (pe_op op_add (pv 1) pe_int) pa_nil))) (pg_name (i := 7) nd rfl (.inl rfl))
        (pss_cons (ps_set (i := 8) nd rfl (.inl rfl) (pe_lst pa_nil))
          (pss_cons (ps_for (passX rfl) rfl (pi_range1 rfl T.m_range (pa_cons (pe_callB (k_call_len_seq K rfl) (by rfl) T.m_len PySem.boot_len (pa_cons (pv 2) pa_nil)) pa_nil)) (pg_name (i := 9) nd rfl (.inl rfl))
            (pss_one (ps_if (PW.pt (pw_and (pt_cmpR op_le (pe_ix (k_ix_list K rfl) (pv 6) (pv 9) (fun _ _ => rfl)) (pv 7) (nomark _)) (pw_and1 (pt_cmpR op_ne (pc (ok_law_draw T) hr T.g_law_draw pass0 (pa_cons (pv 0) (pa_cons (pv 4) pa_nil))) pe_int (nomark _))))) (pss_cons (ps_expr (pe_bm PySem.F.plainAttrs_list PySem.F.slot_list_append PySem.F.type_list_append mt_append (pv 8) (pa_cons (pv 9) pa_nil)))
                (pss_one (ps_asg (pe_op op_add (pe_op op_add (pv 7) (pv 3)) pe_int) (pg_sub (pv 6) (pv 9) set_list)))) pss_nil)))
          (pss_one (ps_expr (pe_bm PySem.F.plainAttrs_list PySem.F.slot_list_append PySem.F.type_list_append mt_append (pv 5) (pa_cons (pv 8) pa_nil)))))))
      (pss_one (ps_ret (pv 5))))), ?_⟩
    try dsimp only [cxOf]
    refine run_D2 (E := E0) (by decide) (by repeat' kbo_bools) h fun ts PP hp _ => ?_
    obtain ⟨n, starts, gap, keen, rfl, n0, n1, ls, g0, k0, k1, hp⟩ := hp
    have se : ∀ t0 t1 t2 t3 : Tr, startE n_law_rows.tail [t0, t1, t2, t3] = [some (.p t0), some (.p t1), some (.p t2), some (.p t3), none, none, none, none, none] := fun _ _ _ _ => rfl
    rw [se]; clear se h hr
    keq_rows
    refine forR 1 n.toNat (by rw [show (n + 1 - 1).toNat = n.toNat by omega]) (fun i z => ∃ (L M : List Tr) (rows : List (List Int)) (ag : List Int), z = ⟨[some (.c 0), some (.p (trI n)), some (.p (trLI starts)), some (.p (trI gap)), some (.p (trI keen)), some (.c 1), some (.c 2), none, none, none], [.pool, .lst L, .lst M]⟩ ∧ L = rows.map trLI ∧ M = ag.map trI ∧ rows.length = i ∧ Again starts gap rows ag ∧ RowsOk starts gap rows ∧ ∀ r ∈ rows, r.Pairwise (· < ·) ∧ r.length ≤ starts.length)
      (wkM (by kx_w2) ⟨_, _, [], starts, rfl, rfl, rfl, rfl, ⟨rfl, fun e he => ⟨Int.le_refl _, fun j hj => by cases hj⟩⟩, fun i e he => (by cases he), fun r hr => by cases hr⟩) (fun i z hi hz => ?_) (fun z hz => ?_)
    · obtain ⟨_, _, rows, ag, rfl, rfl, rfl, hl, hag, hok, hpw⟩ := hz
      keq_rows
      refine forR0 starts.length rfl (fun p z => ∃ (M R : List Tr) (row ag : List Int), z = ⟨[some (.c 0), some (.p (trI n)), some (.p (trLI starts)), some (.p (trI gap)), some (.p (trI keen)), some (.c 1), some (.c 2), some (.p (trI (1 + (i : Nat)))), some (.c 3), none], [.pool, .lst (rows.map trLI), .lst M, .lst R]⟩ ∧ M = ag.map trI ∧ R = row.map trI ∧ row.Pairwise (· < ·) ∧ (∀ e ∈ row, 0 ≤ e ∧ e < p) ∧ row.length ≤ p ∧ Again starts gap (rows ++ [row]) ag ∧ (∀ e : Nat, p ≤ e → e < starts.length → ∀ j : Nat, (e : Int) ∈ rows.getD j [] → (j : Int) + gap + 2 ≤ ag.getD e 0) ∧ RowsOk starts gap (rows ++ [row]))
        (wkM (by kx_w2) ⟨_, _, [], ag, rfl, rfl, rfl, List.Pairwise.nil, fun e he => (by cases he), Nat.zero_le _, ?_, ?_, ?_⟩) (fun p z hp' hz => ?_) (fun z hz => ?_)
      · refine ⟨hag.1, fun e he => ⟨(hag.2 e he).1, fun j hj => ?_⟩⟩
        rw [getD_snoc] at hj
        split at hj
        · cases hj
        · exact (hag.2 e he).2 j hj
      · exact fun e _ he j hj => (hag.2 e he).2 j hj
      · intro k e he
        rw [getD_snoc] at he
        split at he
        · cases he
        · obtain ⟨a, b, c, d⟩ := hok k e he
          refine ⟨a, b, c, fun j hj hg => ?_⟩
          rw [getD_snoc]
          split
          · exact fun h => by cases h
          · exact d j hj hg
      · obtain ⟨_, _, row, ag, rfl, rfl, rfl, q1, q2, q3, q4, q5, q6⟩ := hz
        have la := q4.1
        have nx : ∀ {z' : Z}, Wk 4 z' (fun z => ∃ (M R : List Tr) (row ag : List Int), z = ⟨[some (.c 0), some (.p (trI n)), some (.p (trLI starts)), some (.p (trI gap)), some (.p (trI keen)), some (.c 1), some (.c 2), some (.p (trI (1 + (i : Nat)))), some (.c 3), none], [.pool, .lst (rows.map trLI), .lst M, .lst R]⟩ ∧ M = ag.map trI ∧ R = row.map trI ∧ row.Pairwise (· < ·) ∧ (∀ e ∈ row, 0 ≤ e ∧ e < ((p + 1 : Nat) : Int)) ∧ row.length ≤ p + 1 ∧ Again starts gap (rows ++ [row]) ag ∧ (∀ e : Nat, p + 1 ≤ e → e < starts.length → ∀ j : Nat, (e : Int) ∈ rows.getD j [] → (j : Int) + gap + 2 ≤ ag.getD e 0) ∧ RowsOk starts gap (rows ++ [row])) → Wk 4 z' (fun z => ∃ (M R : List Tr) (row ag : List Int), z = ⟨[some (.c 0), some (.p (trI n)), some (.p (trLI starts)), some (.p (trI gap)), some (.p (trI keen)), some (.c 1), some (.c 2), some (.p (trI (1 + (i : Nat)))), some (.c 3), none], [.pool, .lst (rows.map trLI), .lst M, .lst R]⟩ ∧ M = ag.map trI ∧ R = row.map trI ∧ row.Pairwise (· < ·) ∧ (∀ e ∈ row, 0 ≤ e ∧ e < ((p + 1 : Nat) : Int)) ∧ row.length ≤ p + 1 ∧ Again starts gap (rows ++ [row]) ag ∧ (∀ e : Nat, p + 1 ≤ e → e < starts.length → ∀ j : Nat, (e : Int) ∈ rows.getD j [] → (j : Int) + gap + 2 ≤ ag.getD e 0) ∧ RowsOk starts gap (rows ++ [row])) := id
        keq_rows
        · rename_i c v _ _ _
          have hap : ag.getD p 0 ≤ 1 + (i : Int) := by simpa using c
          have hst := (q4.2 p hp').1
          have sg : ∀ e : Nat, (ag.set p (1 + (i : Int) + gap + 1)).getD e 0 = if e = p then 1 + (i : Int) + gap + 1 else ag.getD e 0 := fun e => by
            rw [List.getD_eq_getElem?_getD, List.getElem?_set]
            by_cases w : p = e
            · rw [if_pos w, if_pos (by omega), if_pos w.symm]; rfl
            · rw [if_neg w, if_neg (fun z => w z.symm), ← List.getD_eq_getElem?_getD]
          refine nx (wkM (by kx_w2) ⟨_, _, row ++ [(p : Int)], ag.set p (1 + (i : Int) + gap + 1), rfl, ?_, ?_, ?_, ?_, ?_, ?_, ?_, ?_⟩)
          · rw [List.map_set, show ((p : Nat) : Int).toNat = p from Int.toNat_natCast p]
          · rw [List.map_append]; rfl
          · rw [List.pairwise_append]
            exact ⟨q1, List.pairwise_singleton .., fun a ha b hb => by rw [List.mem_singleton] at hb; rw [hb]; exact (q2 a ha).2⟩
          · intro e he
            rcases List.mem_append.mp he with he | he
            · have := q2 e he; omega
            · rw [List.mem_singleton] at he; omega
          · rw [List.length_append]; show _ + 1 ≤ _; omega
          · refine ⟨by rw [List.length_set]; exact la, fun e he => ?_⟩
            rw [sg]
            by_cases w : e = p
            · subst w
              rw [if_pos rfl]
              refine ⟨by omega, fun j hj => ?_⟩
              rw [getD_snoc] at hj
              split at hj
              · omega
              · have : j < rows.length := by
                  rw [List.getD_eq_getElem?_getD] at hj
                  cases e : rows[j]? with
                  | none => rw [e] at hj; cases hj
                  | some r => exact (List.getElem?_eq_some_iff.mp e).1
                omega
            · rw [if_neg w]
              refine ⟨(q4.2 e he).1, fun j hj => (q4.2 e he).2 j ?_⟩
              rw [getD_snoc] at hj ⊢
              split
              · rename_i q
                rw [if_pos q] at hj
                rcases List.mem_append.mp hj with h | h
                · exact h
                · rw [List.mem_singleton] at h; omega
              · rename_i q
                rw [if_neg q] at hj; exact hj
          · intro e h1 h2 j hj
            rw [sg, if_neg (by omega)]
            exact q5 e (by omega) h2 j hj
          · intro k e he
            rw [getD_snoc] at he
            have dn : ∀ j, j < k → (k : Int) - j ≤ gap → (rows ++ [row ++ [(p : Int)]]).getD j [] = (rows ++ [row]).getD j [] ∨ j = rows.length := fun j _ _ => by
              rw [getD_snoc, getD_snoc]
              by_cases q : j = rows.length
              · exact .inr q
              · rw [if_neg q, if_neg q]; exact .inl rfl
            by_cases q : k = rows.length
            · rw [if_pos q] at he
              rcases List.mem_append.mp he with he | he
              · obtain ⟨a, b, c, d⟩ := q6 k e (by rw [getD_snoc, if_pos q]; exact he)
                refine ⟨a, b, c, fun j hj hg => ?_⟩
                rcases dn j hj hg with h | h
                · rw [h]; exact d j hj hg
                · omega
              · rw [List.mem_singleton] at he
                subst he
                refine ⟨by omega, by omega, by rw [Int.toNat_natCast]; omega, fun j hj hg => ?_⟩
                rw [getD_snoc, if_neg (by omega)]
                intro hm
                have := q5 p (Nat.le_refl _) hp' j hm
                omega
            · rw [if_neg q] at he
              obtain ⟨a, b, c, d⟩ := q6 k e (by rw [getD_snoc, if_neg q]; exact he)
              have hk : k < rows.length := by
                rw [List.getD_eq_getElem?_getD] at he
                cases e : rows[k]? with
                | none => rw [e] at he; cases he
                | some r => exact (List.getElem?_eq_some_iff.mp e).1
              refine ⟨a, b, c, fun j hj hg => ?_⟩
              rcases dn j hj hg with h | h
              · rw [h]; exact d j hj hg
              · omega
        all_goals
          refine nx (wkM (by kx_w2) ⟨_, _, row, ag, rfl, rfl, rfl, q1, fun e he => ?_, by omega, q4, fun e h1 h2 => q5 e (by omega) h2, q6⟩)
          have := q2 e he
          omega
      · obtain ⟨_, _, row, ag, rfl, rfl, rfl, q1, q2, q3, q4, q5, q6⟩ := hz
        keq_rows
        refine wkM (by kx_w2) ⟨_, _, rows ++ [row], ag, rfl, by rw [List.map_append]; rfl, rfl, by rw [List.length_append, hl]; rfl, q4, q6, fun r hr => ?_⟩
        rcases List.mem_append.mp hr with hr | hr
        · exact hpw r hr
        · rw [List.mem_singleton.mp hr]; exact ⟨q1, q3⟩
    · obtain ⟨_, _, rows, ag, rfl, rfl, rfl, hl, hag, hok, hpw⟩ := hz
      keq_rows
      exact hp rows hl hok hpw
def pLawBend : Pd := fun ts PP => ∃ (days : List Int), ts = [trLI days] ∧ days.length ≤ 1000 ∧ (∀ x ∈ days, 0 ≤ x ∧ x ≤ 30) ∧ ∀ bs : List Int, bs.length = days.length → (∀ x ∈ bs, 0 ≤ x ∧ x ≤ 30) → PP (.l (bs.map trI))
theorem ok_law_bend_days (T : Tx K mg) : Ok PG w K mg base CX0 3 (a_law_bend_days K) p_law_bend_days (spD K (pLawBend)) := by
  refine Ok.of 2 T.f_law_bend_days sc_law_bend_days bi_law_bend_days (by decide) (fun vs H Q E h => ?_) (fun cdv A outer s H vs Q E hr h => ?_)
  · obtain ⟨_, _, _, _, _, _, rfl, _, _, _, _, rq, ⟨_, rfl, _⟩, _⟩ := h
    exact congrArg Nat.succ rq.1
  · have T0 := T
    have mt2 : Mt 2 := trivial
    have nd := sc_law_bend_days.nd
    refine ⟨_, pss_cons (ps_set (i := 2) nd rfl (.inl rfl) (pe_callTy (k_call_list_of K rfl) (by rfl) T.m_list (by decide +kernel) (pa_cons (pv 1) pa_nil)))
      (pss_cons (ps_if (PW.pt (pw_and (pt_cmpR op_gt (pe_callB (k_call_len_seq K rfl) (by rfl) T.m_len PySem.boot_len (pa_cons (pv 2) pa_nil)) pe_int (nomark _)) (pw_and1 (pt_cmpR op_eq (pc (ok_law_draw T) hr T.g_law_draw pass0 (pa_cons (pv 0) (pa_cons pe_int pa_nil))) pe_int (nomark _))))) (pss_cons (ps_set (i := 3) nd rfl (.inl rfl) (pc (ok_law_draw T) hr T.g_law_draw pass0 (pa_cons (pv 0) (pa_cons (pe_callB (k_call_len_seq K rfl) (by rfl) T.m_len PySem.boot_len (pa_cons (pv 2) pa_nil)) pa_nil))))
        (pss_one (ps_asg (pe_callB (call_min2 rfl) (by rfl) T.m_min (by decide +kernel) (pa_cons pe_int (pa_cons (pe_op op_add (pe_op op_add (pe_ix (k_ix_list K rfl) (pv 2) (pv 3) (fun _ _ => rfl)) pe_int) (pc (ok_law_draw T) hr T.g_law_draw pass0 (pa_cons (pv 0) (pa_cons pe_int pa_nil)))) pa_nil))) (pg_sub (pv 2) (pv 3) set_list)))) pss_nil)
      (pss_one (ps_ret (pv 2)))), ?_⟩
    try dsimp only [cxOf]
    refine run_D2 (E := E0) (by decide) (by repeat' kbo_bools) h fun ts PP hp _ => ?_
    obtain ⟨days, rfl, ld, hb, hp⟩ := hp
    have se : ∀ t0 : Tr, startE n_law_bend_days.tail [t0] = [some (.p t0), none, none] := fun _ => rfl
    rw [se]; clear se h hr
    keq_rows
    · rename_i x _ _ y _ _
      rw [show (days.map trI).set x.toNat (trI (min 30 (days.getD x.toNat 0 + 1 + y))) = (days.set x.toNat (min 30 (days.getD x.toNat 0 + 1 + y))).map trI by rw [List.map_set]]
      refine hp _ (List.length_set ..) (fun u hu => ?_)
      rcases List.mem_or_eq_of_mem_set hu with hu | rfl
      · exact hb u hu
      · have : days.getD x.toNat 0 ∈ days := by
          rw [List.getD_eq_getElem?_getD, List.getElem?_eq_getElem (by omega)]
          exact List.getElem_mem _
        have := hb _ this
        omega
    all_goals exact hp days rfl hb
end
end K14v

set_option maxRecDepth 100000
set_option maxHeartbeats 4000000
/-! # Class methods: C.m(..), cls(.., k = v) -/
namespace VL
open PySem PySem.Spec PyProof.Rows L2
section
variable {P : Program} {w : World} {K : PySem.W.Frag} {mg : Str → Option Value} {base : Heap} {CX : CXT} {k n : Nat} {q : Str × V} {f : Addr} {ps : List Str} {sp : Sp}
/-- the keyword left out -/
theorem OkW.fnS0 (O : OkW P w K mg base CX k f ps sp n q) : FnS P w K mg base CX k f [] (fun vs zs H Q E => zs = [] ∧ sp (vs ++ [q.2]) H Q E) := by
  obtain ⟨fd, F, kp, ⟨ds, rv, hb⟩, _⟩ := O.ex
  intro A outer s H us ws vs zs Q E hr e0 r rz hsp
  obtain ⟨rfl, hsp⟩ := hsp
  have KX : K.In s.heap := e0.mod.kin.keeps fun b o e => (e0.bs b o e).1
  have r2 := r.append rv
  have hl : (us ++ ds).length = ps.length := by rw [← r2.length]; exact F.len _ _ _ _ hsp
  exact F.run A outer s H ⟨us, []⟩ (us ++ ds) (vs ++ [q.2]) Q E hr e0 (hb s us KX hl) r2 hsp
/-- the keyword given -/
theorem OkW.fnS1 (O : OkW P w K mg base CX k f ps sp n q) : FnS P w K mg base CX k f [q.1] (fun vs zs H Q E => vs.length = n ∧ zs.length = 1 ∧ sp (vs ++ zs) H Q E) := by
  obtain ⟨fd, F, kp, _, ⟨mv, hb⟩⟩ := O.ex
  intro A outer s H us ws vs zs Q E hr e0 r rz hsp
  obtain ⟨l1, l2, hsp⟩ := hsp
  have KX : K.In s.heap := e0.mod.kin.keeps fun b o e => (e0.bs b o e).1
  exact F.run A outer s H ⟨us, [q.1].zip ws⟩ (us ++ ws) (vs ++ zs) Q E hr e0 (hb.to s us ws KX (by rw [← r.length]; exact l1) (by rw [← rz.length]; exact l2)) (r.append rz) hsp
/-- a class method without keywords -/
theorem Ok.fnS (O : Ok P w K mg base CX k f ps sp) : FnS P w K mg base CX k f [] (fun vs zs H Q E => zs = [] ∧ sp vs H Q E) := by
  obtain ⟨fd, F, hb, kp⟩ := O.ex
  intro A outer s H us ws vs zs Q E hr e0 r rz hsp
  obtain ⟨rfl, hsp⟩ := hsp
  have KX : K.In s.heap := e0.mod.kin.keeps fun b o e => (e0.bs b o e).1
  have hl : us.length = ps.length := by rw [← r.length]; exact F.len _ _ _ _ hsp
  have B := hb s us KX (by rw [List.append_nil]; exact hl)
  rw [List.append_nil] at B
  exact F.run A outer s H ⟨us, []⟩ us vs Q E hr e0 B r hsp
end
/-- cls(e, .., k = v), cls a local name that holds the class at C -/
def tMakeLK (i : Nat) (C : Addr) (n m : Nat) (sp : Sp) (gV : List V → List V → List V) (E : XK) (t tk : TA) : TE := fun σ H Q => σ[i]? = some (some (.ref C)) ∧ tMakeK C n m sp gV E t tk σ H Q
section
variable {X : Cx} {CX : CXT} {k n i : Nat} {f C : Addr} {q : Str × V} {ps : List Str} {sp : Sp} {E : XK} {x : Str} {p pos : Pos} {e : Expr} {es : List Expr} {kws : List Keyword} {t tk : TA}
theorem pmkLK (O : OkW X.prog X.w X.K X.mg X.base CX k f ps sp (n + 1) q) (M : Mk X.K C f) (hr : Room (k + 1) X.A) (hN : X.N[i]? = some x) (hv : Vis X.env.scope x) (hx : Passes CX X E) (ha : PA X (e :: es) t) (hkw : PK X kws tk) (hdb : (x == ("__debug__" : Str)) = false := by decide) (hcd : (x == ("__classdict__" : Str)) = false := by decide)
    (hall : (backToKw pos (keywordEach kws X.env)).all (·.1.isSome) = true := by rfl) (hks : (backToKw pos (keywordEach kws X.env)).filterMap (·.1) = [q.1] := by rfl)
    (he : starEach (e :: es) X.env = (false, eval e X.env) :: starEach es X.env := by rfl) (hpl : ((backTo pos (starEach (e :: es) X.env)).any (·.1) || (backToKw pos (keywordEach kws X.env)).any (·.1.isNone)) = false := by rfl) :
    PE X (.Call (.Name x p) (e :: es) kws pos) (tMakeLK i C n 1 sp (fun vs zs => vs ++ zs) E t tk) := by
  obtain ⟨fd, F, b, _, ⟨mv, c⟩⟩ := O.ex
  refine ⟨fun pins s σ H Q I h => ?_⟩
  obtain ⟨hs, h⟩ := h
  refine wpAny_Call_Name_kw (thn ((pe_var (pos := p) hN hv hdb hcd).run pins s σ H (fun v H1 => v = .ref C ∧ H1 = H) I ⟨.ref C, hs, rfl, rfl⟩) fun u s1 ⟨v, H1, I1, r1, q1⟩ => ?_)
  obtain ⟨rfl, rfl⟩ := q1
  cases r1
  refine PySem.W.callWith_KW (h₀ := X.base) I.ok.mod.kin M.kp hall (thn (ha.run pos pins s1 σ _ _ I1 h) fun us s2 ⟨vs, H2, I2, r, q⟩ => ?_) hpl he
  refine thn (hkw.run pos pins s2 σ H2 _ I2 q) fun ws s3 ⟨zs, H3, I3, rz, l1, l2, q2⟩ => ⟨I3.kIn, ?_⟩
  rw [hks]
  exact run_makeK M F hr c hx I3 r rz l1 l2 q2
end
section
variable {K : PySem.W.Frag} {E : XK} {B F F' : Hp} {α α' β : List Addr} {z z' : Z} {σ : L2.St} {H H' : Hp}
/-- a class, by its name in a slot -/
def fMakeLK (ge : Gx → Gx) (i : Nat) (n m : Nat) (C : Addr) (P : List Tr → (List (Str × Tr) → Prop) → Gx → Prop) (fa fk : VA) : VE := fun G z Q => z.e[i]? = some (some (.p (.a (.ref C)))) ∧ fMakeK ge n m C P fa fk G z Q
theorem re_makeLK {E' : XK} {ge : Gx → Gx} {i n m : Nat} {C0 : Addr} {P : List Tr → (List (Str × Tr) → Prop) → Gx → Prop} {ta tk : TA} {fa fk : VA} (ee : EE E E' ge) (h : RA K E ta fa) (h' : RA K E tk fk) : RE K E (tMakeLK i C0 n m (spM K C0 P) (fun vs zs => vs ++ zs) E' ta tk) (fMakeLK ge i n m C0 P fa fk) := by
  intro B F α z σ H G Qv Q er hf C k
  obtain ⟨e, hf⟩ := hf
  obtain ⟨v, e1, e2⟩ := C.env i _ e
  have ev := Rp.atom e2
  subst ev
  exact ⟨e1, re_makeK ee h h' B F α z σ H G Qv Q er hf C k⟩
def fMakeL (ge : Gx → Gx) (i : Nat) (C : Addr) (P : List Tr → (List (Str × Tr) → Prop) → Gx → Prop) (fa : VA) : VE := fun G z Q => z.e[i]? = some (some (.p (.a (.ref C)))) ∧ fMake ge C P fa G z Q
theorem re_makeL {E' : XK} {ge : Gx → Gx} {i : Nat} {C0 : Addr} {P : List Tr → (List (Str × Tr) → Prop) → Gx → Prop} {ta : TA} {fa : VA} (ee : EE E E' ge) (h : RA K E ta fa) : RE K E (tMakeL i C0 (spM K C0 P) E' ta) (fMakeL ge i C0 P fa) := by
  intro B F α z σ H G Qv Q er hf C k
  obtain ⟨e, hf⟩ := hf
  obtain ⟨v, e1, e2⟩ := C.env i _ e
  have ev := Rp.atom e2
  subst ev
  exact ⟨e1, re_make ee h B F α z σ H G Qv Q er hf C k⟩
/-- C.m(..) -/
def fCms (ge : Gx → Gx) (C : Addr) (P : Pv) (ds : List V) (f : VE) (fa : VA) : VE := fun G z Q => f G z fun r z1 => r = .p (.a (.ref C)) ∧ fa G z1 fun rs z2 => ∃ ts, prs rs = some ts ∧ P (.a (.ref C) :: (ts ++ atomsR ds)) (kR Q z2) (ge G)
theorem re_cmsD {E' : XK} {ge : Gx → Gx} {C0 : Addr} {P : Pv} {d : V} {to : TE} {ta : TA} {f : VE} {fa : VA} (ee : EE E E' ge) (h1 : RE K E to f) (h2 : RA K E ta fa) : RE K E (tCms C0 (fun vs zs H Q E => zs = [] ∧ spV K P (vs ++ [d]) H Q E) E' to ta tNil) (fCms ge C0 P [d] f fa) := by
  intro B F α z σ H G Qv Q er hf C k
  refine h1 B F α z σ H G _ _ er hf C fun F1 α1 z1 r v H1 q1 x1 C1 r1 => ?_
  obtain ⟨rfl, q1⟩ := q1
  refine ⟨Rp.atom r1, ?_⟩
  refine h2 B F1 α1 z1 σ H1 G _ _ er q1 C1 fun F2 α2 z2 rs vs H2 q2 x2 C2 r2 => ⟨rfl, ?_⟩
  obtain ⟨ts, e, hp⟩ := q2
  refine callV C2 (ee.ok er) (.cons (.a _) ((prs_ok e r2).append .of)) hp (fun F3 t v H3 q x3 C3 r3 => k F3 α2 z2 _ v H3 q ((x1.trans x2).trans x3) C3 r3) fun F3 us xs a H3 q x3 C3 rq ha lx => ?_
  obtain ⟨C4, x4⟩ := C3.fz (.lst xs) ha
  have rq4 := rq.same x4.1
  exact k _ α2 z2 _ _ _ q (((x1.trans x2).trans x3).trans x4) C4 (Rp.lst upd_same lx rq4.1 rq4.2)
theorem re_cms0 {E' : XK} {ge : Gx → Gx} {C0 : Addr} {P : Pv} {to : TE} {ta : TA} {f : VE} {fa : VA} (ee : EE E E' ge) (h1 : RE K E to f) (h2 : RA K E ta fa) : RE K E (tCms C0 (fun vs zs H Q E => zs = [] ∧ spV K P vs H Q E) E' to ta tNil) (fCms ge C0 P [] f fa) := by
  intro B F α z σ H G Qv Q er hf C k
  refine h1 B F α z σ H G _ _ er hf C fun F1 α1 z1 r v H1 q1 x1 C1 r1 => ?_
  obtain ⟨rfl, q1⟩ := q1
  refine ⟨Rp.atom r1, ?_⟩
  refine h2 B F1 α1 z1 σ H1 G _ _ er q1 C1 fun F2 α2 z2 rs vs H2 q2 x2 C2 r2 => ⟨rfl, ?_⟩
  obtain ⟨ts, e, hp⟩ := q2
  rw [show atomsR [] = [] from rfl, List.append_nil] at hp
  refine callV C2 (ee.ok er) (.cons (.a _) (prs_ok e r2)) hp (fun F3 t v H3 q x3 C3 r3 => k F3 α2 z2 _ v H3 q ((x1.trans x2).trans x3) C3 r3) fun F3 us xs a H3 q x3 C3 rq ha lx => ?_
  obtain ⟨C4, x4⟩ := C3.fz (.lst xs) ha
  have rq4 := rq.same x4.1
  exact k _ α2 z2 _ _ _ q (((x1.trans x2).trans x3).trans x4) C4 (Rp.lst upd_same lx rq4.1 rq4.2)
def fCmsK (ge : Gx → Gx) (C : Addr) (n : Nat) (P : Pv) (f : VE) (fa fk : VA) : VE := fun G z Q => f G z fun r z1 => r = .p (.a (.ref C)) ∧ fa G z1 fun rs z2 => fk G z2 fun ss z3 => rs.length + 1 = n ∧ ss.length = 1 ∧ ∃ ts, prs (rs ++ ss) = some ts ∧ P (.a (.ref C) :: ts) (kR Q z3) (ge G)
theorem re_cmsK {E' : XK} {ge : Gx → Gx} {C0 : Addr} {n : Nat} {P : Pv} {to : TE} {ta tk : TA} {f : VE} {fa fk : VA} (ee : EE E E' ge) (h1 : RE K E to f) (h2 : RA K E ta fa) (h3 : RA K E tk fk) : RE K E (tCms C0 (fun vs zs H Q E => vs.length = n ∧ zs.length = 1 ∧ spV K P (vs ++ zs) H Q E) E' to ta tk) (fCmsK ge C0 n P f fa fk) := by
  intro B F α z σ H G Qv Q er hf C k
  refine h1 B F α z σ H G _ _ er hf C fun F1 α1 z1 r v H1 q1 x1 C1 r1 => ?_
  obtain ⟨rfl, q1⟩ := q1
  refine ⟨Rp.atom r1, ?_⟩
  refine h2 B F1 α1 z1 σ H1 G _ _ er q1 C1 fun F2 α2 z2 rs vs H2 q2 x2 C2 r2 => ?_
  refine h3 B F2 α2 z2 σ H2 G _ _ er q2 C2 fun F3 α3 z3 ss zs H3 q3 x3 C3 r3 => ?_
  obtain ⟨l1, l2, ts, e, hp⟩ := q3
  refine ⟨by rw [List.length_cons, r2.length]; exact l1, by rw [r3.length]; exact l2, ?_⟩
  refine callV C3 (ee.ok er) (.cons (.a _) (prs_ok e ((r2.ext x3).append r3))) hp (fun F4 t v H4 q x4 C4 r4 => k F4 α3 z3 _ v H4 q (((x1.trans x2).trans x3).trans x4) C4 r4) fun F4 us xs a H4 q x4 C4 rq ha lx => ?_
  obtain ⟨C5, x5⟩ := C4.fz (.lst xs) ha
  have rq5 := rq.same x5.1
  exact k _ α3 z3 _ _ _ q ((((x1.trans x2).trans x3).trans x4).trans x5) C5 (Rp.lst upd_same lx rq5.1 rq5.2)
def fRevT (f : VE) : VE := fun G z Q => f G z fun r z1 => ∃ ts, r = .p (.tup ts) ∧ Q (.p (.tup ts.reverse)) z1
theorem re_revT {t : TE} {f : VE} (h : RE K E t f) : RE K E (tRevT K t) (fRevT f) := by
  intro B F α z σ H G Qv Q er hf C k
  refine h B F α z σ H G _ _ er hf C fun F1 α1 z1 r v H1 q1 x1 C1 r1 => ?_
  obtain ⟨ts, rfl, q⟩ := q1
  obtain ⟨p, xs, rfl, g1, b, g2⟩ := Rp.inv_tup r1
  refine ⟨p, xs, rfl, C1.same.seqT g1, fun p' hp => ?_⟩
  obtain ⟨C2, x2⟩ := C1.fz (.tup xs.reverse) hp
  have rq2 := (g2.reverse).same x2.1
  exact k _ α1 z1 _ _ _ q (x1.trans x2) C2 (Rp.tup (.of upd_same) (by rw [List.length_reverse]; exact b) rq2.1 rq2.2)
end
theorem k_pe_revT {X : Cx} (K : PySem.W.Frag) (h : X.K = K) {e : Expr} {te : TE} {k : Nat} {p1 p2 p3 pos : Pos} (he : PE X e te) : PE X (.Subscript e (.Slice none none (some (.UnaryOp .USub (.Constant (.int 1) k p1) p2)) p3) pos) (tRevT K te) := by subst h; exact pe_revT he
theorem datF {n : Nat} {fs : List Flt} : ∀ t ∈ fs.map fT, Dat (n + 1) t := dat_map fun f _ => by
  cases f <;> exact dat_cons dat_S (dat_cons dat_I (dat_cons dat_I (by first | exact dat_nil | exact dat_cons dat_I dat_nil)))
theorem datRows {n : Nat} {rows : List (List Int)} : ∀ t ∈ rows.map trLI, Dat (n + 1) t := dat_map fun _ _ => dat_mapI
theorem datRowsT {n : Nat} {rows : List (List Int)} : ∀ t ∈ rows.map trTI, Dat (n + 1) t := dat_map fun _ _ => dat_mapI
theorem at2T {w a b : Int} (h0 : 0 ≤ w) (h : w < 2) : L2.atI [trI a, trI b] w = some (trI (if w = 0 then a else b)) := by
  rcases (by omega : w = 0 ∨ w = 1) with rfl | rfl <;> rfl
theorem at3T {w a b c : Int} (h0 : 0 ≤ w) (h : w < 3) : L2.atI [trI a, trI b, trI c] w = some (trI (if w = 0 then a else if w = 1 then b else c)) := by
  rcases (by omega : w = 0 ∨ w = 1 ∨ w = 2) with rfl | rfl | rfl <;> rfl
theorem at4T {w a b c d : Int} (h0 : 0 ≤ w) (h : w < 4) : L2.atI [trI a, trI b, trI c, trI d] w = some (trI (if w = 0 then a else if w = 1 then b else if w = 2 then c else d)) := by
  rcases (by omega : w = 0 ∨ w = 1 ∨ w = 2 ∨ w = 3) with rfl | rfl | rfl | rfl <;> rfl
theorem at5T {w a b c d e : Int} (h0 : 0 ≤ w) (h : w < 5) : L2.atI [trI a, trI b, trI c, trI d, trI e] w = some (trI (if w = 0 then a else if w = 1 then b else if w = 2 then c else if w = 3 then d else e)) := by
  rcases (by omega : w = 0 ∨ w = 1 ∨ w = 2 ∨ w = 3 ∨ w = 4) with rfl | rfl | rfl | rfl | rfl <;> rfl
end VL
local macro_rules | `(tactic| keq_hits) => `(tactic| first | exact VL.at2T (by omega) (by omega) | exact VL.at3T (by omega) (by omega) | exact VL.at4T (by omega) (by omega) | exact VL.at5T (by omega) (by omega) | exact ⟨by decide, by decide, by decide⟩ | exact Or.inl ⟨by omega, by omega⟩ | exact Or.inr ⟨by omega, by omega⟩ | exact Or.inl ⟨by decide, by decide⟩)
local macro_rules | `(tactic| kbo_bools) => `(tactic| first
  | (with_reducible refine' VL.re_revT ?_) | (with_reducible refine' VL.re_makeLK ?_ ?_ ?_) | (with_reducible refine' VL.re_makeL ?_ ?_) | (with_reducible refine' VL.re_cmsD ?_ ?_ ?_) | (with_reducible refine' VL.re_cms0 ?_ ?_ ?_) | (with_reducible refine' VL.re_cmsK ?_ ?_ ?_ ?_))
local macro_rules | `(tactic| kx_w3) => `(tactic| first
  | exact VL.dat_I | exact VL.dat_B | exact VL.dat_S | exact VL.dat_N | exact VL.dat_mapI | exact VL.datRows | exact VL.datRowsT | exact VL.datF
  | exact VL.dat_nil | (refine VL.dat_cons ?_ ?_; (· kx_w3); (· kx_w3)) | (refine VL.dat_app ?_ ?_; (· kx_w3); (· kx_w3)) | (refine VL.dat_map (fun x hx => ?_); kx_w3))
local macro_rules | `(tactic| keq_hits) => `(tactic| ((with_reducible show VL.Dat _ _); kx_w3))
local macro_rules | `(tactic| keq_hits) => `(tactic| ((with_reducible show VL.okL _); (repeat' (first | exact True.intro | (refine And.intro ?_ ?_) | keq_hits))))
local macro_rules | `(tactic| kp_flats) => `(tactic| ((with_reducible refine VL.andF ?_ ?_); (· with_reducible assumption)))

set_option maxRecDepth 100000
set_option maxHeartbeats 4000000
/-! # isinstance of an instance; list(range(n)) -/
namespace VL
open PySem PySem.Spec PyProof.Rows L2
section
variable {K : PySem.W.Frag} {E : XK}
/-- what isinstance asks of the class C -/
def IsiC (K : PySem.W.Frag) (C : Addr) : Prop := ∀ {H : Hp} {a dx : Addr} {fs : List (Str × V)}, H a = some (.ins C dx fs) → TyX K H (.ref a) (.ref C)
def gIsi (K : PySem.W.Frag) : List Sv → Z → (Tr → Prop) → Prop := fun rs _ Q => ∃ (C D : Addr) (fs : List (Str × Tr)) (b : Bool), rs = [.p (.ins C fs), .p (.a (.ref D))] ∧ IsiC K C ∧ PySem.W.kitOne K (.ref C) (.ref D) = some b ∧ Q (trB b)
theorem rcb_isi : RCB K (rIsi K) (gIsi K) := by
  rintro B F α z σ H vs rs Q Q' ⟨C, D, fs, b, rfl, hC, hb, q⟩ C1 hv k
  obtain ⟨v, w, rfl, h1, h2⟩ := hv.two
  obtain rfl := Rp.atom h2
  cases h1 with | @ins p _ dx xs _ hp l r =>
  exact ⟨.ref p, .ref D, .ref C, .ref D, b, rfl, .own D, hC (C1.same _ _ hp), hb, k _ _ q (.a _)⟩
abbrev tLR1 (te : TE) : TE := tCB (fun xs H Q => ∃ r lo hi, xs = [V.ref r] ∧ H r = some (.rng lo hi) ∧ (-(2 ^ 62) ≤ lo ∧ lo < 2 ^ 62 ∧ -(2 ^ 62) ≤ hi ∧ hi < 2 ^ 62 ∧ hi - lo ≤ 2 ^ 20) ∧ ∀ l, H l = none → Q (.ref l) (upd H l (.lst (runI lo (hi - lo).toNat))))
  (tCons (tCB (fun vs H Q => ∃ j, vs = [V.int j] ∧ ∀ p, H p = none → Q (.ref p) (upd H p (.rng 0 j))) (tCons te tNil)) tNil)
def fLR1 (f : VE) : VC := fun G z Q => f G z fun r z1 => ∃ j, r = .p (trI j) ∧ -1000000 ≤ j ∧ j ≤ 1000000 ∧ Q ((List.range j.toNat).map fun n : Nat => trI n) z1
theorem rc_lr1 {te : TE} {f : VE} (h1 : RE K E te f) : RC K E (tLR1 te) (fLR1 f) := by
  intro B F α z σ H G Qv Q er hf C k
  refine h1 B F α z σ H G _ _ er hf C fun F1 α1 z1 r v H1 q1 x1 C1 r1 => ?_
  obtain ⟨j, rfl, j0, j1, q⟩ := q1
  obtain rfl := Rp.atom r1
  refine ⟨j, rfl, fun p hp => ⟨p, 0, j, rfl, upd_same, ⟨by omega, by omega, by omega, by omega, by omega⟩, fun l hl => ?_⟩⟩
  have C2 := C1.grow (Same.new (o := .rng 0 j) hp)
  have e : runI 0 (j - 0).toNat = ((List.range j.toNat).map fun n : Nat => V.int n) := by
    unfold runI
    rw [Int.sub_zero]
    exact List.map_congr_left fun n _ => by rw [Int.zero_add]
  rw [e]
  refine k F1 α1 z1 _ _ l _ q x1 C2 ⟨by rw [List.length_map, List.length_map], fun i v t e f => ?_⟩ hl (sidL (by rw [List.length_map, List.length_range]; omega))
  rw [List.getElem?_map] at e f
  cases g : (List.range j.toNat)[i]? with
  | none => rw [g] at e; cases e
  | some n => rw [g] at e f; cases e; cases f; exact .a _
end
end VL
local macro_rules | `(tactic| kbo_bools) => `(tactic| first | (with_reducible refine' VL.re_cb VL.rcb_isi ?_) | (with_reducible refine' VL.rc_lr1 ?_))

set_option maxRecDepth 100000
set_option maxHeartbeats 4000000
/-! # A cut behind a statement -/
namespace VL
open PySem PySem.Spec PyProof.Rows L2
@[irreducible] def fCut (f g : VS) : VS := fSeq f g
section
variable {K : PySem.W.Frag} {E : XK}
theorem rs_cut2 {t u : TS} {f g : VS} (h1 : RS K E t f) (h2 : RS K E u g) : RS K E (tCutI t u) (fCut f g) := by
  unfold fCut; exact rs_cutI h1 h2
theorem cutZ {f g : VS} {G : Gx} {D : VEnds} {z : Z} (I : Z → Prop) (h1 : ∀ N : Z → Prop, (∀ z, I z → N z) → f G { D with nx := N } z) (h2 : ∀ z, I z → g G D z) : fCut f g G D z := by
  unfold fCut; exact h1 _ h2
theorem noCutZ {f g : VS} {G : Gx} {D : VEnds} {z : Z} (h : fSeq f g G D z) : fCut f g G D z := by
  unfold fCut; exact h
end
end VL
local macro_rules | `(tactic| kbo_bools) => `(tactic| (with_reducible refine' VL.rs_cut2 ?_ ?_))

set_option maxRecDepth 100000
set_option maxHeartbeats 4000000
/-! # Lists of lists that change (grid cells): borrowed by calls whose answer holds no place -/
namespace VL
open PySem PySem.Spec PyProof.Rows L2
/-- a view, of a grid too -/
def vwg (r : Sv) (z : Z) : Option Tr := match r with
  | .p t => some t
  | .c k => match z.c[k]? with
    | some (.grid rs) => some (.lst (rs.map .lst))
    | some (.nest ts) => some (.tup ts)
    | _ => vw (.c k) z
/-- its lists are not too long -/
def okG (t : Tr) : Prop := ∀ ts, t = .lst ts → ts.length ≤ sizeLine ∧ ∀ u us, u ∈ ts → u = .lst us → us.length ≤ sizeLine
section
variable {K : PySem.W.Frag} {E : XK} {B F F' H : Hp} {α : List Addr} {z : Z} {σ : L2.St}
theorem vwg_rp {r : Sv} {v : V} {t : Tr} (h : vwg r z = some t) (ok : okG t) (C : Cor K B F α z σ H) (hv : Rv K F α v r) : Rp K H v t := by
  cases r with
  | p t' => cases h; exact Rp.same hv C.same
  | c k =>
    unfold vwg at h
    cases e : z.c[k]? with
    | none => simp only [e] at h; exact vw_rp h (fun ts et => (ok ts et).1) C hv
    | some c =>
      cases c with
      | grid rs =>
        simp only [e] at h
        cases h
        obtain ⟨a, ea, rfl⟩ := hv
        obtain ⟨_, _, bs, h1, l, _, g⟩ := C.cell k a _ ea e
        obtain ⟨o1, o2⟩ := ok _ rfl
        rw [List.length_map] at o1
        refine .lst h1 (by rw [List.length_map, l]; exact o1) (by rw [List.length_map, List.length_map, l]) fun i v t ev et => ?_
        rw [List.getElem?_map] at ev et
        cases eb : bs[i]? with
        | none => rw [eb] at ev; cases ev
        | some b =>
          cases er : rs[i]? with
          | none => rw [er] at et; cases et
          | some r =>
            rw [eb] at ev; rw [er] at et
            cases ev; cases et
            obtain ⟨_, _, _, ys, q4, q5⟩ := g i b r eb er
            exact .lst q4 (by rw [q5.1]; exact o2 (.lst r) r (List.mem_map.mpr ⟨r, List.mem_of_getElem? er, rfl⟩) rfl) q5.1 (q5.same C.same).2
      | nest ts =>
        simp only [e] at h
        cases h
        obtain ⟨a, ea, rfl⟩ := hv
        obtain ⟨xs, h1, lx, l, g⟩ := C.cell k a _ ea e
        refine .tup (.of h1) lx l fun i v t ev et => ?_
        rcases g i v t ev et with ⟨_, r⟩ | ⟨b, us, ys, rfl, rfl, _, _, _, ly, q4, q5⟩
        · exact r.same C.same
        · exact .lst q4 ly q5.1 (q5.same C.same).2
      | _ => simp only [e] at h; exact vw_rp h (fun ts et => (ok ts et).1) C hv
/-- what is frozen, of what may change only what was -/
def shr (F F' : Hp) : Hp := fun x => match F' x with
  | some (.lst _) => F x
  | some (.ins _ _ _) => F x
  | o => o
theorem shr_not {x : Addr} {o : HO} (h : F' x = some o) (n : ¬ isMut o) : shr F F' x = some o := by
  unfold shr; rw [h]
  cases o <;> first | rfl | exact absurd trivial n
theorem shr_get {x : Addr} {o : HO} (s : Same F F') (h : shr F F' x = some o) : F' x = some o ∧ (isMut o → F x = some o) := by
  unfold shr at h
  cases e : F' x with
  | none => rw [e] at h; cases h
  | some u =>
    rw [e] at h
    cases u with
    | lst xs => have h : F x = some o := h; have := s x o h; rw [e] at this; cases this; exact ⟨rfl, fun _ => h⟩
    | ins a b c => have h : F x = some o := h; have := s x o h; rw [e] at this; cases this; exact ⟨rfl, fun _ => h⟩
    | _ => cases h; exact ⟨rfl, fun m => m.elim⟩
theorem same_shr (s : Same F F') : Same F (shr F F') := fun x o e => by
  have g := s x o e
  by_cases m : isMut o
  · cases o with
    | lst xs => unfold shr; rw [g]; exact e
    | ins a b c => unfold shr; rw [g]; exact e
    | _ => exact m.elim
  · exact shr_not g m
theorem shr_same (s : Same F F') : Same (shr F F') F' := fun x o e => (shr_get s e).1
theorem Pure.shr {v : V} {t : Tr} (p : Pure t) (h : Rp K F' v t) : Rp K (shr F F') v t := by
  induction h with
  | a v => exact .a v
  | tup h b l r ih =>
    cases p with
    | tup p =>
      refine .tup ?_ b l fun i v t e f => ih i v t e f (p t (List.mem_of_getElem? f))
      rcases h with (h | ⟨u, h⟩) | h
      · exact .inl (.inl (shr_not h (fun m => m)))
      · exact .inl (.inr ⟨u, shr_not h (fun m => m)⟩)
      · exact .inr h
  | lst h b l r => cases p
  | ins h l r => cases p
  | scr h => cases p
theorem Cor.shrink {H' : Hp} (C : Cor K B F α z σ H) (s0 : Same F F') (s' : Same F' H') (s : Same H H') : Cor K B (VL.shr F F') α z σ H' ∧ XTE B F α (VL.shr F F') α := by
  have x : XTE B F α (VL.shr F F') α := ⟨same_shr s0, ⟨[], by rw [List.append_nil]⟩, fun a o m e => .inl ((shr_get s0 e).2 m)⟩
  refine ⟨⟨C.keep.trans s, (shr_same s0).trans s', C.len, C.nd, fun k a c e f => ?_, C.elen, fun i r e => ?_⟩, x⟩
  · refine (C.cell k a c e f).mono (same_shr s0) (fun _ _ _ h => h) (fun b o m hb _ hf => ?_) (fun _ _ h _ => s _ _ h)
    cases w : VL.shr F F' b with
    | none => rfl
    | some u =>
      obtain ⟨e1, e2⟩ := shr_get s0 w
      have e3 := s' _ _ e1
      rw [s _ _ hb] at e3
      cases e3
      rw [hf] at e2; cases e2 m
  · obtain ⟨v, e1, e2⟩ := C.env i r e
    exact ⟨v, e1, e2.ext x⟩
/-- views of all -/
def vwgs : List Sv → Z → Option (List Tr)
  | [], _ => some []
  | r :: rs, z => (vwg r z).bind fun t => (vwgs rs z).map (t :: ·)
def okGs : List Tr → Prop
  | [] => True
  | t :: ts => okG t ∧ okGs ts
theorem vwgs_ok : ∀ {rs : List Sv} {ts : List Tr} {vs : List V}, vwgs rs z = some ts → okGs ts → Cor K B F α z σ H → Rvs K F α vs rs → Rq K H vs ts
  | [], ts, vs, e, l, C, h => by cases e; cases h; exact .nil
  | r :: rs, ts, vs, e, l, C, h => by
    cases h with
    | cons h1 h2 =>
      have e : (vwg r z).bind (fun t => (vwgs rs z).map (t :: ·)) = some ts := e
      cases q : vwg r z with
      | none => rw [q] at e; cases e
      | some t =>
        rw [q] at e
        have e : (vwgs rs z).map (t :: ·) = some ts := e
        cases q2 : vwgs rs z with
        | none => rw [q2] at e; cases e
        | some us => rw [q2] at e; cases e; exact .cons (vwg_rp q l.1 C h1) (vwgs_ok q2 l.2 C h2)
def kPu (Q : Sv → Z → Prop) (z : Z) : Rr → Prop
  | .t t => Pure t ∧ Q (.p t) z
  | .l _ => False
theorem callG {P : Pv} {vs : List V} {ts : List Tr} {G : Gx} {Q : VK} {Qv : Sv → Z → Prop} (C : Cor K B F α z σ H) (er : ErOk B E G) (hv : Rq K H vs ts) (hp : P ts (kPu Qv z) G)
    (k : ∀ F' v t H', Qv (.p t) z → XTE B F α F' α → Cor K B F' α z σ H' → Rp K F' v t → Q v H') : spV K P vs H Q E := by
  refine ⟨H, ts, _, G, .refl _, hv, hp, er.same C.keep, fun r v F' H' q sF n s' s rr => ?_⟩
  cases r with
  | l us => exact q.elim
  | t t =>
    obtain ⟨pu, q⟩ := q
    obtain ⟨C', x⟩ := C.shrink (C.same.trans sF) s' s
    exact k _ v t H' q x C' (pu.shr rr)
def fCallG (ge : Gx → Gx) (P : Pv) (fa : VA) : VE := fun G z Q => fa G z fun rs z1 => (∃ ts, prs rs = some ts ∧ P ts (kR Q z1) (ge G)) ∨ (∃ ts, vwgs rs z1 = some ts ∧ okGs ts ∧ P ts (kPu Q z1) (ge G))
theorem re_callG {E' : XK} {ge : Gx → Gx} {P : Pv} {ta : TA} {fa : VA} (ee : EE E E' ge) (h : RA K E ta fa) : RE K E (tCall (spV K P) [] E' ta) (fCallG ge P fa) := by
  intro B F α z σ H G Qv Q er hf C k
  refine h B F α z σ H G (fun rs z1 => (∃ ts, prs rs = some ts ∧ P ts (kR Qv z1) (ge G)) ∨ (∃ ts, vwgs rs z1 = some ts ∧ okGs ts ∧ P ts (kPu Qv z1) (ge G))) _ er hf C fun F1 α1 z1 rs vs H1 q1 x1 C1 r1 => ?_
  rcases q1 with ⟨ts, e, hp⟩ | ⟨ts, e, l, hp⟩
  · rw [List.append_nil]
    refine callV C1 (ee.ok er) (prs_ok e r1) hp (fun F2 t v H2 q x2 C2 r2 => k F2 α1 z1 _ v H2 q (x1.trans x2) C2 r2) fun F2 us xs a H2 q x2 C2 rq ha lx => ?_
    obtain ⟨C3, x3⟩ := C2.fz (.lst xs) ha
    have rq3 := rq.same x3.1
    exact k _ α1 z1 _ _ _ q ((x1.trans x2).trans x3) C3 (Rp.lst upd_same lx rq3.1 rq3.2)
  · rw [List.append_nil]
    exact callG C1 (ee.ok er) (vwgs_ok e l C1 r1) hp fun F2 v t H2 q x2 C2 r2 => k F2 α1 z1 _ v H2 q (x1.trans x2) C2 r2
/-- C(..) over borrowed cells -/
def kMG (C : Addr) (Q : Sv → Z → Prop) (z : Z) : List (Str × Tr) → Prop := fun fs => (∀ p ∈ fs, Pure p.2) ∧ Q (.p (.ins C fs)) z
theorem Rf.shr {gs : List (Str × V)} {fs : List (Str × Tr)} (p : ∀ q ∈ fs, Pure q.2) (h : Rf K F' gs fs) : Rf K (VL.shr F F') gs fs := ⟨h.1, fun i v t e f => (p t (List.mem_of_getElem? f)).shr (h.2 i v t e f)⟩
theorem mkG {C0 : Addr} {P : List Tr → (List (Str × Tr) → Prop) → Gx → Prop} {vs : List V} {ts : List Tr} {G : Gx} {Q : VK} {Qv : Sv → Z → Prop} (C : Cor K B F α z σ H) (er : ErOk B E G) (hv : Rq K H vs ts) (hp : P ts (kMG C0 Qv z) G)
    (k : ∀ F' v t H', Qv (.p t) z → XTE B F α F' α → Cor K B F' α z σ H' → Rp K F' v t → Q v H') : ∀ x dx, H x = none → H dx = none → dx ≠ x → spM K C0 P (.ref x :: vs) (upd (upd H dx (.own x)) x (.ins C0 dx [])) (fun v H2 => v = .non ∧ Q (.ref x) H2) E := by
  intro x dx hx hdx hne
  refine ⟨x, dx, vs, H, H, ts, _, G, rfl, rfl, hx, hdx, hne, .refl _, hv, hp, er.same C.keep, fun fs gs dx' F' H' q sF n s' s fx hX rf => ⟨rfl, ?_⟩⟩
  obtain ⟨pu, q⟩ := q
  have s0 := C.same.trans sF
  obtain ⟨C', x'⟩ := C.shrink s0 s' s
  have hBx : B x = none := C.keep.free hx
  have fx' : VL.shr F F' x = none := by unfold VL.shr; rw [fx]
  have sF2 : Same (VL.shr F F') (upd (VL.shr F F') x (.ins C0 dx' gs)) := .new fx'
  have x2 : XTE B (VL.shr F F') α (upd (VL.shr F F') x (.ins C0 dx' gs)) α := ⟨sF2, ⟨[], by rw [List.append_nil]⟩, .new hBx⟩
  have rf' := Rf.shr (F := F) pu rf
  refine k _ (.ref x) (.ins C0 fs) H' q (x'.trans x2) ⟨C'.keep, fun b o e => ?_, C'.len, C'.nd, fun kk a c e f => ?_, C'.elen, fun i r e => ?_⟩ (.ins upd_same rf'.1 (rf'.same sF2).2)
  · by_cases w : b = x
    · subst w; rw [upd_same] at e; rw [hX]; exact e
    · rw [upd_ne w] at e; exact C'.same b o e
  · refine (C.cell kk a c e f).mono ((same_shr s0).trans sF2) (fun _ _ _ h => h) (fun b u m hy _ hf => ?_) (fun _ _ h _ => s _ _ h)
    rw [upd_ne (fun w => by rw [w, hx] at hy; cases hy)]
    cases w : VL.shr F F' b with
    | none => rfl
    | some u =>
      obtain ⟨e1, e2⟩ := shr_get s0 w
      have e3 := s' _ _ e1
      rw [s _ _ hy] at e3
      cases e3
      rw [hf] at e2; cases e2 m
  · obtain ⟨v, e1, e2⟩ := C'.env i r e
    exact ⟨v, e1, e2.ext x2⟩
def fMakeG (ge : Gx → Gx) (C : Addr) (P : List Tr → (List (Str × Tr) → Prop) → Gx → Prop) (ws : List V) (fa : VA) : VE := fun G z Q => fa G z fun rs z1 => (∃ ts, prs rs = some ts ∧ P (ts ++ atomsR ws) (kM C Q z1) (ge G)) ∨ (∃ ts, vwgs rs z1 = some ts ∧ okGs ts ∧ P (ts ++ atomsR ws) (kMG C Q z1) (ge G))
theorem re_makeG {E' : XK} {ge : Gx → Gx} {C0 : Addr} {ws : List V} {P : List Tr → (List (Str × Tr) → Prop) → Gx → Prop} {ta : TA} {fa : VA} (ee : EE E E' ge) (h : RA K E ta fa) : RE K E (tMake C0 (spM K C0 P) ws E' ta) (fMakeG ge C0 P ws fa) := by
  intro B F α z σ H G Qv Q er hf C k
  refine h B F α z σ H G _ _ er hf C fun F1 α1 z1 rs vs H1 q1 x1 C1 r1 => ?_
  rcases q1 with ⟨ts, e, hp⟩ | ⟨ts, e, l, hp⟩
  · exact mkV C1 (ee.ok er) ((prs_ok e r1).append .of) hp fun F2 v t H2 q x2 C2 r2 => k F2 α1 z1 _ v H2 q (x1.trans x2) C2 r2
  · exact mkG C1 (ee.ok er) ((vwgs_ok e l C1 r1).append .of) hp fun F2 v t H2 q x2 C2 r2 => k F2 α1 z1 _ v H2 q (x1.trans x2) C2 r2
end
/-- closers for what holds no place -/
theorem Pure.map {α : Type} {xs : List α} {f : α → Tr} (h : ∀ x ∈ xs, Pure (f x)) : Pure (.tup (xs.map f)) := .tup fun t ht => by
  obtain ⟨x, hx, rfl⟩ := List.mem_map.mp ht
  exact h x hx
theorem Pure.mapI {α : Type} {xs : List α} {f : α → V} : Pure (.tup (xs.map fun x => .a (f x))) := .map fun _ _ => .a _
end VL
local macro_rules | `(tactic| kbo_bools) => `(tactic| first | (with_reducible refine' VL.re_callG ?_ ?_) | (with_reducible refine' VL.re_makeG ?_ ?_))

set_option maxRecDepth 100000
set_option maxHeartbeats 4000000
/-! # Lists of lists that change: made by a comprehension -/
namespace VL
open PySem PySem.Spec PyProof.Rows L2
@[irreducible] def lcGI (g : VG) (fe : VC) (vs : List Nat) (its : List Tr) (G : Gx) (z1 : Z) (Q : List (List Tr) → Z → Prop) : Prop := its.length ≤ sizeLine ∧ ∃ P : Nat → List (List Tr) → Prop, P 0 [] ∧
  (∀ i t acc, its[i]? = some t → P i acc → g t ⟨wipeE z1.e vs, z1.c ++ [.grid acc]⟩ fun z2 => z2.c = z1.c ++ [.grid acc] ∧ fe G z2 fun us z4 => z4.c = z1.c ++ [.grid acc] ∧ P (i + 1) (acc ++ [us])) ∧ ∀ acc, P its.length acc → acc.length = its.length → Q acc z1
def fAsgG (fi : VC) (g : VG) (fe : VC) (vs : List Nat) (s : Nat) : VS := fun G D z => fi G z fun its z1 => lcGI g fe vs its G z1 fun rs z2 => D.nx ⟨z2.e.set s (some (.c z2.c.length)), z2.c ++ [.grid rs]⟩
section
variable {K : PySem.W.Frag} {E : XK} {B F F' H : Hp} {α : List Addr} {z : Z} {σ : L2.St}
/-- a new grid, empty -/
theorem Cor.clG (C : Cor K B F α z σ H) {p : Addr} (hp : H p = none) : Cor K B F (α ++ [p]) ⟨z.e, z.c ++ [.grid []]⟩ σ (upd H p (.lst [])) := by
  obtain ⟨C2, _⟩ := C.cl (xs := []) (ts := []) hp .nil
  refine ⟨C2.keep, C2.same, by rw [C2.len]; show (z.c ++ _).length = (z.c ++ _).length; rw [List.length_append, List.length_append]; rfl, C2.nd, fun k a c e f => ?_, C2.elen, C2.env⟩
  have f : (z.c ++ [Cell.grid []])[k]? = some c := f
  by_cases hk : k < z.c.length
  · rw [List.getElem?_append_left hk] at f
    exact C2.cell k a c e (by show (z.c ++ [Cell.lst []])[k]? = _; rw [List.getElem?_append_left hk]; exact f)
  · have hk' : k = z.c.length := by
      have := (List.getElem?_eq_some_iff.mp f).1
      rw [List.length_append] at this
      have : k < z.c.length + 1 := this
      omega
    subst hk'
    rw [List.getElem?_concat_length] at f
    cases f
    obtain ⟨h1, h2, xs, h3, h4⟩ := C2.cell _ a _ e (List.getElem?_concat_length)
    obtain rfl := h4.nil'
    exact ⟨h1, h2, [], h3, rfl, .nil, fun i b r e => (nomatch e)⟩
/-- a row is put behind -/
theorem Cor.grow1 (C : Cor K B F α z σ H) {k : Nat} {D a : Addr} {acc : List (List Tr)} {xs : List V} {us : List Tr} (ea : α[k]? = some D) (ec : z.c[k]? = some (.grid acc)) (ha : H a = none) (rq : Rq K F xs us) :
    ∃ bs : List Addr, upd H a (.lst xs) D = some (.lst (bs.map V.ref)) ∧ bs.length = acc.length ∧ Cor K B F α ⟨z.e, z.c.set k (.grid (acc ++ [us]))⟩ σ (upd (upd H a (.lst xs)) D (.lst (bs.map V.ref ++ [V.ref a]))) := by
  obtain ⟨hF, hB, bs, hx, l, nd, g⟩ := C.cell k D _ ea ec
  have neD : D ≠ a := fun q => by rw [q, ha] at hx; cases hx
  have sH : Same H (upd H a (.lst xs)) := .new ha
  have hx2 : upd H a (.lst xs) D = some (.lst (bs.map V.ref)) := by rw [upd_ne neD]; exact hx
  have Dm : D ∈ α := List.mem_of_getElem? ea
  refine ⟨bs, hx2, l, (C.grow sH).put (c := .grid acc) ea ec hF hB ⟨hF, hB, bs ++ [a], by rw [upd_same, List.map_append]; rfl, by rw [List.length_append, List.length_append, l]; rfl, ?_, fun i b r e1 e2 => ?_⟩⟩
  · rw [List.nodup_append]
    refine ⟨nd, by simp, fun u hu v hv => ?_⟩
    rw [List.mem_singleton] at hv
    subst hv
    intro q
    subst q
    obtain ⟨i, hi⟩ := List.getElem?_of_mem hu
    have hi' : i < acc.length := by rw [← l]; exact (List.getElem?_eq_some_iff.mp hi).1
    obtain ⟨_, _, _, ys, h, _⟩ := g i _ _ hi (List.getElem?_eq_getElem hi')
    rw [ha] at h; cases h
  · by_cases hi : i < bs.length
    · rw [List.getElem?_append_left hi] at e1
      rw [List.getElem?_append_left (by rw [← l]; exact hi)] at e2
      obtain ⟨q1, q2, q3, ys, q4, q5⟩ := g i b r e1 e2
      exact ⟨q1, q2, q3, ys, by rw [upd_ne (fun w => q3 (by rw [w]; exact Dm))]; exact sH _ _ q4, q5⟩
    · have hi' : i = bs.length := by
        have := (List.getElem?_eq_some_iff.mp e1).1
        rw [List.length_append] at this
        have : i < bs.length + 1 := this
        omega
      subst hi'
      rw [List.getElem?_concat_length] at e1
      rw [l, List.getElem?_concat_length] at e2
      cases e1; cases e2
      exact ⟨C.same.free ha, C.keep.free ha, C.notin ha, xs, by rw [upd_ne (Ne.symm neD), upd_same], rq⟩
theorem rs_asgG {wi : TI} {g : TG} {te : TE} {vs : List Nat} {s : Nat} {fi : VC} {fg : VG} {fe : VC} (m : Mt s) (hi : RI K E wi fi) (hg : RG K g fg) (ho : OnlyIn vs g) (he : RC K E te fe) : RS K E (tAsg (tLc wi g tYes te vs) (gName s)) (fAsgG fi fg fe vs s) := by
  intro B F α z σ H G Dv De er hf C eo
  refine hi B F α z σ H G _ _ er hf C fun F1 α1 z1 its J H1 q1 x1 C1 io => ?_
  unfold lcGI at q1
  obtain ⟨lz, P, p0, hs, hd⟩ := q1
  intro D hD
  have C2 := C1.clG hD
  obtain ⟨e1, c1⟩ := z1
  have l0 : α1.length = c1.length := C1.len
  have eD : (α1 ++ [D])[α1.length]? = some D := List.getElem?_concat_length
  refine ⟨fun i m H' => m = its.length - i ∧ i ≤ its.length ∧ ∃ F2 acc, Same F1 F2 ∧ NoL B F1 F2 ∧ Cor K B F2 (α1 ++ [D]) ⟨wipeE e1 vs, c1 ++ [.grid acc]⟩ (wipe σ vs) H' ∧ P i acc ∧ acc.length = i, ⟨its.length, rfl, Nat.zero_le _, F1, [], .refl _, .refl, C2.wipe vs, p0, rfl⟩, ?_⟩
  rintro i m H' ⟨rfl, hil, F2, acc, s12, n12, C3, hp, la⟩
  have sH := s12.trans C3.same
  by_cases hlt : i < its.length
  · refine .inr ⟨io.go i H' sH hlt, fun H3 => ∃ F3 acc, Same F1 F3 ∧ NoL B F1 F3 ∧ Cor K B F3 (α1 ++ [D]) ⟨wipeE e1 vs, c1 ++ [.grid acc]⟩ (wipe σ vs) H3 ∧ P (i + 1) acc ∧ acc.length = i + 1, fun H3 h => ⟨its.length - (i + 1), by omega, rfl, hlt, h⟩, fun x H3 y => ?_⟩
    have et : its[i]? = some its[i] := List.getElem?_eq_getElem hlt
    have body := hs i _ acc et hp
    have fin : ∀ (F3 H3 : Hp), Same F2 F3 → NoL B F2 F3 → Cor K B F3 (α1 ++ [D]) ⟨wipeE e1 vs, c1 ++ [.grid acc]⟩ (wipe σ vs) H3 → Rp K F3 x its[i] → g x (wipe σ vs) H3 fun σ2 H2 => wipe σ2 vs = wipe σ vs ∧ tYes σ2 H2 fun b H4 =>
        if b = true then te σ2 H4 fun y H5 => ∃ acc, H5 D = some (.lst acc) ∧ acc.length < sizeLine ∧ ∃ F3 acc_1, Same F1 F3 ∧ NoL B F1 F3 ∧ Cor K B F3 (α1 ++ [D]) ⟨wipeE e1 vs, c1 ++ [.grid acc_1]⟩ (wipe σ vs) (upd H5 D (.lst (acc ++ [y]))) ∧ P (i + 1) acc_1 ∧ acc_1.length = i + 1
        else ∃ F3 acc, Same F1 F3 ∧ NoL B F1 F3 ∧ Cor K B F3 (α1 ++ [D]) ⟨wipeE e1 vs, c1 ++ [.grid acc]⟩ (wipe σ vs) H4 ∧ P (i + 1) acc ∧ acc.length = i + 1 := by
      intro F3 H3 s23 n23 C4 rp
      have := ho x (wipe σ vs) H3 _ (hg B F3 _ _ _ H3 x its[i] _ (fun σ2 H2 => tYes σ2 H2 fun b H4 =>
        if b = true then te σ2 H4 fun y H5 => ∃ acc, H5 D = some (.lst acc) ∧ acc.length < sizeLine ∧ ∃ F3 acc_1, Same F1 F3 ∧ NoL B F1 F3 ∧ Cor K B F3 (α1 ++ [D]) ⟨wipeE e1 vs, c1 ++ [.grid acc_1]⟩ (wipe σ vs) (upd H5 D (.lst (acc ++ [y]))) ∧ P (i + 1) acc_1 ∧ acc_1.length = i + 1
        else ∃ F3 acc, Same F1 F3 ∧ NoL B F1 F3 ∧ Cor K B F3 (α1 ++ [D]) ⟨wipeE e1 vs, c1 ++ [.grid acc]⟩ (wipe σ vs) H4 ∧ P (i + 1) acc ∧ acc.length = i + 1) body C4 rp fun F5 α5 z5 σ5 H5 q5 x5 C5 => ?_)
      · rw [wipe_wipe] at this; exact this
      obtain ⟨ec6, qt⟩ := q5
      have same_al : ∀ {F' : Hp} {α' : List Addr} {z' : Z} {σ' : L2.St} {H' : Hp}, z'.c = c1 ++ [.grid acc] → XTE B F3 (α1 ++ [D]) F' α' → Cor K B F' α' z' σ' H' → α' = α1 ++ [D] := by
        intro F' α' z' σ' H' ec x C'
        obtain ⟨_, ⟨γ, rfl⟩, _⟩ := x
        have l1 := C'.len
        rw [ec] at l1
        simp only [List.length_append, List.length_cons, List.length_nil] at l1
        have : γ = [] := List.length_eq_zero_iff.mp (by omega)
        rw [this, List.append_nil]
      have back : ∀ {F' : Hp} {z' : Z} {σ' : L2.St} {H' : Hp}, z'.c = c1 ++ [.grid acc] → Same F2 F' → Cor K B F' (α1 ++ [D]) z' σ' H' → Cor K B F' (α1 ++ [D]) ⟨wipeE e1 vs, c1 ++ [.grid acc]⟩ (wipe σ vs) H' := by
        intro F' z' σ' H' ec s C'
        obtain ⟨e', c'⟩ := z'
        have ec : c' = c1 ++ [.grid acc] := ec
        subst ec
        refine ⟨C'.keep, C'.same, C'.len, C'.nd, C'.cell, C3.elen, fun i r ee => ?_⟩
        obtain ⟨v, g1, g2⟩ := C3.env i r ee
        refine ⟨v, g1, ?_⟩
        cases r with
        | p t => exact Rp.same g2 s
        | c k => exact g2
      unfold tYes; dsimp only
      rw [if_pos rfl]
      refine (he B F5 α5 z5 σ5 H5 G _ _ er qt C5 fun F7 α7 z7 us xs a H7 q7 x7 C7 r7 ha lx => ?_)
      obtain ⟨ec7, pu⟩ := q7
      have x37 := x5.trans x7
      obtain rfl := same_al ec7 x37 C7
      have C8 := back ec7 (s23.trans x37.1) C7
      have ecl : (c1 ++ [Cell.grid acc])[α1.length]? = some (.grid acc) := by rw [l0]; exact List.getElem?_concat_length
      obtain ⟨bs, hb, lb, C9⟩ := C8.grow1 eD ecl ha r7
      refine ⟨bs.map V.ref, hb, by rw [List.length_map, lb]; omega, F7, acc ++ [us], (s12.trans s23).trans x37.1, (n12.trans n23).trans x37.2.2, ?_, pu, by rw [List.length_append, la]; rfl⟩
      have e9 : (c1 ++ [Cell.grid acc]).set α1.length (.grid (acc ++ [us])) = c1 ++ [.grid (acc ++ [us])] := by
        rw [l0, List.set_append_right _ _ (Nat.le_refl _), Nat.sub_self]
        rfl
      have C9 : Cor K B F7 (α1 ++ [D]) ⟨wipeE e1 vs, (c1 ++ [Cell.grid acc]).set α1.length (.grid (acc ++ [us]))⟩ (wipe σ vs) _ := C9
      rw [e9] at C9
      exact C9
    rcases io.yld i H' x H3 sH hlt y with ⟨rfl, hr⟩ | ⟨T, xs, rfl, hT, rfl, lx, hr⟩
    · exact fin F2 H3 (.refl _) .refl C3 ((hr _ et).same s12)
    · obtain ⟨C4, x4⟩ := C3.fz (.tup xs) hT
      obtain ⟨ts, e, rq⟩ := hr _ et
      rw [e] at fin
      have rq3 := rq.same (s12.trans x4.1)
      exact fin _ _ x4.1 x4.2.2 C4 (Rp.tup (.of upd_same) lx rq3.1 rq3.2)
  · have e : i = its.length := by omega
    subst e
    refine .inl ⟨io.stop H' sH, ?_⟩
    have x12 : XTE B F1 α1 F2 (α1 ++ [D]) := ⟨s12, ⟨[D], rfl⟩, n12⟩
    have C4 : Cor K B F2 (α1 ++ [D]) ⟨e1, c1 ++ [.grid acc]⟩ σ H' := ⟨C3.keep, C3.same, C3.len, C3.nd, C3.cell, C1.elen, fun i r ee => by
      obtain ⟨v, g1, g2⟩ := C1.env i r ee
      exact ⟨v, g1, g2.ext x12⟩⟩
    exact eo.nx _ _ _ _ _ (hd acc hp la) (x1.trans x12) (C4.slot s (r := .c c1.length) ⟨D, by rw [← l0, List.getElem?_concat_length], rfl⟩)
end
end VL

set_option maxRecDepth 100000
set_option maxHeartbeats 4000000
/-! # Lists of lists that change: a new row behind -/
namespace VL
open PySem PySem.Spec PyProof.Rows L2
section
variable {K : PySem.W.Frag} {E : XK}
def fAppG (i : Nat) (fe : VC) : VS := fun G D z => ∃ (k : Nat) (rs0 : List (List Tr)), z.e[i]? = some (some (.c k)) ∧ z.c[k]? = some (.grid rs0) ∧ fe G z fun us z1 => ∃ rs, z1.c[k]? = some (.grid rs) ∧ rs.length < sizeLine ∧ D.nx ⟨z1.e, z1.c.set k (.grid (rs ++ [us]))⟩
theorem rs_appG {i : Nat} {te : TE} {fe : VC} (he : RC K E te fe) : RS K E (tDrop (tBM K "list" rAppend (tVar i) (tCons te tNil))) (fAppG i fe) := by
  intro B F α z σ H G Dv D er hf C eo
  obtain ⟨k, rs0, e1, e2, hf⟩ := hf
  obtain ⟨v, g1, a, ea, rfl⟩ := C.env i _ e1
  obtain ⟨hF, hB, bs, hx, _⟩ := C.cell k a _ ea e2
  refine ⟨_, g1, tyL ⟨_, hx⟩, ?_⟩
  refine he B F α z σ H G _ _ er hf C fun F1 α1 z1 us xs b H1 q1 x1 C1 rq hb lx => ?_
  obtain ⟨rs, ec, l, q⟩ := q1
  obtain ⟨bs1, hb1, lb, C2⟩ := C1.grow1 (x1.get ea) ec hb rq
  exact ⟨a, bs1.map V.ref, .ref b, rfl, rfl, hb1, by rw [List.length_map, lb]; exact l, eo.nx F1 α1 _ σ _ q x1 C2⟩
/-- no other list of lists -/
def Sole (k : Nat) (c : List Cell) : Prop := (∀ (j : Nat) (rs : List (List Tr)), c[j]? = some (.grid rs) → j = k) ∧ ∀ (j : Nat) (ts : List Tr), c[j]? ≠ some (.nest ts)
variable {B F H : Hp} {α : List Addr} {z : Z} {σ : L2.St}
theorem Cor.rowPut (C : Cor K B F α z σ H) {k i : Nat} {D b : Addr} {bs : List Addr} {rs : List (List Tr)} {r : List Tr} {v : V} {t : Tr} (ea : α[k]? = some D) (ec : z.c[k]? = some (.grid rs)) (sole : Sole k z.c) (hx : H D = some (.lst (bs.map V.ref)))
    (eb : bs[i]? = some b) (er : rs[i]? = some r) (rv : Rp K F v t) : ∃ ys, H b = some (.lst ys) ∧ ys.length = r.length ∧ Cor K B F α ⟨z.e, z.c.set k (.grid (rs.set i (r ++ [t])))⟩ σ (upd H b (.lst (ys ++ [v]))) ∧ upd H b (.lst (ys ++ [v])) D = some (.lst (bs.map V.ref)) := by
  obtain ⟨hF, hB, bs', hx', l, nd, g⟩ := C.cell k D _ ea ec
  have em : bs'.map V.ref = bs.map V.ref := by have h1 := hx'.symm.trans hx; injection h1 with h1; injection h1
  obtain rfl : bs' = bs := (List.map_inj_right (fun _ _ h => by cases h; rfl)).mp em
  obtain ⟨q1, q2, q3, ys, q4, q5⟩ := g i b r eb er
  have Dm : D ∈ α := List.mem_of_getElem? ea
  have neD : D ≠ b := fun w => q3 (w ▸ Dm)
  have hk : k < z.c.length := (List.getElem?_eq_some_iff.mp ec).1
  refine ⟨ys, q4, q5.1, ⟨fun x o e => ?_, fun x o e => ?_, by rw [C.len]; exact (List.length_set ..).symm, C.nd, fun j a c e f => ?_, C.elen, C.env⟩, by rw [upd_ne neD]; exact hx⟩
  · rw [upd_ne (fun w => by rw [w, q2] at e; cases e)]; exact C.keep x o e
  · rw [upd_ne (fun w => by rw [w, q1] at e; cases e)]; exact C.same x o e
  · have am : a ≠ b := fun w => q3 (w ▸ List.mem_of_getElem? e)
    have f : (z.c.set k (.grid (rs.set i (r ++ [t]))))[j]? = some c := f
    by_cases hj : k = j
    · subst hj
      rw [ea] at e; cases e
      rw [List.getElem?_set_self hk] at f
      cases f
      refine ⟨hF, hB, bs', by rw [upd_ne am]; exact hx, by rw [List.length_set]; exact l, nd, fun n b' r' e1 e2 => ?_⟩
      by_cases hn : i = n
      · subst hn
        rw [eb] at e1; cases e1
        rw [List.getElem?_set_self (List.getElem?_eq_some_iff.mp er).1] at e2
        cases e2
        exact ⟨q1, q2, q3, _, upd_same, q5.append (.cons rv .nil)⟩
      · rw [List.getElem?_set_ne hn] at e2
        obtain ⟨p1, p2, p3, zs, p4, p5⟩ := g n b' r' e1 e2
        have nb : b' ≠ b := fun w => by
          subst w
          have g1 := List.getElem?_eq_some_iff.mp eb
          have g2 := List.getElem?_eq_some_iff.mp e1
          exact hn (nd_inj nd g1.1 g2.1 (g1.2.trans g2.2.symm))
        exact ⟨p1, p2, p3, zs, by rw [upd_ne nb]; exact p4, p5⟩
    · rw [List.getElem?_set_ne hj] at f
      have cc := C.cell j a c e f
      cases c with
      | lst ts => obtain ⟨h1, h2, xs, h3, h4⟩ := cc; exact ⟨h1, h2, xs, by rw [upd_ne am]; exact h3, h4⟩
      | obj C fs => obtain ⟨h1, h2, dx, xs, h3, h4⟩ := cc; exact ⟨h1, h2, dx, xs, by rw [upd_ne am]; exact h3, h4⟩
      | pool => obtain ⟨h1, h2, xs, h3, h4⟩ := cc; exact ⟨h1, h2, xs, by rw [upd_ne am]; exact h3, h4⟩
      | dead => obtain ⟨o, h⟩ := cc; exact ⟨o, by rw [upd_ne am]; exact h⟩
      | grid rs' => exact absurd (sole.1 j rs' f).symm hj
      | nest ts' => exact absurd f (sole.2 j ts')
/-- rows behind which the turn has put t -/
def rowsUp (t : Tr) (n : Nat) (rs : List (List Tr)) : List (List Tr) := (rs.take n).map (· ++ [t]) ++ rs.drop n
theorem rowsUp_len {t : Tr} {n : Nat} {rs : List (List Tr)} : (rowsUp t n rs).length = rs.length := by
  unfold rowsUp; rw [List.length_append, List.length_map, ← List.length_append, List.take_append_drop]
theorem rowsUp_get {t : Tr} {n : Nat} {rs : List (List Tr)} {r : List Tr} (e : rs[n]? = some r) : (rowsUp t n rs)[n]? = some r ∧ (rowsUp t n rs).set n (r ++ [t]) = rowsUp t (n + 1) rs := by
  have hn : n < rs.length := (List.getElem?_eq_some_iff.mp e).1
  have er : rs[n] = r := (List.getElem?_eq_some_iff.mp e).2
  have ld : rs.drop n = r :: rs.drop (n + 1) := by rw [List.drop_eq_getElem_cons hn, er]
  have lt : ((rs.take n).map (· ++ [t])).length = n := by rw [List.length_map, List.length_take]; omega
  unfold rowsUp
  rw [ld]
  refine ⟨by rw [List.getElem?_append_right (by omega), lt, Nat.sub_self]; rfl, ?_⟩
  rw [List.set_append_right _ _ (by omega), lt, Nat.sub_self, List.take_add_one, e, List.map_append, List.append_assoc]
  rfl
def fRowsApp (i j : Nat) (v : V) : VS := fun _ D z => ∃ (k : Nat) (rs : List (List Tr)), z.e[i]? = some (some (.c k)) ∧ z.c[k]? = some (.grid rs) ∧ Sole k z.c ∧ j < z.e.length ∧ j ≠ i ∧ (∀ r ∈ rs, r.length < sizeLine) ∧ D.nx ⟨z.e.set j none, z.c.set k (.grid (rs.map (· ++ [.a v])))⟩
theorem rs_rowsApp {i j : Nat} {v : V} : RS K E (tFor (iList K (tCB (fun xs H Q => ∃ p ys, xs = [V.ref p] ∧ (SqL K H p ys ∨ SqT K H p ys) ∧ ∀ l, H l = none → Q (.ref l) (upd H l (.lst ys))) (tCons (tVar i) tNil))) (gName j) (tDrop (tBM K "list" rAppend (tVar j) (tCons (tC v) tNil)))) (fRowsApp i j v) := by
  intro B F α z σ H G Dv De er hf C eo
  obtain ⟨k, rs, e1, e2, sole, hj, ji, lr, q⟩ := hf
  obtain ⟨v0, g1, D, ea, rfl⟩ := C.env i _ e1
  obtain ⟨hF, hB, bs, hx, lb, nd, g⟩ := C.cell k D _ ea e2
  refine ⟨_, g1, D, bs.map V.ref, rfl, .inl (.of hx), fun l hl => ⟨l, rfl, ⟨_, .of upd_same⟩, ?_⟩⟩
  obtain ⟨C1, x1⟩ := C.fz (.lst (bs.map V.ref)) hl
  have hk : k < z.c.length := (List.getElem?_eq_some_iff.mp e2).1
  have Fl : upd F l (.lst (bs.map V.ref)) l = some (.lst (bs.map V.ref)) := upd_same
  have hxl : upd H l (.lst (bs.map V.ref)) D = some (.lst (bs.map V.ref)) := by rw [upd_ne (fun w => by rw [w, hl] at hx; cases hx)]; exact hx
  generalize upd F l (.lst (bs.map V.ref)) = F1 at C1 x1 Fl
  generalize upd H l (.lst (bs.map V.ref)) = H1 at C1 hxl
  have C1' : Cor K B F1 α ⟨z.e.set j none, z.c.set k (.grid (rowsUp (.a v) 0 rs))⟩ σ H1 := by
    have e0 : rowsUp (.a v) 0 rs = rs := by unfold rowsUp; rfl
    rw [e0]
    have ec : z.c.set k (.grid rs) = z.c := by
      refine List.ext_getElem? fun n => ?_
      by_cases hn : k = n
      · subst hn; rw [List.getElem?_set_self hk, e2]
      · rw [List.getElem?_set_ne hn]
    rw [ec]
    refine ⟨C1.keep, C1.same, C1.len, C1.nd, C1.cell, by rw [C1.elen]; exact (List.length_set ..).symm, fun n r ee => ?_⟩
    have ee : (z.e.set j none)[n]? = some (some r) := ee
    by_cases hn : j = n
    · subst hn; rw [List.getElem?_set_self hj] at ee; cases ee
    · rw [List.getElem?_set_ne hn] at ee; exact C1.env n r ee
  refine ⟨fun n m σ' H' => m = rs.length - n ∧ n ≤ rs.length ∧ Cor K B F1 α ⟨z.e.set j none, z.c.set k (.grid (rowsUp (.a v) n rs))⟩ σ' H' ∧ H' D = some (.lst (bs.map V.ref)), ⟨rs.length, rfl, Nat.zero_le _, C1', hxl⟩, ?_⟩
  rintro n m σ' H' ⟨rfl, hn, C2, hD⟩
  have hL : SqL K H' l (bs.map V.ref) := .of (C2.same _ _ Fl)
  by_cases hlt : n < rs.length
  · have hb' : n < bs.length := by omega
    have eb : bs[n]? = some bs[n] := List.getElem?_eq_getElem hb'
    have er : rs[n]? = some rs[n] := List.getElem?_eq_getElem hlt
    have ebm : (bs.map V.ref)[n]? = some (.ref bs[n]) := by rw [List.getElem?_map, eb]; rfl
    refine .inr ⟨⟨_, _, hL, ebm⟩, fun σ3 H3 => n + 1 ≤ rs.length ∧ Cor K B F1 α ⟨z.e.set j none, z.c.set k (.grid (rowsUp (.a v) (n + 1) rs))⟩ σ3 H3 ∧ H3 D = some (.lst (bs.map V.ref)), fun σ3 H3 h => ⟨rs.length - (n + 1), by omega, rfl, h⟩, fun x H3 y => ?_⟩
    obtain ⟨rfl, y2⟩ := y
    have ex := y2 _ hL
    rw [ebm] at ex
    cases ex
    obtain ⟨u1, u2⟩ := rowsUp_get (t := .a v) er
    have ek : (z.c.set k (.grid (rowsUp (.a v) n rs)))[k]? = some (.grid (rowsUp (.a v) n rs)) := List.getElem?_set_self hk
    have sole' : Sole k (z.c.set k (.grid (rowsUp (.a v) n rs))) := ⟨fun n' rs' h => by
      by_cases hh : k = n'
      · exact hh.symm
      · rw [List.getElem?_set_ne hh] at h; exact sole.1 n' rs' h, fun n' ts' h => by
      by_cases hh : k = n'
      · subst hh; rw [List.getElem?_set_self hk] at h; cases h
      · rw [List.getElem?_set_ne hh] at h; exact sole.2 n' ts' h⟩
    obtain ⟨ys, p1, p2, C3, p3⟩ := C2.rowPut (i := n) ea ek sole' hD eb u1 (Rp.a v)
    have lj : j < σ'.length := by rw [C2.elen]; show j < (z.e.set j none).length; rw [List.length_set]; exact hj
    refine ⟨_, List.getElem?_set_self lj, tyL ⟨_, p1⟩, bs[n], ys, v, rfl, rfl, p1, by rw [p2]; exact lr _ (List.getElem_mem hlt), by omega, ?_, p3⟩
    have ecs : (z.c.set k (.grid (rowsUp (.a v) n rs))).set k (.grid ((rowsUp (.a v) n rs).set n (rs[n] ++ [.a v]))) = z.c.set k (.grid (rowsUp (.a v) (n + 1) rs)) := by rw [List.set_set, u2]
    have C3 : Cor K B F1 α ⟨z.e.set j none, (z.c.set k (.grid (rowsUp (.a v) n rs))).set k (.grid ((rowsUp (.a v) n rs).set n (rs[n] ++ [.a v])))⟩ σ' _ := C3
    rw [ecs] at C3
    refine ⟨C3.keep, C3.same, C3.len, C3.nd, C3.cell, by rw [List.length_set]; exact C3.elen, fun n' r ee => ?_⟩
    by_cases hh : j = n'
    · subst hh
      have ee : (z.e.set j none)[j]? = some (some r) := ee
      rw [List.getElem?_set_self hj] at ee; cases ee
    · obtain ⟨w, w1, w2⟩ := C3.env n' r ee
      exact ⟨w, by rw [List.getElem?_set_ne hh]; exact w1, w2⟩
  · have e : n = rs.length := by omega
    subst e
    refine .inl ⟨⟨_, hL, by rw [List.length_map]; omega⟩, eo.nx F1 α _ σ' H' ?_ x1 C2⟩
    have : rowsUp (.a v) rs.length rs = rs.map (· ++ [.a v]) := by unfold rowsUp; rw [List.take_length, List.drop_length, List.append_nil]
    rw [this]; exact q
end
def lcTG (g : VG) (fe : VC) (vs : List Nat) (G : Gx) (z1 : Z) (t : Tr) (acc : List (List Tr)) (Kp : List Tr → Prop) : Prop := g t ⟨wipeE z1.e vs, z1.c ++ [.grid acc]⟩ fun z2 => z2.c = z1.c ++ [.grid acc] ∧ fe G z2 fun us z4 => z4.c = z1.c ++ [.grid acc] ∧ Kp us
theorem lcG_map {g : VG} {fe : VC} {vs : List Nat} {its : List Tr} {G : Gx} {z1 : Z} {Q : List (List Tr) → Z → Prop} {α : Type} (xs : List α) (enc : α → Tr) (f : α → List Tr) (e : its = xs.map enc) (l : xs.length ≤ sizeLine)
    (h : ∀ x ∈ xs, ∀ acc (Kp : List Tr → Prop), Kp (f x) → lcTG g fe vs G z1 (enc x) acc Kp) (q : Q (xs.map f) z1) : lcGI g fe vs its G z1 Q := by
  unfold lcGI
  refine ⟨by rw [e, List.length_map]; exact l, fun i acc => acc = (xs.take i).map f, rfl, fun i t acc et hp => ?_, fun acc hp _ => ?_⟩
  · rw [e, List.getElem?_map] at et
    cases ex : xs[i]? with
    | none => rw [ex] at et; cases et
    | some x =>
      rw [ex] at et
      cases et
      exact h x (List.mem_of_getElem? ex) acc (fun us => acc ++ [us] = (xs.take (i + 1)).map f) (by rw [hp, List.take_add_one, ex, List.map_append]; rfl)
  · rw [e, List.length_map, List.take_length] at hp
    rw [hp]; exact q
end VL
local macro_rules | `(tactic| kbo_bools) => `(tactic| (with_reducible exact VL.rs_rowsApp))

set_option maxRecDepth 100000
set_option maxHeartbeats 4000000
/-! # Calls that hand out new lists within a new tuple (nest cells) -/
namespace VL
open PySem PySem.Spec PyProof.Rows L2
/-- v is a new tuple: of what holds no place, and of new lists of such -/
def RnOk (K : PySem.W.Frag) (H H' : Hp) (v : V) (ts : List Tr) : Prop := ∃ (a : Addr) (xs : List V), v = .ref a ∧ H a = none ∧ H' a = some (.tup xs) ∧ xs.length ≤ sizeLine ∧ xs.length = ts.length ∧
  ∀ (i : Nat) (x : V) (t : Tr), xs[i]? = some x → ts[i]? = some t → (Pure t ∧ Rp K H' x t) ∨ ∃ (b : Addr) (us : List Tr) (ys : List V), x = .ref b ∧ t = .lst us ∧ H b = none ∧ ys.length ≤ sizeLine ∧ H' b = some (.lst ys) ∧ Rq K H' ys us ∧ ∀ u ∈ us, Pure u
abbrev Pn := List Tr → (List Tr → Prop) → Gx → Prop
/-- a promise that hands out a new tuple -/
def spN (K : PySem.W.Frag) (P : Pn) : Sp := fun vs H Q E => ∃ (F : Hp) (ts : List Tr) (PP : List Tr → Prop) (GG : Gx), Same F H ∧ Rq K F vs ts ∧ P ts PP GG ∧ ErOk H E GG ∧
  ∀ rs v H', PP rs → Same H H' → RnOk K H H' v rs → Q v H'
section
variable {K : PySem.W.Frag} {E : XK} {B F F' H : Hp} {α : List Addr} {z : Z} {σ : L2.St}
theorem Rq.shrP {H' : Hp} {xs : List V} {ts : List Tr} (p : ∀ t ∈ ts, Pure t) (h : Rq K H' xs ts) : Rq K (VL.shr F H') xs ts := ⟨h.1, fun i v t e f => (p t (List.mem_of_getElem? f)).shr (h.2 i v t e f)⟩
/-- behind such a call: the tuple is a cell -/
theorem Cor.nestC {H' : Hp} {v : V} {ts : List Tr} (C : Cor K B F α z σ H) (s : Same H H') (r : RnOk K H H' v ts) : ∃ a, v = .ref a ∧ Cor K B (VL.shr F H') (α ++ [a]) ⟨z.e, z.c ++ [.nest ts]⟩ σ H' ∧ XTE B F α (VL.shr F H') (α ++ [a]) := by
  obtain ⟨a, xs, rfl, ha, hx, lx, l, g⟩ := r
  have s0 : Same F H' := C.same.trans s
  have sF := same_shr s0
  have x : XTE B F α (VL.shr F H') (α ++ [a]) := ⟨sF, ⟨[a], rfl⟩, fun a o m e => .inl ((shr_get s0 e).2 m)⟩
  have na : a ∉ α := C.notin ha
  refine ⟨a, rfl, ⟨C.keep.trans s, shr_same s0, by rw [List.length_append, C.len]; show _ = (z.c ++ [_]).length; rw [List.length_append]; rfl, ?_, fun k b c e f => ?_, C.elen, fun i r e => ?_⟩, x⟩
  · rw [List.nodup_append]
    refine ⟨C.nd, by simp, fun u hu w hw => ?_⟩
    rw [List.mem_singleton] at hw
    intro q
    exact na (by rw [← hw, ← q]; exact hu)
  · have f : (z.c ++ [Cell.nest ts])[k]? = some c := f
    by_cases hk : k < α.length
    · rw [List.getElem?_append_left hk] at e
      rw [List.getElem?_append_left (by rw [← C.len]; exact hk)] at f
      refine (C.cell k b c e f).mono sF (fun b o hb nb => by rw [List.mem_append, List.mem_singleton]; exact fun q => q.elim nb (fun q => by rw [q, ha] at hb; cases hb)) (fun b o m hb _ hf => ?_) (fun _ _ h _ => s _ _ h)
      cases w : VL.shr F H' b with
      | none => rfl
      | some u =>
        obtain ⟨e1, e2⟩ := shr_get s0 w
        rw [s _ _ hb] at e1
        cases e1
        rw [hf] at e2; cases e2 m
    · have : k = α.length := by
        have := (List.getElem?_eq_some_iff.mp e).1
        rw [List.length_append] at this
        have : k < α.length + 1 := this
        omega
      subst this
      rw [List.getElem?_concat_length] at e
      rw [C.len, List.getElem?_concat_length] at f
      cases e; cases f
      refine ⟨xs, hx, lx, l, fun i v t e1 e2 => ?_⟩
      rcases g i v t e1 e2 with ⟨p, r⟩ | ⟨b, us, ys, q0, q1, q2, q3, q4, q5, q6⟩
      · exact .inl ⟨p, p.shr r⟩
      · refine .inr ⟨b, us, ys, q0, q1, ?_, C.keep.free q2, ?_, q3, q4, q5.shrP q6⟩
        · unfold VL.shr; rw [q4]; exact C.same.free q2
        · rw [List.mem_append, List.mem_singleton]
          rintro (w | w)
          · exact C.notin q2 w
          · subst w; rw [q4] at hx; cases hx
  · obtain ⟨w, e1, e2⟩ := C.env i r e
    exact ⟨w, e1, e2.ext x⟩
def fAsgN (ge : Gx → Gx) (P : Pn) (fa : VA) (s : Nat) : VS := fun G D z => fa G z fun rs z1 => ∃ ts, vwgs rs z1 = some ts ∧ okGs ts ∧ P ts (fun us => D.nx ⟨z1.e.set s (some (.c z1.c.length)), z1.c ++ [.nest us]⟩) (ge G)
theorem rs_asgN {E' : XK} {ge : Gx → Gx} {P : Pn} {ta : TA} {fa : VA} {s : Nat} (ee : EE E E' ge) (h : RA K E ta fa) : RS K E (tAsg (tCall (spN K P) [] E' ta) (gName s)) (fAsgN ge P fa s) := by
  intro B F α z σ H G Dv De er hf C eo
  refine h B F α z σ H G _ _ er hf C fun F1 α1 z1 rs vs H1 q1 x1 C1 r1 => ?_
  obtain ⟨ts, e, l, hp⟩ := q1
  rw [List.append_nil]
  refine ⟨H1, ts, _, _, .refl _, vwgs_ok e l C1 r1, hp, (ee.ok er).same C1.keep, fun us v H2 q sH rn => ?_⟩
  obtain ⟨a, rfl, C2, x2⟩ := C1.nestC sH rn
  exact eo.nx _ _ _ _ _ q (x1.trans x2) (C2.slot s (r := .c z1.c.length) ⟨a, by rw [← C1.len, List.getElem?_concat_length], rfl⟩)
/-- the same, read at once: all that is new freezes -/
def nwF (F H H' : Hp) : Hp := fun x => match H x with
  | none => H' x
  | some _ => VL.shr F H' x
theorem nw_new {H' : Hp} {x : Addr} (h : H x = none) : nwF F H H' x = H' x := by unfold nwF; rw [h]
theorem nw_old {H' : Hp} {x : Addr} {o : HO} (h : H x = some o) : nwF F H H' x = VL.shr F H' x := by unfold nwF; rw [h]
theorem shr_nw {H' : Hp} (s0 : Same F H') : Same (VL.shr F H') (nwF F H H') := fun x o e => by
  cases h : H x with
  | none => rw [nw_new h]; exact (shr_get s0 e).1
  | some u => rw [nw_old h]; exact e
theorem nw_same {H' : Hp} (s0 : Same F H') : Same (nwF F H H') H' := fun x o e => by
  cases h : H x with
  | none => rw [nw_new h] at e; exact e
  | some u => rw [nw_old h] at e; exact (shr_get s0 e).1
theorem Cor.nestF {H' : Hp} {v : V} {ts : List Tr} (C : Cor K B F α z σ H) (s : Same H H') (r : RnOk K H H' v ts) : ∃ F', XTE B F α F' α ∧ Cor K B F' α z σ H' ∧ Rp K F' v (.tup ts) := by
  obtain ⟨a, xs, rfl, ha, hx, lx, l, g⟩ := r
  have s0 : Same F H' := C.same.trans s
  have sF : Same F (nwF F H H') := (same_shr s0).trans (shr_nw s0)
  have x : XTE B F α (nwF F H H') α := ⟨sF, ⟨[], by rw [List.append_nil]⟩, fun b o m e => by
    cases h : H b with
    | none => exact .inr (C.keep.free h)
    | some u => rw [nw_old h] at e; exact .inl ((shr_get s0 e).2 m)⟩
  refine ⟨_, x, ⟨C.keep.trans s, nw_same s0, C.len, C.nd, fun k b c e f => ?_, C.elen, fun i r e => ?_⟩, ?_⟩
  · refine (C.cell k b c e f).mono sF (fun _ _ _ h => h) (fun b o m hb _ hf => ?_) (fun _ _ h _ => s _ _ h)
    rw [nw_old hb]
    cases w : VL.shr F H' b with
    | none => rfl
    | some u =>
      obtain ⟨e1, e2⟩ := shr_get s0 w
      rw [s _ _ hb] at e1
      cases e1
      rw [hf] at e2; cases e2 m
  · obtain ⟨w, e1, e2⟩ := C.env i r e
    exact ⟨w, e1, e2.ext x⟩
  · refine .tup (.of (by rw [nw_new ha]; exact hx)) lx l fun i v t e1 e2 => ?_
    rcases g i v t e1 e2 with ⟨p, r⟩ | ⟨b, us, ys, rfl, rfl, q2, q3, q4, q5, q6⟩
    · exact (p.shr r).same (shr_nw s0)
    · have rq : Rq K (nwF F H H') ys us := (q5.shrP (F := F) q6).same (shr_nw s0)
      exact .lst (by rw [nw_new q2]; exact q4) q3 rq.1 rq.2
def fCallN (ge : Gx → Gx) (P : Pn) (fa : VA) : VE := fun G z Q => fa G z fun rs z1 => ∃ ts, vwgs rs z1 = some ts ∧ okGs ts ∧ P ts (fun us => Q (.p (.tup us)) z1) (ge G)
theorem re_callN {E' : XK} {ge : Gx → Gx} {P : Pn} {ta : TA} {fa : VA} (ee : EE E E' ge) (h : RA K E ta fa) : RE K E (tCall (spN K P) [] E' ta) (fCallN ge P fa) := by
  intro B F α z σ H G Qv Q er hf C k
  refine h B F α z σ H G _ _ er hf C fun F1 α1 z1 rs vs H1 q1 x1 C1 r1 => ?_
  obtain ⟨ts, e, l, hp⟩ := q1
  rw [List.append_nil]
  refine ⟨H1, ts, _, _, .refl _, vwgs_ok e l C1 r1, hp, (ee.ok er).same C1.keep, fun us v H2 q sH rn => ?_⟩
  obtain ⟨F2, x2, C2, rp⟩ := C1.nestF sH rn
  exact k F2 α1 z1 _ v H2 q (x1.trans x2) C2 rp
/-- x[j] of such a tuple, a thing that holds no place -/
def fIxN (i : Nat) (j : Int) : VE := fun _ z Q => ∃ (k : Nat) (ts : List Tr) (t : Tr), z.e[i]? = some (some (.c k)) ∧ z.c[k]? = some (.nest ts) ∧ L2.atI ts j = some t ∧ Pure t ∧ Q (.p t) z
theorem re_ixN {i : Nat} {j : Int} : RE K E (tOp (rIxT K) (tVar i) (tC (.int j))) (fIxN i j) := by
  intro B F α z σ H G Qv Q er hf C k
  obtain ⟨kk, ts, t, e1, e2, e3, p, q⟩ := hf
  obtain ⟨v, g1, a, ea, rfl⟩ := C.env i _ e1
  obtain ⟨xs, hx, lx, l, g⟩ := C.cell kk a _ ea e2
  unfold L2.atI at e3
  cases w : ixN ts.length j with
  | none => rw [w] at e3; cases e3
  | some m =>
    rw [w] at e3
    have e3 : ts[m]? = some t := e3
    have hm : m < xs.length := by rw [l]; exact (List.getElem?_eq_some_iff.mp e3).1
    have ex : xs[m]? = some xs[m] := List.getElem?_eq_getElem hm
    have r : Rp K F xs[m] t := by
      rcases g m _ t ex e3 with ⟨_, r⟩ | ⟨b, us, ys, _, q2, _⟩
      · exact r
      · rw [q2] at p; cases p
    exact ⟨_, g1, a, xs, j, xs[m], rfl, rfl, .of hx, by unfold L2.atI; rw [l, w]; exact ex, k F α z (.p t) _ H q .refl C r⟩
def Cell.deep : Cell → Bool
  | .grid _ => true
  | .nest _ => true
  | _ => false
/-- no other cell holds lists of its own -/
def SoleN (k : Nat) (c : List Cell) : Prop := ∀ (j : Nat) (d : Cell), c[j]? = some d → d.deep = true → j = k
def soleN (k : Nat) : Nat → List Cell → Bool
  | _, [] => true
  | j, d :: cs => (!d.deep || j == k) && soleN k (j + 1) cs
theorem soleN_ok {k : Nat} : ∀ {j : Nat} {c : List Cell}, soleN k j c = true → ∀ (i : Nat) (d : Cell), c[i]? = some d → d.deep = true → j + i = k
  | j, [], h, i, d, e, hd => by cases e
  | j, x :: cs, h, 0, d, e, hd => by
    cases e
    unfold soleN at h
    rw [hd, Bool.and_eq_true] at h
    have := h.1
    simpa using this
  | j, x :: cs, h, i + 1, d, e, hd => by
    unfold soleN at h
    rw [Bool.and_eq_true] at h
    have := soleN_ok (j := j + 1) h.2 i d e hd
    omega
theorem SoleN.of {k : Nat} {c : List Cell} (h : soleN k 0 c = true) : SoleN k c := fun j d e hd => by
  have := soleN_ok h j d e hd
  omega
/-- y = x[j]: a new list is taken out -/
def fTakeN (i : Nat) (j : Int) (s : Nat) : VS := fun _ D z => ∃ (k : Nat) (ts us : List Tr), z.e[i]? = some (some (.c k)) ∧ z.c[k]? = some (.nest ts) ∧ L2.atI ts j = some (.lst us) ∧ SoleN k z.c ∧ D.nx ⟨z.e.set s (some (.c z.c.length)), z.c.set k .dead ++ [.lst us]⟩
theorem rs_takeN {i s : Nat} {j : Int} : RS K E (tAsg (tOp (rIxT K) (tVar i) (tC (.int j))) (gName s)) (fTakeN i j s) := by
  intro B F α z σ H G Dv De er hf C eo
  obtain ⟨k, ts, us, e1, e2, e3, sole, q⟩ := hf
  obtain ⟨v, g1, a, ea, rfl⟩ := C.env i _ e1
  obtain ⟨xs, hx, lx, l, g⟩ := C.cell k a _ ea e2
  unfold L2.atI at e3
  cases w : ixN ts.length j with
  | none => rw [w] at e3; cases e3
  | some m =>
    rw [w] at e3
    have e3 : ts[m]? = some (.lst us) := e3
    have hm : m < xs.length := by rw [l]; exact (List.getElem?_eq_some_iff.mp e3).1
    have ex : xs[m]? = some xs[m] := List.getElem?_eq_getElem hm
    refine ⟨_, g1, a, xs, j, xs[m], rfl, rfl, .of hx, by unfold L2.atI; rw [l, w]; exact ex, ?_⟩
    rcases g m _ _ ex e3 with ⟨p, _⟩ | ⟨b, us', ys, q0, q1, hF, hB, nb, ly, hb, rq⟩
    · cases p
    cases q1
    rw [q0]
    have hk : k < z.c.length := (List.getElem?_eq_some_iff.mp e2).1
    have lz : (z.c.set k Cell.dead).length = z.c.length := List.length_set ..
    have x : XTE B F α F (α ++ [b]) := ⟨.refl _, ⟨[b], rfl⟩, .refl⟩
    have C2 : Cor K B F (α ++ [b]) ⟨z.e, z.c.set k .dead ++ [.lst us]⟩ σ H := by
      refine ⟨C.keep, C.same, by rw [List.length_append, C.len]; show _ = (z.c.set k Cell.dead ++ [_]).length; rw [List.length_append, lz]; rfl, ?_, fun n c d e f => ?_, C.elen, fun i r e => ?_⟩
      · rw [List.nodup_append]
        refine ⟨C.nd, by simp, fun u hu w hw => ?_⟩
        rw [List.mem_singleton] at hw
        intro q
        exact nb (by rw [← hw, ← q]; exact hu)
      · have f : (z.c.set k Cell.dead ++ [Cell.lst us])[n]? = some d := f
        by_cases hn : n < α.length
        · rw [List.getElem?_append_left hn] at e
          rw [List.getElem?_append_left (by rw [lz, ← C.len]; exact hn)] at f
          by_cases hh : k = n
          · subst hh
            rw [List.getElem?_set_self hk] at f
            cases f
            rw [ea] at e; cases e
            exact ⟨_, hx⟩
          · rw [List.getElem?_set_ne hh] at f
            have cc := C.cell n c d e f
            cases d with
            | lst _ => exact cc
            | obj _ _ => exact cc
            | pool => exact cc
            | dead => exact cc
            | grid _ => exact absurd (sole n _ f rfl).symm hh
            | nest _ => exact absurd (sole n _ f rfl).symm hh
        · have : n = α.length := by
            have := (List.getElem?_eq_some_iff.mp e).1
            rw [List.length_append] at this
            have : n < α.length + 1 := this
            omega
          subst this
          rw [List.getElem?_concat_length] at e
          rw [show α.length = (z.c.set k Cell.dead).length by rw [lz, C.len], List.getElem?_concat_length] at f
          cases e; cases f
          exact ⟨hF, hB, ys, hb, rq⟩
      · obtain ⟨w, e1, e2⟩ := C.env i r e
        exact ⟨w, e1, e2.ext x⟩
    exact eo.nx _ _ _ _ _ q x (C2.slot s (r := .c z.c.length) ⟨b, by rw [← C.len, List.getElem?_concat_length], rfl⟩)
theorem okG_tup {ts : List Tr} : okG (.tup ts) := fun _ e => (nomatch e)
theorem okG_ins {C : Addr} {fs : List (Str × Tr)} : okG (.ins C fs) := fun _ e => (nomatch e)
theorem okG_a {v : V} : okG (.a v) := fun _ e => (nomatch e)
theorem okG_I {ns : List Int} (h : ns.length ≤ 1000000) : okG (.lst (ns.map trI)) := fun ts e => by
  cases e
  refine ⟨by rw [List.length_map]; exact sidL h, fun u us hu eu => ?_⟩
  obtain ⟨n, _, rfl⟩ := List.mem_map.mp hu
  cases eu
end
end VL
local macro_rules | `(tactic| keq_hits) => `(tactic| ((with_reducible show VL.okGs _); (repeat' (first | exact True.intro | (refine And.intro ?_ ?_))) <;> (first | (with_reducible exact VL.okG_tup) | (with_reducible exact VL.okG_ins) | (with_reducible exact VL.okG_a) | (refine VL.okG_I ?_; omega))))
local macro_rules | `(tactic| keq_hits) => `(tactic| first | ((with_reducible show VL.Pure (.a _)); exact VL.Pure.a _) | exact VL.SoleN.of rfl)
local macro_rules | `(tactic| kbo_bools) => `(tactic| first | (with_reducible refine' VL.rs_asgN ?_ ?_) | (with_reducible refine' VL.re_callN ?_ ?_))

set_option maxRecDepth 100000
set_option maxHeartbeats 4000000
/-! # zip(a, l): a an own instance whose __iter__ says: return iter(self.field), the field a tuple; l a list -/
namespace L2
open PySem PySem.Spec PyProof.Rows PySem.W
section
variable {X : Cx} {pins : List (Addr × Obj)} {σ : St} {H : Hp} {s : Shared} {a C dx f t : Addr} {fs : List (Str × V)} {fld : Str} {xs : List V} {k : Nat}
theorem own_iterA {A : Around} {E : Value → Shared → Prop} (O : OwnIt X.K X.mg C f fld) (hr : Room k A) (I : Inv X pins σ H s) (ha : H a = some (.ins C dx fs)) (hv : fs.lookup fld = some (.ref t)) (hT : SqT X.K H t xs) {Q : Value → Shared → Prop}
    (hq : ∀ h' tk it, (∀ b o, s.heap.get? b = some o → h'.get? b = some o) → s.heap.objs.size ≤ it → h'.get? it = some (tupIt t) → Q (.ref it) { s with heap := h', toks := tk }) :
    wpAny (model X.prog X.w) A (pyIter (.ref a)) Q E s := by
  obtain ⟨qual, params, scope, p1, p2, p3, p4, p5, ⟨oc, od, kV, doc, pm, an, cdv, ct, osl, hfn, hcd⟩, sc1, sc2, sc3, sc4, sc5, sc6, hb, hbase⟩ := O.txt
  obtain ⟨mA, J0, rel, _⟩ := ins_get I.hok ha
  obtain ⟨oda, J, _⟩ := J0.look
  obtain ⟨m, hF⟩ := I.fr
  obtain ⟨its, rv, hTup, _⟩ := I.tuple hT
  obtain ⟨u, hu, ru⟩ := RelO.some_of (v := V.ref t) (o := mA fld) (by rw [← hv]; exact rel fld)
  cases ru
  have hG : s.heap.Ns mainGlobals X.mg := I.mod.glob.keeps I.bk
  obtain ⟨mb, hB, hbb⟩ := I.mod.blt
  have X0 := I.kIn
  have hlim := I.nolimit
  obtain ⟨hp, g, dr, tk, os⟩ := s
  refine owit_iter hF I.ok.mod.kin J O.at_ O.fn (wpAny_call ?_)
  refine ks_codeAny_call_defAt (binds := [("self", .ref a)]) (by have := hr.dp; omega) (X0 _ _ hfn) rfl hlim (codeRec_of X0 hcd) rfl (hb _ _ _ rfl rfl rfl) sc3 (fun y hy => ?_) (fun h₀ hns hk₀ => ?_) sc5 sc6 sc4
  · have e : y = (("self" : Str), Value.ref a) := by simpa using hy
    rw [e]
    exact sc1
  · have X1 : X.K.In h₀ := X0.keeps hk₀
    have J1 : ObjM h₀ a dx C mA := ⟨hk₀ _ _ J0.obj, J0.ns.at fun o q => hk₀ _ o q, J0.ne⟩
    refine wpAt_of_wpAny (wpAny_execs_cons (wpAny_Return_some ?_))
    refine wpAny_Call_Name_kw (Calls.Name_function_global sc4 sc2 (Calls.loadGlobal_builtin (hG.keeps hk₀) O.free ((hB.keeps I.bk).keeps hk₀) ((hbb _ (by decide)).trans (by decide +kernel : bootBuiltins "iter" = some (.builtin "iter"))) ?_) (by decide))
    refine PyProof.Rows.callWith_builtin1 (spliced_more (attr_of (hbase _ rfl) (PySem.ESX.ldL (v := .ref a) hns (by simp [List.lookup]) ?_ sc4 sc1))) (by rfl) (by rfl)
    refine get_map X1 J1 (O.cls.get _) O.cls.hd O.noA hu rfl (spliced_none ?_)
    refine call_iter_tup (show h₀.IsTuple t its.toArray from let ⟨o, h1, h2⟩ := hTup; ⟨o, hk₀ _ o h1, h2⟩) ?_
    have hT1 : (⟨h₀.push (tupIt t), g, dr, tk + 1 + 1, os⟩ : Shared).TypeIs (.ref h₀.objs.size) "tuple_iterator" := ⟨_, Heap.get?_push_at rfl rfl, rfl⟩
    refine wpAny_specialOf (hT1) F.slot_tuple_iterator_next.lookup ?_
    exact hq _ _ _ (fun b o q => Heap.get?_push_of_some _ (hk₀ b o q)) (by
      have := hns.lt
      exact Nat.le_of_lt this) (Heap.get?_push_at rfl rfl)
end
/-! ## the zip's making over any two iterators -/
abbrev zqT (h : Heap) (i1 i2 : Addr) : Heap := h.push { cls := .type "tuple", data := .seq #[.ref i1, .ref i2] }
abbrev zqO (h : Heap) (i1 i2 : Addr) : Heap := (zqT h i1 i2).push { cls := .type "tuple", data := .seq #[.none, .none] }
abbrev zqZ (h : Heap) (i1 i2 : Addr) : Heap := (zqO h i1 i2).push { cls := .type "zip", data := .fields #[.none, .bool false, .bool false, .ref h.objs.size, .ref (zqT h i1 i2).objs.size] }
/-- how iter(v) goes here, whatever is wanted behind it: the iterator's place and the memory behind it -/
def IterTo (prog : Program) (w : World) (A : Around) (v : Value) (s : Shared) (G : Addr → Shared → Prop) : Prop := ∀ (Q E : Value → Shared → Prop), (∀ it s', G it s' → Q (.ref it) s') → wpAny (model prog w) A (pyIter v) Q E s
theorem meets_zip_q {prog : Program} {w : World} {v1 v2 : Value} :
    MeetsIn prog w (Builtin.«zip.__new__» ⟨[.type "zip", v1, v2], []⟩) (fun A R s => IterTo prog w A.in1 v1 s fun i1 s1 => IterTo prog w A.in1 v2 s1 fun i2 s2 => R (.ok (.ret (.ref (zqO s2.heap i1 i2).objs.size))) { s2 with heap := zqZ s2.heap i1 i2 }) :=
  .of_wp fun A R s h => by
    have hsub := sub_zip
    have q1 : ∀ {E : Value → Shared → Prop} {Q : Value → Shared → Prop}, (∀ it s1, (IterTo prog w A.in1 v2 s1 fun i2 s2 => R (.ok (.ret (.ref (zqO s2.heap it i2).objs.size))) { s2 with heap := zqZ s2.heap it i2 }) → Q (.ref it) s1) → wpAny (model prog w) A.in1 (pyIter v1) Q E s := fun q => h _ _ q
    have q2 : ∀ {E : Value → Shared → Prop} {Q : Value → Shared → Prop} {it : Addr} {s1 : Shared}, (IterTo prog w A.in1 v2 s1 fun i2 s2 => R (.ok (.ret (.ref (zqO s2.heap it i2).objs.size))) { s2 with heap := zqZ s2.heap it i2 }) → (∀ i2 s2, R (.ok (.ret (.ref (zqO s2.heap it i2).objs.size))) { s2 with heap := zqZ s2.heap it i2 } → Q (.ref i2) s2) → wpAny (model prog w) A.in1 (pyIter v2) Q E s1 := fun g q => g _ _ q
    wp_walk using q1
    intro it s1 g
    have q3 : ∀ {E : Value → Shared → Prop} {Q : Value → Shared → Prop}, (∀ i2 s2, R (.ok (.ret (.ref (zqO s2.heap it i2).objs.size))) { s2 with heap := zqZ s2.heap it i2 } → Q (.ref i2) s2) → wpAny (model prog w) A.in1 (pyIter v2) Q E s1 := fun q => q2 g q
    wp_walk using q3
    intro i2 s2 g2
    obtain ⟨hp, gg, d, tk, os⟩ := s2
    wp_walk
    exact ⟨_, rfl, g2⟩
/-- zip(v, u): what is left when both have begun -/
theorem zip_q {prog : Program} {w : World} {A : Around} {E : Value → Shared → Prop} {s : Shared} {v1 v2 : Value} {Q : Value → Shared → Prop}
    (h : IterTo prog w A.in1.in1 v1 s fun i1 s1 => IterTo prog w A.in1.in1 v2 s1 fun i2 s2 => ∀ h', IsZip h' (s2.heap.objs.size + 2) s2.heap.objs.size (s2.heap.objs.size + 1) .none → IsTupOf2 h' s2.heap.objs.size (.ref i1) (.ref i2) →
      IsTupOf2 h' (s2.heap.objs.size + 1) .none .none → h'.objs.size = s2.heap.objs.size + 3 → (∀ c o, s2.heap.get? c = some o → h'.get? c = some o) → Q (.ref (s2.heap.objs.size + 2)) { s2 with heap := h' }) :
    wpAny (model prog w) A (call (.type "zip") [v1, v2]) Q E s := by
  refine callType_newIn F.called_zip (by decide) (F.typeCall_zip_2 _ _) (F.newCall_zip_2 _ _) (fun obj => F.args_object_init_3 obj _ _) F.entry_zip_new meets_zip_q ?_
  refine fun Q1 E1 k1 => h Q1 E1 fun i1 s1 h1 => k1 i1 s1 fun Q2 E2 k2 => h1 Q2 E2 fun i2 s2 h2 => k2 i2 s2 ?_
  have zT : (zqT s2.heap i1 i2).objs.size = s2.heap.objs.size + 1 := by rw [Heap.size_push]
  have zO : (zqO s2.heap i1 i2).objs.size = s2.heap.objs.size + 2 := by rw [Heap.size_push, zT]
  have zZ : (zqZ s2.heap i1 i2).objs.size = s2.heap.objs.size + 3 := by rw [Heap.size_push, zO]
  have gZ : (zqZ s2.heap i1 i2).get? (zqO s2.heap i1 i2).objs.size = some { cls := .type "zip", data := .fields #[.none, .bool false, .bool false, .ref s2.heap.objs.size, .ref (zqT s2.heap i1 i2).objs.size] } := Heap.get?_push_size _ rfl
  have gO : (zqZ s2.heap i1 i2).get? (zqT s2.heap i1 i2).objs.size = some { cls := .type "tuple", data := .seq #[.none, .none] } := Heap.get?_push_of_some _ (Heap.get?_push_size _ rfl)
  have gT : (zqZ s2.heap i1 i2).get? s2.heap.objs.size = some { cls := .type "tuple", data := .seq #[.ref i1, .ref i2] } := Heap.get?_push_of_some _ (Heap.get?_push_of_some _ (Heap.get?_push_size _ rfl))
  rw [zO, zT] at gZ
  rw [zT] at gO
  show _ ∧ _
  rw [zO]
  exact ⟨⟨_, gZ, rfl⟩, h2 _ gZ gT gO zZ fun c o e => Heap.get?_push_of_some _ (Heap.get?_push_of_some _ (Heap.get?_push_of_some _ e))⟩
def ItzO (K : PySem.W.Frag) (a b : Addr) : It :=
  ⟨fun i H => ∃ xs ys : List V, SqT K H a xs ∧ SqL K H b ys ∧ i < xs.length ∧ i < ys.length,
   fun i H v H' => ∃ T x y, v = .ref T ∧ H T = none ∧ H' = upd H T (.tup [x, y]) ∧ (∀ xs, SqT K H a xs → xs[i]? = some x) ∧ ∀ ys, SqL K H b ys → ys[i]? = some y,
   fun i H => ∃ xs ys : List V, SqT K H a xs ∧ SqL K H b ys ∧ min xs.length ys.length = i⟩
/-- what the five cells of the walk look like at turn i -/
def ZipAtO (z TI TO i1 i2 a b : Addr) (i : Nat) (h : Heap) : Prop := IsZip h z TI TO .none ∧ IsTupOf2 h TI (.ref i1) (.ref i2) ∧ (∃ a1 a2, IsTupOf2 h TO a1 a2) ∧ h.IsTupleIter i1 a i ∧ h.IsListIter i2 b i
theorem turn_zipO {P : Program} {w : World} {K : PySem.W.Frag} {elts : List Expr} {kk : Nat} {tpos : Pos} {a b z TI TO i1 i2 : Addr} (S : ZipSep2 z TI TO i1 i2 [i1, a] [i2, b]) :
    Turn P w K (.Tuple elts kk tpos) (ItzO K a b) [z, TI, TO, i1, i2] z (ZipAtO z TI TO i1 i2 a b) where
  mem := by simp
  obj := fun i h st c hc => by
    obtain ⟨h1, h2, ⟨a1, a2, h3⟩, ⟨o4, h4, _, d4⟩, ⟨o5, h5, _, d5⟩⟩ := st
    have e' : c = z ∨ c = TI ∨ c = TO ∨ c = i1 ∨ c = i2 := by simpa using hc
    rcases e' with q | q | q | q | q <;> subst q
    · exact ⟨_, h1, fun v q => nomatch q⟩
    · exact ⟨_, h2, fun v q => nomatch q⟩
    · exact ⟨_, h3, fun v q => nomatch q⟩
    · exact ⟨o4, h4, fun v q => by rw [d4] at q; cases q⟩
    · exact ⟨o5, h5, fun v q => by rw [d5] at q; cases q⟩
  keep := fun i h h' st k => by
    obtain ⟨h1, h2, ⟨a1, a2, h3⟩, h4, h5⟩ := st
    exact ⟨k z (by simp) _ h1, k TI (by simp) _ h2, ⟨a1, a2, k TO (by simp) _ h3⟩, h4.at fun o q => k i1 (by simp) o q, h5.at fun o q => k i2 (by simp) o q⟩
  item := by
    intro X hP hw hK hc i pins s σ H E I hf st hg
    subst hP hw hK
    obtain ⟨h1, h2, h3, h4, h5⟩ := st
    obtain ⟨xs, ys, hx, hy, lx, ly⟩ := hg
    obtain ⟨its, rv, p, _⟩ := I.tuple hx
    obtain ⟨its2, rv2, p2', _⟩ := I.list hy
    have p2 : s.heap.IsList b its2.toArray := p2'.isList
    have da : a ≠ i1 := fun e => by
      obtain ⟨o, ho, hcls, _⟩ := p
      obtain ⟨o2, ho2, hc2, _⟩ := h4
      rw [e, ho2] at ho
      cases ho
      rw [hc2] at hcls
      exact absurd hcls (by decide)
    have db : b ≠ i2 := fun e => by
      obtain ⟨o, ho, hcls, _⟩ := p2
      obtain ⟨o2, ho2, hc2, _⟩ := h5
      rw [e, ho2] at ho
      cases ho
      rw [hc2] at hcls
      exact absurd hcls (by decide)
    have W := GoesN.zip2 (prog := X.prog) (w := X.w) (A := X.A) (elts := elts) (x1 := kk) (pos := tpos) S (Draws.tuple (prog := X.prog) (w := X.w) (A := X.A.in1) (I.ok.hd hc) i1 a da its.toArray) (Draws.list (prog := X.prog) (w := X.w) (A := X.A.in1) (I.ok.hd hc) i2 b db its2.toArray)
    have n1 : i < min its.toArray.size its2.toArray.size := by
      rw [List.size_toArray, List.size_toArray, ← rv.length, ← rv2.length]
      omega
    refine wpAny_mono (W.goes i s _ E n1 ⟨h1, h2, h3, ⟨h4, p⟩, h5, p2⟩ fun v h' tk hY st' hk htk => ?_) (fun r s1 hr => hr) fun _ _ q => q
    obtain ⟨T, u1, u2, rfl, hT, e1, e2, hTup⟩ := hY
    obtain ⟨g1, g2, g3, ⟨g4, _⟩, g5, _⟩ := st'
    have hxi : xs[i]? = some xs[i] := List.getElem?_eq_getElem lx
    have hyi : ys[i]? = some ys[i] := List.getElem?_eq_getElem ly
    obtain ⟨v1, hv1, r1⟩ := rv.get hxi
    obtain ⟨v2, hv2, r2⟩ := rv2.get hyi
    have q1 : u1 = v1 := by
      have : its[i]? = some u1 := by simpa using e1
      rw [hv1] at this; exact (Option.some.inj this).symm
    have q2 : u2 = v2 := by
      have : its2[i]? = some u2 := by simpa using e2
      rw [hv2] at this; exact (Option.some.inj this).symm
    subst q1 q2
    have I1 : Inv X pins σ (upd H T (.tup [xs[i], ys[i]])) { s with heap := h', toks := tk } :=
      I.turnedNew (ch := [z, TI, TO, i1, i2]) (fun c o hb q => hk c o (fun m => hb (by
        have e' : c = z ∨ c = TO ∨ c = i1 ∨ c = i2 := by simpa using m
        rcases e' with q | q | q | q <;> simp [q])) q) hf hT ⟨by show 2 ≤ sizeLine; decide, [u1, u2], .cons r1 (.cons r2 .nil), hTup⟩
    refine ⟨.ref T, _, I1, rfl, ⟨T, _, _, rfl, I.hok.fresh hT, rfl, fun l hl => by rw [I.tuple_inj hl hx]; exact hxi, fun l hl => by rw [I.list_inj hl hy]; exact hyi⟩, ⟨g1, g2, g3, g4, g5⟩, fun c hc' => ?_⟩
    have lt : c < s.heap.objs.size := by
      have e' : c = z ∨ c = TI ∨ c = TO ∨ c = i1 ∨ c = i2 := by simpa using hc'
      obtain ⟨_, _, g3'⟩ := h3
      obtain ⟨_, w4, _⟩ := h4
      obtain ⟨_, w5, _⟩ := h5
      rcases e' with q | q | q | q | q <;> rw [q]
      · exact Heap.lt_size h1
      · exact Heap.lt_size h2
      · exact Heap.lt_size g3'
      · exact Heap.lt_size w4
      · exact Heap.lt_size w5
    rw [upd_ne (Nat.ne_of_lt (Nat.lt_of_lt_of_le lt hT))]
    exact (hf c hc').1
  done := by
    intro X hP hw hK hc i pins s σ H E I hf st hg
    subst hP hw hK
    obtain ⟨h1, h2, h3, h4, h5⟩ := st
    obtain ⟨xs, ys, hx, hy, hend⟩ := hg
    obtain ⟨its, rv, p, _⟩ := I.tuple hx
    obtain ⟨its2, rv2, p2', _⟩ := I.list hy
    have p2 : s.heap.IsList b its2.toArray := p2'.isList
    have da : a ≠ i1 := fun e => by
      obtain ⟨o, ho, hcls, _⟩ := p
      obtain ⟨o2, ho2, hc2, _⟩ := h4
      rw [e, ho2] at ho
      cases ho
      rw [hc2] at hcls
      exact absurd hcls (by decide)
    have db : b ≠ i2 := fun e => by
      obtain ⟨o, ho, hcls, _⟩ := p2
      obtain ⟨o2, ho2, hc2, _⟩ := h5
      rw [e, ho2] at ho
      cases ho
      rw [hc2] at hcls
      exact absurd hcls (by decide)
    have W := GoesN.zip2 (prog := X.prog) (w := X.w) (A := X.A) (elts := elts) (x1 := kk) (pos := tpos) S (Draws.tuple (prog := X.prog) (w := X.w) (A := X.A.in1) (I.ok.hd hc) i1 a da its.toArray) (Draws.list (prog := X.prog) (w := X.w) (A := X.A.in1) (I.ok.hd hc) i2 b db its2.toArray)
    have n1 : min its.toArray.size its2.toArray.size = i := by
      rw [List.size_toArray, List.size_toArray, ← rv.length, ← rv2.length]
      exact hend
    rw [n1] at W
    refine wpAny_mono (W.stops s (fun s1 => Inv X pins σ H s1) E ⟨h1, h2, h3, ⟨h4, p⟩, h5, p2⟩ fun h' tk hk htk => I.turnedL (t' := tk) (ch := [z, TI, TO, i1, i2]) (fun c o hb q => hk c o (fun m => hb ?_) q) hf) (fun r s1 hr => hr) fun _ _ q => q
    have e' : c = z ∨ c = TO ∨ c = i1 ∨ c = i2 := by simpa using m
    rcases e' with q | q | q | q <;> simp [q]
  self := fun A i s Q E st h => wpAny_pyIter_zip st.1 h
theorem walk_zipO {K : PySem.W.Frag} {a b : Addr} {xs ys : List V} : Walk (ItzO K a b) (min xs.length ys.length) (fun H => SqT K H a xs ∧ SqL K H b ys) (YPair (fun i => xs[i]?) (fun i => ys[i]?)) where
  goes := fun i H hi h => ⟨xs, ys, h.1, h.2, by omega, by omega⟩
  stops := fun H h => ⟨xs, ys, h.1, h.2, rfl⟩
  yields := fun i H v H' hi h y => by
    obtain ⟨T, x, y, rfl, hT, rfl, h1, h2⟩ := y
    exact ⟨T, x, y, rfl, hT, rfl, h1 xs h.1, h2 ys h.2⟩
theorem sepO {N i t b : Nat} (h1 : i < N) (h2 : t < N) (h3 : b < N) (nb : i ≠ b) : ZipSep2 (N + 3) (N + 1) (N + 2) i N [i, t] [N, b] where
  TIz := show (N + 1 : Nat) ≠ N + 3 by omega
  TOz := show (N + 2 : Nat) ≠ N + 3 by omega
  TITO := show (N + 1 : Nat) ≠ N + 2 by omega
  TIi1 := show (N + 1 : Nat) ≠ i by omega
  mem1 := List.mem_cons_self ..
  zf1 := fun m => by
    have : (N + 3 : Nat) = i ∨ (N + 3 : Nat) = t := by simpa using m
    omega
  Tf1 := fun m => by
    have : (N + 2 : Nat) = i ∨ (N + 2 : Nat) = t := by simpa using m
    omega
  TIi2 := show (N + 1 : Nat) ≠ N by omega
  mem2 := List.mem_cons_self ..
  zf2 := fun m => by
    rcases List.mem_cons.mp m with m | m
    · exact absurd m (show (N + 3 : Nat) ≠ N by omega)
    · exact absurd (List.mem_singleton.mp m) (show (N + 3 : Nat) ≠ b by omega)
  Tf2 := fun m => by
    rcases List.mem_cons.mp m with m | m
    · exact absurd m (show (N + 2 : Nat) ≠ N by omega)
    · exact absurd (List.mem_singleton.mp m) (show (N + 2 : Nat) ≠ b by omega)
  sep1_2 := fun m => by
    rcases List.mem_cons.mp m with m | m
    · exact absurd m (show (i : Nat) ≠ N by omega)
    · exact nb (List.mem_singleton.mp m)
  sep2_1 := fun m => by
    rcases List.mem_cons.mp m with m | m
    · exact absurd m (show (N : Nat) ≠ i by omega)
    · exact absurd (List.mem_singleton.mp m) (show (N : Nat) ≠ t by omega)
/-- zip(o, l): o an own instance whose __iter__ walks its field fld (a tuple), l a list -/
def iZipO (K : PySem.W.Frag) (C : Addr) (fld : Str) (ta : TA) : TI := fun σ H R => ta σ H fun vs H1 => ∃ a b dx fs t xs ys, vs = [.ref a, .ref b] ∧ H1 a = some (.ins C dx fs) ∧ fs.lookup fld = some (.ref t) ∧ SqT K H1 t xs ∧ SqL K H1 b ys ∧ R (ItzO K t b) H1
theorem pi_zipO {X : Cx} {e e2 : Expr} {ta : TA} {p pos tpos : Pos} {elts : List Expr} {kk : Nat} {C f : Addr} {fld : Str} {k : Nat} (O : OwnIt X.K X.mg C f fld) (hr : Room (k + 2) X.A) (hm : X.mg "zip" = none) (ha : PA X [e, e2] ta) (hg : Gl X "zip" := by rfl)
    (hs : starEach [e, e2] X.env = (false, eval e X.env) :: starEach [e2] X.env := by rfl) (hpl : (backTo pos (starEach [e2] X.env)).any (·.1) = false := by rfl) :
    PI X (.Tuple elts kk tpos) (.Call (.Name "zip" p) [e, e2] [] pos) (iZipO X.K C fld ta) := by
  refine ⟨fun pins s σ H R I h => Call_ (ld_blt I hg hm PyProof.Rows.boot_zip (PyProof.Rows.callWith_type1 (thn (ha.run pos pins s σ H _ I h) fun us s1 ⟨vs, H1, I1, r1, q1⟩ => ?_) hs hpl))⟩
  obtain ⟨a, b, dx, fs, t, xs, ys, ex, hin, hl, hx, hy, q⟩ := q1
  subst ex
  cases r1 with
  | cons r rr =>
  cases rr with
  | cons r' rr =>
  cases rr
  cases r
  cases r'
  refine zip_q fun Q1 E1 k1 => own_iterA O hr.in1.in1 I1 hin hl hx fun h1 tk1 it1 hk1 hit1 ho1 => k1 it1 _ fun Q2 E2 k2 => ?_
  have I2 : Inv X pins σ H1 { s1 with heap := h1, toks := tk1 } := I1.kept (t' := tk1) hk1
  obtain ⟨its2, rv2, p2, _⟩ := I2.list hy
  obtain ⟨its, rv, p1, _⟩ := I2.tuple hx
  refine wpAny_pyIter_list p2.isList (k2 _ _ ?_)
  have zp : (h1.push { cls := .type "list_iterator", data := .fields #[.ref b, .int 0 0] }).objs.size = h1.objs.size + 1 := Heap.size_push ..
  dsimp only
  rw [zp]
  intro h' hz hTI hTO hsz hk
  refine wpAny_pyIter_zip hz ?_
  have hkk : ∀ c o, h1.get? c = some o → h'.get? c = some o := fun c o e => hk c o (Heap.get?_push_of_some _ e)
  have I3 : Inv X pins σ H1 { s1 with heap := h', toks := tk1 } := I2.kept (t' := tk1) hkk
  have l1 : it1 < h1.objs.size := Heap.lt_size ho1
  have lb : b < h1.objs.size := p2.lt
  have lt : t < h1.objs.size := by obtain ⟨_, h, _⟩ := p1; exact Heap.lt_size h
  have hi2 : h'.get? h1.objs.size = some { cls := .type "list_iterator", data := .fields #[.ref b, .int 0 0] } := hk _ _ (Heap.get?_push_size _ rfl)
  have nt : it1 ≠ b := fun e => by
    rw [e] at ho1
    obtain ⟨o, ho, hc, _⟩ := p2.isList
    have ho' : h1.get? b = some o := ho
    rw [ho'] at ho1
    cases ho1
    have hc' : Value.type "tuple_iterator" = Value.type "list" := hc
    exact absurd hc' (by decide)
  have S := sepO l1 lt lb nt
  refine ⟨_, [h1.objs.size + 3, h1.objs.size + 1, h1.objs.size + 2, it1, h1.objs.size], ZipAtO (h1.objs.size + 3) (h1.objs.size + 1) (h1.objs.size + 2) it1 h1.objs.size t b, _, H1, rfl, I3, turn_zipO S, ⟨hz, hTI, ⟨_, _, hTO⟩, ⟨_, hkk _ _ ho1, rfl, rfl⟩, ⟨_, hi2, rfl, rfl⟩⟩, fun c m => ?_, q⟩
  have hlt : s1.heap.objs.size ≤ h1.objs.size := Nat.le_of_lt (Nat.lt_of_le_of_lt hit1 l1)
  have le : s1.heap.objs.size ≤ c := by
    have e' : c = h1.objs.size + 3 ∨ c = h1.objs.size + 1 ∨ c = h1.objs.size + 2 ∨ c = it1 ∨ c = h1.objs.size := by simpa using m
    rcases e' with z | z | z | z | z <;> rw [z]
    · exact Nat.le_trans hlt (Nat.le_add_right _ 3)
    · exact Nat.le_trans hlt (Nat.le_add_right _ 1)
    · exact Nat.le_trans hlt (Nat.le_add_right _ 2)
    · exact hit1
    · exact hlt
  exact I1.fpOk le (I1.hok.fresh le)
end L2

set_option maxRecDepth 100000
set_option maxHeartbeats 4000000
/-! # zip(own, list), o.m(k = v) -/
namespace VL
open PySem PySem.Spec PyProof.Rows L2
section
variable {K : PySem.W.Frag} {E : XK} {B F F' H : Hp} {α : List Addr} {z : Z} {σ : L2.St}
def fiZO (C : Addr) (x : Str) (f : VA) : VC := fun G z Q => f G z fun rs z1 => ∃ a b, rs = [a, b] ∧ ∃ fs ts, a = .p (.ins C fs) ∧ fs.lookup x = some (.tup ts) ∧ frz b z1 fun u z2 => ∃ us, u = .lst us ∧ Q (zpT ts us) z2
theorem ri_zipO {C : Addr} {x : Str} {t : TA} {f : VA} (h : RA K E t f) : RI K E (iZipO K C x t) (fiZO C x f) := by
  intro B F α z σ H G Qv Q er hf C k
  refine h B F α z σ H G _ _ er hf C fun F1 α1 z1 rs vs H1 q1 x1 C1 r1 => ?_
  obtain ⟨a, b, rfl, fs, ts, rfl, el, q1⟩ := q1
  obtain ⟨v, w, rfl, h1, h2⟩ := r1.two
  obtain ⟨F2, u, z2, ⟨us, rfl, q⟩, x2, C2, r2⟩ := frz_ok q1 C1 h2
  obtain ⟨p, dx, ws, rfl, g1, g2⟩ := Rp.inv_ins (Rp.same h1 x2.1)
  obtain ⟨v', e2, r3⟩ := (g2.lookup (f := x)).1 _ el
  obtain ⟨p', xs, rfl, g3, _, g4⟩ := Rp.inv_tup r3
  obtain ⟨p2, ys, rfl, g5, _, g6⟩ := Rp.inv_lst r2
  refine ⟨p, p2, dx, ws, p', xs, ys, rfl, C2.same _ _ g1, e2, C2.same.seqT g3, .of (C2.same _ _ g5), k F2 α1 z2 _ _ H1 q (x1.trans x2) C2 ?_⟩
  refine itok_pair walk_zipO (fun H s => ⟨s.seqT g3, .of (s _ _ g5)⟩) (by unfold zpT; rw [List.length_zipWith, g4.1, g6.1]) fun i x y t e1 e2 et => ?_
  obtain ⟨a, b, ea, eb, rfl⟩ := zpT_get et
  exact ⟨a, b, rfl, g4.2 i x a e1 ea, g6.2 i y b e2 eb⟩
theorem zpT_I (xs ys : List Int) : zpT (xs.map trI) (ys.map trI) = (xs.zip ys).map fun p => .tup [trI p.1, trI p.2] := by
  unfold zpT
  induction xs generalizing ys with
  | nil => rfl
  | cons x xs ih =>
    cases ys with
    | nil => rfl
    | cons y ys => exact congrArg _ (ih ys)
def fMethK (ge : Gx → Gx) (C : Addr) (m : Str) (P : Pv) (gT : List Tr → List Tr → List Tr) (mm : Nat) (f : VE) (fk : VA) : VE := fun G z Q => f G z fun r z1 => ∃ fs, r = .p (.ins C fs) ∧ fs.lookup m = none ∧ fk G z1 fun ss z2 => ss.length = mm ∧ ∃ ts, prs ss = some ts ∧ P (gT [.ins C fs] ts) (kR Q z2) (ge G)
theorem re_methK {E' : XK} {ge : Gx → Gx} {C0 : Addr} {m : Str} {P : Pv} {gV : List V → List V → List V} {gT : List Tr → List Tr → List Tr} {mm : Nat} {to : TE} {tk : TA} {f : VE} {fk : VA} (hg : ∀ F vs zs ts us, Rq K F vs ts → Rq K F zs us → Rq K F (gV vs zs) (gT ts us)) (ee : EE E E' ge) (h1 : RE K E to f) (h2 : RA K E tk fk) : RE K E (tMethN C0 m 0 mm (spV K P) gV E' to tNil tk) (fMethK ge C0 m P gT mm f fk) := by
  intro B F α z σ H G Qv Q er hf C k
  refine h1 B F α z σ H G _ _ er hf C fun F1 α1 z1 r v H1 q1 x1 C1 r1 => ?_
  obtain ⟨fs, rfl, hl, q1⟩ := q1
  obtain ⟨p, dx, ws, rfl, g1, g2⟩ := Rp.inv_ins r1
  refine ⟨p, dx, ws, rfl, C1.same _ _ g1, (g2.lookup (f := m)).2 hl, ?_⟩
  refine h2 B F1 α1 z1 σ H1 G _ _ er q1 C1 fun F2 α2 z2 rs vs H2 q2 x2 C2 r2 => ?_
  obtain ⟨l, ts, e, hp⟩ := q2
  refine ⟨rfl, by rw [r2.length]; exact l, ?_⟩
  refine callV C2 (ee.ok er) (hg F2 _ _ _ _ (.cons (Rp.same r1 x2.1) .nil) (prs_ok e r2)) hp (fun F3 t v H3 q x3 C3 r3 => k F3 α2 z2 _ v H3 q ((x1.trans x2).trans x3) C3 r3) fun F3 us xs a H3 q x3 C3 rq ha lx => ?_
  obtain ⟨C4, x4⟩ := C3.fz (.lst xs) ha
  have rq4 := rq.same x4.1
  exact k _ α2 z2 _ _ _ q (((x1.trans x2).trans x3).trans x4) C4 (Rp.lst upd_same lx rq4.1 rq4.2)
theorem re_methK1 {E' : XK} {ge : Gx → Gx} {C0 : Addr} {m : Str} {P : Pv} {mm : Nat} {to : TE} {tk : TA} {f : VE} {fk : VA} (ee : EE E E' ge) (h1 : RE K E to f) (h2 : RA K E tk fk) : RE K E (tMethN C0 m 0 mm (spV K P) (fun vs zs => vs ++ zs ++ [V.non, V.non]) E' to tNil tk) (fMethK ge C0 m P (fun vs zs => vs ++ zs ++ [trN, trN]) mm f fk) :=
  re_methK (fun F vs zs ts us r s => (r.append s).append (.cons (.a _) (.cons (.a _) .nil))) ee h1 h2
theorem re_methK2 {E' : XK} {ge : Gx → Gx} {C0 : Addr} {m : Str} {P : Pv} {mm : Nat} {to : TE} {tk : TA} {f : VE} {fk : VA} (ee : EE E E' ge) (h1 : RE K E to f) (h2 : RA K E tk fk) : RE K E (tMethN C0 m 0 mm (spV K P) (fun vs zs => vs ++ [V.non] ++ zs ++ [V.non]) E' to tNil tk) (fMethK ge C0 m P (fun vs zs => vs ++ [trN] ++ zs ++ [trN]) mm f fk) :=
  re_methK (fun F vs zs ts us r s => ((r.append (.cons (.a _) .nil)).append s).append (.cons (.a _) .nil)) ee h1 h2
theorem re_methK3 {E' : XK} {ge : Gx → Gx} {C0 : Addr} {m : Str} {P : Pv} {mm : Nat} {to : TE} {tk : TA} {f : VE} {fk : VA} (ee : EE E E' ge) (h1 : RE K E to f) (h2 : RA K E tk fk) : RE K E (tMethN C0 m 0 mm (spV K P) (fun vs zs => vs ++ [V.non, V.non] ++ zs) E' to tNil tk) (fMethK ge C0 m P (fun vs zs => vs ++ [trN, trN] ++ zs) mm f fk) :=
  re_methK (fun F vs zs ts us r s => (r.append (.cons (.a _) (.cons (.a _) .nil))).append s) ee h1 h2
theorem vw_cut {xs : List Int} {a b : Option Int} : vw (.p (.lst (cutA (xs.map trI) a b))) z = some (.lst ((cutA xs a b).map trI)) := by show some _ = some _; rw [cutA_map]
theorem vseq_cut {xs : List Int} {a b : Option Int} : vseq (.p (.lst (cutA (xs.map trI) a b))) z ((cutA xs a b).map trI) := Or.inl (by show some _ = some _; rw [cutA_map])
end
section
variable {g : VG} {ft : VT} {fe : VE} {vs : List Nat} {its : List Tr} {G : Gx} {z1 : Z} {Q : List Tr → Z → Prop}
/-- a comprehension of which each turn is kept or not, drawn -/
theorem lc_sub {α β : Type} (xs : List α) (enc : α → Tr) (dec : β → Tr) (C : β → Prop) (e : its = xs.map enc) (l : xs.length ≤ sizeLine)
    (h : ∀ x ∈ xs, ∀ acc Kp Ks, (∀ y, C y → Kp (dec y)) → Ks → lcT g ft fe vs G z1 (enc x) acc Kp Ks)
    (q : ∀ ys : List β, ys.length ≤ xs.length → (∀ y ∈ ys, C y) → Q (ys.map dec) z1) : lcI g ft fe vs its G z1 Q := by
  subst e
  unfold lcI
  refine ⟨by rw [List.length_map]; exact l, fun i acc => ∃ ys : List β, acc = ys.map dec ∧ ys.length ≤ i ∧ ∀ y ∈ ys, C y, ⟨[], rfl, Nat.le_refl _, fun y hy => (nomatch hy)⟩, fun i t acc et hp => ?_, fun acc hp _ => ?_⟩
  · rw [List.getElem?_map] at et
    cases ex : xs[i]? with
    | none => rw [ex] at et; cases et
    | some x =>
      rw [ex] at et
      cases et
      obtain ⟨ys, rfl, hl, hc⟩ := hp
      refine h x (List.mem_of_getElem? ex) (ys.map dec) (fun u => ∃ zs : List β, ys.map dec ++ [u] = zs.map dec ∧ zs.length ≤ i + 1 ∧ ∀ y ∈ zs, C y) (∃ zs : List β, ys.map dec = zs.map dec ∧ zs.length ≤ i + 1 ∧ ∀ y ∈ zs, C y) (fun y hy => ?_) ⟨ys, rfl, by omega, hc⟩
      refine ⟨ys ++ [y], by rw [List.map_append]; rfl, by rw [List.length_append]; exact Nat.succ_le_succ hl, fun u hu => ?_⟩
      rcases List.mem_append.mp hu with hu | hu
      · exact hc u hu
      · rw [List.mem_singleton.mp hu]; exact hy
  · obtain ⟨ys, rfl, hl, hc⟩ := hp
    rw [List.length_map] at hl
    exact q ys hl hc
end
section
variable {X : Cx} (K : PySem.W.Frag) (h : X.K = K)
include h
theorem k_pi_zipO {e e2 : Expr} {ta : TA} {p pos tpos : Pos} {elts : List Expr} {kk : Nat} {C f : Addr} {fld : Str} {k : Nat} (O : OwnIt X.K X.mg C f fld) (hr : Room (k + 2) X.A) (hm : X.mg "zip" = none) (ha : PA X [e, e2] ta) (hg : Gl X "zip" := by rfl)
    (hs : starEach [e, e2] X.env = (false, eval e X.env) :: starEach [e2] X.env := by rfl) (hpl : (backTo pos (starEach [e2] X.env)).any (·.1) = false := by rfl) :
    PI X (.Tuple elts kk tpos) (.Call (.Name "zip" p) [e, e2] [] pos) (iZipO K C fld ta) := by subst h; exact pi_zipO O hr hm ha hg hs hpl
end
end VL
local macro_rules | `(tactic| keq_hits) => `(tactic| first | exact VL.vseq_cut | exact VL.vw_cut)
local macro_rules | `(tactic| kbo_bools) => `(tactic| first | (with_reducible refine' VL.ri_zipO ?_) | (with_reducible refine' VL.re_methK1 ?_ ?_ ?_) | (with_reducible refine' VL.re_methK2 ?_ ?_ ?_) | (with_reducible refine' VL.re_methK3 ?_ ?_ ?_))

set_option maxRecDepth 100000
set_option maxHeartbeats 4000000
/-! # Comprehensions whose turns make pools of their own -/
namespace VL
open PySem PySem.Spec PyProof.Rows L2
section
variable {K : PySem.W.Frag} {E : XK} {B F F' : Hp} {α α' β : List Addr} {z z' : Z} {σ : L2.St} {H H' : Hp}
theorem wkNone {n : Nat} : ∀ xs : List (Option Sv), WkE n xs (xs.map fun _ => none)
  | [] => trivial
  | x :: xs => by
    show WkE n (x :: xs) (none :: xs.map fun _ => none)
    cases x <;> exact wkNone xs
theorem Cor.dropc {γ : List Addr} {e : List (Option Sv)} {c ex : List Cell} {σ' : L2.St} {F2 H2 : Hp} (C' : Cor K B F' (β ++ γ) z' σ' H') (ec : z'.c = c ++ ex) (l : β.length = c.length) (C3 : Cor K B F2 β ⟨e, c⟩ σ H2) (s : Same F2 F') : Cor K B F' β ⟨e, c⟩ σ H' := by
  have C := C'.wk (α := β) (β := γ) (wkNone z'.e)
  rw [ec, List.take_append_of_le_length (by omega), List.take_of_length_le (by omega)] at C
  refine ⟨C.keep, C.same, C.len, C.nd, C.cell, C3.elen, fun i r ee => ?_⟩
  obtain ⟨v, g1, g2⟩ := C3.env i r ee
  refine ⟨v, g1, ?_⟩
  cases r with
  | p t => exact Rp.same g2 s
  | c k => exact g2
/-- a cut that forgets -/
@[irreducible] def fCutW (f g : VS) : VS := fun G D z => ∃ I : Z → Prop, f G { D with nx := fun z' => Wk z.c.length z' I } z ∧ ∀ z, I z → g G D z
theorem rs_cutW {t u : TS} {f g : VS} (h1 : RS K E t f) (h2 : RS K E u g) : RS K E (tCutI t u) (fCutW f g) := by
  rw [tCutI_eq]
  intro B F α z σ H G Dv D er h C eo
  unfold fCutW at h
  obtain ⟨I, hf, hg⟩ := h
  refine h1 B F α z σ H G _ _ er hf C ⟨fun F' α' z' σ' H' q x C' => ?_, eo.rt, eo.bk, eo.ct⟩
  obtain ⟨e, we, hi⟩ := q.out
  obtain ⟨s, ⟨β, rfl⟩, n⟩ := x
  rw [← C.len] at we hi
  have C2 := C'.wk we
  exact h2 B F' α _ σ' H' G Dv D er (hg _ hi) C2 (eo.ext ⟨s, ⟨[], by rw [List.append_nil]⟩, n⟩)
theorem cutW {f g : VS} {G : Gx} {D : VEnds} {z : Z} (I : Z → Prop) (h1 : f G { D with nx := fun z' => Wk z.c.length z' I } z) (h2 : ∀ z, I z → g G D z) : fCutW f g G D z := by
  unfold fCutW; exact ⟨I, h1, h2⟩
@[irreducible] def lcID (g : VG) (ft : VT) (fe : VE) (vs : List Nat) (its : List Tr) (G : Gx) (z1 : Z) (Q : List Tr → Z → Prop) : Prop := its.length ≤ sizeLine ∧ ∃ P : Nat → List Tr → Prop, P 0 [] ∧
  (∀ i t acc, its[i]? = some t → P i acc → g t ⟨wipeE z1.e vs, z1.c ++ [.lst acc]⟩ fun z2 => ft G z2 fun b z3 => (∃ ex, z3.c = z1.c ++ [.lst acc] ++ ex) ∧
    (b = true → fe G z3 fun r z4 => (∃ ex, z4.c = z1.c ++ [.lst acc] ++ ex) ∧ ∃ u, r = .p u ∧ P (i + 1) (acc ++ [u])) ∧ (b = false → P (i + 1) acc)) ∧ ∀ acc, P its.length acc → acc.length ≤ its.length → Q acc z1
def fLcD (fi : VC) (g : VG) (ft : VT) (fe : VE) (vs : List Nat) : VC := fun G z Q => fi G z fun its z1 => lcID g ft fe vs its G z1 Q
theorem rc_lcD {wi : TI} {g : TG} {tt : TT} {te : TE} {vs : List Nat} {fi : VC} {fg : VG} {ft : VT} {fe : VE} (hi : RI K E wi fi) (hg : RG K g fg) (ho : OnlyIn vs g) (ht : RT K E tt ft) (he : RE K E te fe) : RC K E (tLc wi g tt te vs) (fLcD fi fg ft fe vs) := by
  intro B F α z σ H G Qv Q er hf C k
  refine hi B F α z σ H G _ _ er hf C fun F1 α1 z1 its J H1 q1 x1 C1 io => ?_
  unfold lcID at q1
  obtain ⟨lz, P, p0, hs, hd⟩ := q1
  intro D hD
  obtain ⟨C2, x2⟩ := C1.cl (xs := []) (ts := []) hD .nil
  obtain ⟨e1, c1⟩ := z1
  refine ⟨fun i m H' => m = its.length - i ∧ i ≤ its.length ∧ ∃ F2 acc, Same F1 F2 ∧ NoL B F1 F2 ∧ Cor K B F2 (α1 ++ [D]) ⟨wipeE e1 vs, c1 ++ [.lst acc]⟩ (wipe σ vs) H' ∧ P i acc ∧ acc.length ≤ i, ⟨its.length, rfl, Nat.zero_le _, F1, [], .refl _, .refl, C2.wipe vs, p0, Nat.zero_le _⟩, ?_⟩
  rintro i m H' ⟨rfl, hil, F2, acc, s12, n12, C3, hp, la⟩
  have sH := s12.trans C3.same
  by_cases hlt : i < its.length
  · refine .inr ⟨io.go i H' sH hlt, fun H3 => ∃ F3 acc, Same F1 F3 ∧ NoL B F1 F3 ∧ Cor K B F3 (α1 ++ [D]) ⟨wipeE e1 vs, c1 ++ [.lst acc]⟩ (wipe σ vs) H3 ∧ P (i + 1) acc ∧ acc.length ≤ i + 1, fun H3 h => ⟨its.length - (i + 1), by omega, rfl, hlt, h⟩, fun x H3 y => ?_⟩
    have et : its[i]? = some its[i] := List.getElem?_eq_getElem hlt
    have body := hs i _ acc et hp
    have fin : ∀ (F3 H3 : Hp), Same F2 F3 → NoL B F2 F3 → Cor K B F3 (α1 ++ [D]) ⟨wipeE e1 vs, c1 ++ [.lst acc]⟩ (wipe σ vs) H3 → Rp K F3 x its[i] → g x (wipe σ vs) H3 fun σ2 H2 => wipe σ2 vs = wipe σ vs ∧ tt σ2 H2 fun b H4 =>
        if b = true then te σ2 H4 fun y H5 => ∃ acc, H5 D = some (.lst acc) ∧ acc.length < sizeLine ∧ ∃ F3 acc_1, Same F1 F3 ∧ NoL B F1 F3 ∧ Cor K B F3 (α1 ++ [D]) ⟨wipeE e1 vs, c1 ++ [.lst acc_1]⟩ (wipe σ vs) (upd H5 D (.lst (acc ++ [y]))) ∧ P (i + 1) acc_1 ∧ acc_1.length ≤ i + 1
        else ∃ F3 acc, Same F1 F3 ∧ NoL B F1 F3 ∧ Cor K B F3 (α1 ++ [D]) ⟨wipeE e1 vs, c1 ++ [.lst acc]⟩ (wipe σ vs) H4 ∧ P (i + 1) acc ∧ acc.length ≤ i + 1 := by
      intro F3 H3 s23 n23 C4 rp
      have := ho x (wipe σ vs) H3 _ (hg B F3 _ _ _ H3 x its[i] _ (fun σ2 H2 => tt σ2 H2 fun b H4 =>
        if b = true then te σ2 H4 fun y H5 => ∃ acc, H5 D = some (.lst acc) ∧ acc.length < sizeLine ∧ ∃ F3 acc_1, Same F1 F3 ∧ NoL B F1 F3 ∧ Cor K B F3 (α1 ++ [D]) ⟨wipeE e1 vs, c1 ++ [.lst acc_1]⟩ (wipe σ vs) (upd H5 D (.lst (acc ++ [y]))) ∧ P (i + 1) acc_1 ∧ acc_1.length ≤ i + 1
        else ∃ F3 acc, Same F1 F3 ∧ NoL B F1 F3 ∧ Cor K B F3 (α1 ++ [D]) ⟨wipeE e1 vs, c1 ++ [.lst acc]⟩ (wipe σ vs) H4 ∧ P (i + 1) acc ∧ acc.length ≤ i + 1) body C4 rp fun F5 α5 z5 σ5 H5 q5 x5 C5 => ?_)
      · rw [wipe_wipe] at this; exact this
      refine ht B F5 α5 z5 σ5 H5 G _ _ er q5 C5 fun F6 α6 z6 b H6 q6 x6 C6 => ?_
      obtain ⟨ec6, qt, qf⟩ := q6
      have l0 : α1.length = c1.length := C1.len
      have x36 := x5.trans x6
      have back : ∀ {F' : Hp} {α' : List Addr} {z' : Z} {σ' : L2.St} {H' : Hp}, (∃ ex, z'.c = c1 ++ [.lst acc] ++ ex) → XTE B F3 (α1 ++ [D]) F' α' → Cor K B F' α' z' σ' H' → Cor K B F' (α1 ++ [D]) ⟨wipeE e1 vs, c1 ++ [.lst acc]⟩ (wipe σ vs) H' := by
        rintro F' α' z' σ' H' ⟨ex, ec⟩ ⟨s, ⟨γ, rfl⟩, _⟩ C'
        exact C'.dropc ec (by rw [List.length_append, List.length_append, l0]; rfl) C3 (s23.trans s)
      cases b with
      | false =>
        exact iteF ⟨F6, acc, (s12.trans s23).trans x36.1, (n12.trans n23).trans x36.2.2, back ec6 x36 C6, qf rfl, by omega⟩
      | true =>
        refine iteT (he B F6 α6 z6 σ5 H6 G _ _ er (qt rfl) C6 fun F7 α7 z7 r v H7 q7 x7 C7 r7 => ?_)
        obtain ⟨ec7, u, rfl, pu⟩ := q7
        have x37 := x36.trans x7
        have C8 := back ec7 x37 C7
        have r7 : Rp K F7 v u := r7
        have eD : (α1 ++ [D])[α1.length]? = some D := List.getElem?_concat_length
        have ecl : (c1 ++ [Cell.lst acc])[α1.length]? = some (.lst acc) := by rw [l0]; exact List.getElem?_concat_length
        obtain ⟨hF, hB, xs, hx, hq⟩ := C8.cell _ D _ eD ecl
        refine ⟨xs, hx, by rw [hq.1]; omega, F7, acc ++ [u], (s12.trans s23).trans x37.1, (n12.trans n23).trans x37.2.2, ?_, pu, by rw [List.length_append]; show _ ≤ _; simp only [List.length_cons, List.length_nil]; omega⟩
        have C9 := C8.upc eD ecl (hq.append (Rq.cons r7 .nil))
        have : (⟨wipeE e1 vs, c1 ++ [Cell.lst acc]⟩ : Z).put α1.length (acc ++ [u]) = ⟨wipeE e1 vs, c1 ++ [.lst (acc ++ [u])]⟩ := by
          unfold Z.put
          rw [l0, List.set_append_right _ _ (Nat.le_refl _), Nat.sub_self]
          rfl
        rw [this] at C9
        exact C9
    rcases io.yld i H' x H3 sH hlt y with ⟨rfl, hr⟩ | ⟨T, xs, rfl, hT, rfl, lx, hr⟩
    · exact fin F2 H3 (.refl _) .refl C3 ((hr _ et).same s12)
    · obtain ⟨C4, x4⟩ := C3.fz (.tup xs) hT
      obtain ⟨ts, e, rq⟩ := hr _ et
      rw [e] at fin
      have rq3 := rq.same (s12.trans x4.1)
      exact fin _ _ x4.1 x4.2.2 C4 (Rp.tup (.of upd_same) lx rq3.1 rq3.2)
  · have e : i = its.length := by omega
    subst e
    refine .inl ⟨io.stop H' sH, ?_⟩
    obtain ⟨⟨xs, hx, hq⟩, C5⟩ := C3.unmk C1 s12
    rw [← upd_del hx]
    exact k F2 α1 ⟨e1, c1⟩ acc xs D (del D H') (hd acc hp (by omega)) (x1.trans ⟨s12, ⟨[], by rw [List.append_nil]⟩, n12⟩) C5 hq del_at (by rw [hq.1]; omega)
end
section
variable {g : VG} {ft : VT} {fe : VE} {vs : List Nat} {its : List Tr} {G : Gx} {z1 : Z} {Q : List Tr → Z → Prop}
def lcTD (g : VG) (ft : VT) (fe : VE) (vs : List Nat) (G : Gx) (z1 : Z) (t : Tr) (acc : List Tr) (Kp : Tr → Prop) (Ks : Prop) : Prop :=
  g t ⟨wipeE z1.e vs, z1.c ++ [.lst acc]⟩ fun z2 => ft G z2 fun b z3 => (∃ ex, z3.c = z1.c ++ [.lst acc] ++ ex) ∧ (b = true → fe G z3 fun r z4 => (∃ ex, z4.c = z1.c ++ [.lst acc] ++ ex) ∧ ∃ u, r = .p u ∧ Kp u) ∧ (b = false → Ks)
theorem lcD_drw {α β : Type} (xs : List α) (enc : α → Tr) (dec : β → Tr) (C : α → β → Prop) (e : its = xs.map enc) (l : xs.length ≤ sizeLine)
    (h : ∀ x ∈ xs, ∀ acc (Kp : Tr → Prop) (Ks : Prop), (∀ y, C x y → Kp (dec y)) → lcTD g ft fe vs G z1 (enc x) acc Kp Ks)
    (q : ∀ ys : List β, ys.length = xs.length → (∀ (i : Nat) (x : α) (y : β), xs[i]? = some x → ys[i]? = some y → C x y) → Q (ys.map dec) z1) : lcID g ft fe vs its G z1 Q := by
  subst e
  unfold lcID
  refine ⟨by rw [List.length_map]; exact l, fun i acc => ∃ ys : List β, acc = ys.map dec ∧ ys.length = i ∧ ∀ (j : Nat) (x : α) (y : β), xs[j]? = some x → ys[j]? = some y → C x y, ⟨[], rfl, rfl, fun j x y _ f => (nomatch f)⟩, fun i t acc et hp => ?_, fun acc hp _ => ?_⟩
  · rw [List.getElem?_map] at et
    cases ex : xs[i]? with
    | none => rw [ex] at et; cases et
    | some x =>
      rw [ex] at et
      cases et
      obtain ⟨ys, rfl, hl, hc⟩ := hp
      refine h x (List.mem_of_getElem? ex) (ys.map dec) (fun u => ∃ zs : List β, ys.map dec ++ [u] = zs.map dec ∧ zs.length = i + 1 ∧ ∀ (j : Nat) (x : α) (y : β), xs[j]? = some x → zs[j]? = some y → C x y) _ (fun y hy => ⟨ys ++ [y], by rw [List.map_append]; rfl, by rw [List.length_append, hl]; rfl, fun j a b ea eb => ?_⟩)
      by_cases hj : j < ys.length
      · rw [List.getElem?_append_left hj] at eb
        exact hc j a b ea eb
      · have hj' : j = ys.length := by
          have := (List.getElem?_eq_some_iff.mp eb).1
          rw [List.length_append] at this
          have : j < ys.length + 1 := this
          omega
        subst hj'
        rw [List.getElem?_concat_length] at eb
        cases eb
        rw [hl, ex] at ea
        cases ea
        exact hy
  · obtain ⟨ys, rfl, hl, hc⟩ := hp
    rw [List.length_map] at hl
    exact q ys hl hc
end
end VL

set_option maxRecDepth 100000
set_option maxHeartbeats 4000000
/-! # Lists of lists that change: one row grows, by its place or by another name; read through at the end -/
namespace VL
open PySem PySem.Spec PyProof.Rows L2
section
variable {K : PySem.W.Frag} {E : XK} {B F F' H : Hp} {α : List Addr} {z : Z} {σ : L2.St}
theorem soleOf {k : Nat} {c : List Cell} (h : SoleN k c) (e : ∃ rs, c[k]? = some (.grid rs)) : Sole k c := by
  obtain ⟨rs, e⟩ := e
  refine ⟨fun j rs' f => h j _ f rfl, fun j ts f => ?_⟩
  have := h j _ f rfl
  subst this
  rw [e] at f; cases f
/-- rows[n - 1].append(x) -/
def fAppAt (i n p : Nat) : VS := fun _ D z => ∃ (k : Nat) (rs : List (List Tr)) (nn : Int) (t : Tr) (row : List Tr), z.e[i]? = some (some (.c k)) ∧ z.c[k]? = some (.grid rs) ∧ z.e[n]? = some (some (.p (trI nn))) ∧ z.e[p]? = some (some (.p t)) ∧ SoleN k z.c ∧ 1 ≤ nn ∧ rs[(nn - 1).toNat]? = some row ∧ row.length < sizeLine ∧ D.nx ⟨z.e, z.c.set k (.grid (rs.set (nn - 1).toNat (row ++ [t])))⟩
theorem rs_appAt {i n p : Nat} : RS K E (tDrop (tBM K "list" rAppend (tOp (rIxL K) (tVar i) (tOp (rI0 fun a b => V.int (a - b)) (tVar n) (tC (.int 1)))) (tCons (tVar p) tNil))) (fAppAt i n p) := by
  intro B F α z σ H G Dv De er hf C eo
  obtain ⟨k, rs, nn, t, row, e1, e2, e3, e4, sole, h1, e5, lr, q⟩ := hf
  obtain ⟨v0, g1, D, ea, rfl⟩ := C.env i _ e1
  obtain ⟨v1, g2, r2⟩ := C.env n _ e3
  obtain ⟨v2, g3, r3⟩ := C.env p _ e4
  have ev := Rp.atom r2
  subst ev
  obtain ⟨hF, hB, bs, hx, lb, nd, g⟩ := C.cell k D _ ea e2
  have hm : (nn - 1).toNat < rs.length := (List.getElem?_eq_some_iff.mp e5).1
  have hb : (nn - 1).toNat < bs.length := by omega
  have eb : bs[(nn - 1).toNat]? = some bs[(nn - 1).toNat] := List.getElem?_eq_getElem hb
  obtain ⟨ys, p1, p2, C3, _⟩ := C.rowPut ea e2 (soleOf sole ⟨rs, e2⟩) hx eb e5 r3
  refine ⟨_, g1, _, g2, nn, 1, rfl, rfl, D, bs.map V.ref, nn - 1, .ref bs[(nn - 1).toNat], rfl, rfl, .of hx, ?_, tyL ⟨_, p1⟩, v2, g3, _, ys, v2, rfl, rfl, p1, by rw [p2]; exact lr, ?_⟩
  · have key := L2.atI_nat (show (bs.map V.ref)[(nn - 1).toNat]? = some (V.ref bs[(nn - 1).toNat]) by rw [List.getElem?_map, eb]; rfl)
    rw [Int.toNat_of_nonneg (by omega)] at key
    exact key
  · exact eo.nx F α _ σ _ q .refl C3
/-- row = rows[j]; row.append(xs[p]) -/
def fAlias (i j s o p : Nat) : VS := fun _ D z => ∃ (k : Nat) (rs : List (List Tr)) (m n : Int) (ts : List Tr) (t : Tr) (row : List Tr), z.e[i]? = some (some (.c k)) ∧ z.c[k]? = some (.grid rs) ∧ z.e[j]? = some (some (.p (trI m))) ∧ z.e[o]? = some (some (.p (.lst ts))) ∧ z.e[p]? = some (some (.p (trI n))) ∧ L2.atI ts n = some t ∧ s < z.e.length ∧ o ≠ s ∧ p ≠ s ∧ SoleN k z.c ∧ 0 ≤ m ∧ rs[m.toNat]? = some row ∧ row.length < sizeLine ∧ D.nx ⟨z.e.set s none, z.c.set k (.grid (rs.set m.toNat (row ++ [t])))⟩
theorem rs_alias {i j s o p : Nat} : RS K E (tSeq (tAsg (tOp (rIxL K) (tVar i) (tVar j)) (gName s)) (tDrop (tBM K "list" rAppend (tVar s) (tCons (tOp (rIxL K) (tVar o) (tVar p)) tNil)))) (fAlias i j s o p) := by
  intro B F α z σ H G Dv De er hf C eo
  obtain ⟨k, rs, m, n, ts, t, row, e1, e2, e3, e4, e5, e6, hs, os, ps, sole, h0, e7, lr, q⟩ := hf
  obtain ⟨v0, g1, D, ea, rfl⟩ := C.env i _ e1
  obtain ⟨v1, g2, r2⟩ := C.env j _ e3
  have ev := Rp.atom r2
  subst ev
  obtain ⟨v2, g3, r3⟩ := C.env o _ e4
  obtain ⟨v3, g4, r4⟩ := C.env p _ e5
  have ev := Rp.atom r4
  subst ev
  obtain ⟨pp, xs, rfl, l1, _, l2⟩ := Rp.inv_lst r3
  obtain ⟨x, l3, l4⟩ := l2.atI e6
  obtain ⟨hF, hB, bs, hx, lb, nd, g⟩ := C.cell k D _ ea e2
  have hm : m.toNat < rs.length := (List.getElem?_eq_some_iff.mp e7).1
  have hb : m.toNat < bs.length := by omega
  have eb : bs[m.toNat]? = some bs[m.toNat] := List.getElem?_eq_getElem hb
  obtain ⟨ys, p1, p2, C3, _⟩ := C.rowPut ea e2 (soleOf sole ⟨rs, e2⟩) hx eb e7 l4
  have key := L2.atI_nat (show (bs.map V.ref)[m.toNat]? = some (V.ref bs[m.toNat]) by rw [List.getElem?_map, eb]; rfl)
  rw [Int.toNat_of_nonneg h0] at key
  have hσ : s < σ.length := by rw [C.elen]; exact hs
  show tAsg _ _ { De with nx := tDrop _ De } σ H
  refine ⟨_, g1, _, g2, D, bs.map V.ref, m, .ref bs[m.toNat], rfl, rfl, .of hx, key, ?_⟩
  refine ⟨_, List.getElem?_set_self hσ, tyL ⟨_, p1⟩, .ref pp, by rw [List.getElem?_set_ne (Ne.symm os)]; exact g3, .int n, by rw [List.getElem?_set_ne (Ne.symm ps)]; exact g4, pp, xs, n, x, rfl, rfl, .of (C.same _ _ l1), l3, _, ys, x, rfl, rfl, p1, by rw [p2]; exact lr, ?_⟩
  refine eo.nx F α _ _ _ q .refl ⟨C3.keep, C3.same, C3.len, C3.nd, C3.cell, by rw [List.length_set, C.elen]; exact (List.length_set ..).symm, fun u r ee => ?_⟩
  have ee : (z.e.set s none)[u]? = some (some r) := ee
  by_cases c : s = u
  · subst c; rw [List.getElem?_set_self hs] at ee; cases ee
  · rw [List.getElem?_set_ne c] at ee
    obtain ⟨w, w1, w2⟩ := C.env u r ee
    exact ⟨w, by rw [List.getElem?_set_ne c]; exact w1, w2⟩
/-! ### a list of lists freezes -/
theorem Cor.killG (C : Cor K B F α z σ H) {k : Nat} {D : Addr} {rs : List (List Tr)} (ea : α[k]? = some D) (ec : z.c[k]? = some (.grid rs)) (sole : SoleN k z.c) (l0 : rs.length ≤ sizeLine) (l1 : ∀ r ∈ rs, r.length ≤ sizeLine) : ∃ F', XTE B F α F' α ∧ Cor K B F' α (z.kill k (.lst (rs.map .lst))) σ H ∧ Rp K F' (.ref D) (.lst (rs.map .lst)) := by
  obtain ⟨hF, hB, bs, hx, lb, nd, g⟩ := C.cell k D _ ea ec
  obtain ⟨F', eF⟩ : ∃ F' : Hp, F' = fun x => if x = D ∨ x ∈ bs then H x else F x := ⟨_, rfl⟩
  have inB : ∀ b ∈ bs, F b = none ∧ B b = none ∧ b ∉ α := fun b hb => by
    obtain ⟨i, hi⟩ := List.getElem?_of_mem hb
    have hi' : i < rs.length := by rw [← lb]; exact (List.getElem?_eq_some_iff.mp hi).1
    obtain ⟨q1, q2, q3, _⟩ := g i b _ hi (List.getElem?_eq_getElem hi')
    exact ⟨q1, q2, q3⟩
  have at1 : ∀ x, (x = D ∨ x ∈ bs) → F' x = H x := fun x h => by rw [eF]; exact if_pos h
  have at0 : ∀ x, ¬ (x = D ∨ x ∈ bs) → F' x = F x := fun x h => by rw [eF]; exact if_neg h
  have sF : Same F F' := fun x o e => by
    rw [at0 x (fun h => h.elim (fun h => by rw [h, hF] at e; cases e) (fun h => by rw [(inB x h).1] at e; cases e))]; exact e
  have x : XTE B F α F' α := ⟨sF, ⟨[], by rw [List.append_nil]⟩, fun a o m e => by
    by_cases h : a = D ∨ a ∈ bs
    · exact .inr (h.elim (fun h => h ▸ hB) (fun h => (inB a h).2.1))
    · rw [at0 a h] at e; exact .inl e⟩
  have rp : Rp K F' (.ref D) (.lst (rs.map .lst)) := by
    refine .lst (by rw [at1 D (.inl rfl)]; exact hx) (by rw [List.length_map, lb]; exact l0) (by rw [List.length_map, List.length_map, lb]) fun i v t ev et => ?_
    rw [List.getElem?_map] at ev et
    cases eb : bs[i]? with
    | none => rw [eb] at ev; cases ev
    | some b =>
      cases er : rs[i]? with
      | none => rw [er] at et; cases et
      | some r =>
        rw [eb] at ev; rw [er] at et
        cases ev; cases et
        obtain ⟨_, _, _, ys, q4, q5⟩ := g i b r eb er
        have q6 := q5.same sF
        exact .lst (by rw [at1 b (.inr (List.mem_of_getElem? eb))]; exact q4) (by rw [q5.1]; exact l1 r (List.mem_of_getElem? er)) q6.1 q6.2
  have hk : k < z.c.length := (List.getElem?_eq_some_iff.mp ec).1
  refine ⟨F', x, ⟨C.keep, fun a o e => ?_, by rw [C.len]; exact (List.length_set ..).symm, C.nd, fun j c d e f => ?_, by rw [C.elen]; exact (List.length_map ..).symm, fun i r e => ?_⟩, rp⟩
  · by_cases h : a = D ∨ a ∈ bs
    · rw [at1 a h] at e; exact e
    · rw [at0 a h] at e; exact C.same a o e
  · have f : (z.c.set k .dead)[j]? = some d := f
    by_cases q : k = j
    · subst q
      rw [ea] at e; cases e
      rw [List.getElem?_set_self hk] at f
      cases f; exact ⟨_, hx⟩
    · rw [List.getElem?_set_ne q] at f
      have ne : c ≠ D := fun y => by
        subst y
        have h1 := (List.getElem?_eq_some_iff.mp ea)
        have h2 := (List.getElem?_eq_some_iff.mp e)
        exact q (nd_inj C.nd h1.1 h2.1 (h1.2.trans h2.2.symm))
      have nb : c ∉ bs := fun y => (inB c y).2.2 (List.mem_of_getElem? e)
      have at0c : F' c = F c := at0 c (fun h => h.elim ne nb)
      have cc := C.cell j c d e f
      cases d with
      | lst ts => obtain ⟨a1, a2, xs, a3, a4⟩ := cc; exact ⟨by rw [at0c]; exact a1, a2, xs, a3, a4.same sF⟩
      | obj C0 ts => obtain ⟨a1, a2, dx, xs, a3, a4⟩ := cc; exact ⟨by rw [at0c]; exact a1, a2, dx, xs, a3, a4.same sF⟩
      | pool => obtain ⟨a1, a2, xs, a3, a4⟩ := cc; exact ⟨by rw [at0c]; exact a1, a2, xs, a3, a4⟩
      | dead => exact cc
      | grid rs' => exact absurd (sole j _ f rfl).symm q
      | nest ts' => exact absurd (sole j _ f rfl).symm q
  · have e : (z.e.map (frE k (.lst (rs.map .lst))))[i]? = some (some r) := e
    rw [List.getElem?_map] at e
    cases q : z.e[i]? with
    | none => rw [q] at e; cases e
    | some s =>
      rw [q] at e
      have e : some (frE k (.lst (rs.map .lst)) s) = some (some r) := e
      injection e with e
      cases s with
      | none => cases e
      | some s =>
        obtain ⟨v, e1, e2⟩ := C.env i s q
        refine ⟨v, e1, ?_⟩
        cases s with
        | p t' =>
          have e : some (Sv.p t') = some r := e
          cases e
          exact Rp.same e2 sF
        | c j =>
          have e : (if j = k then some (Sv.p (.lst (rs.map .lst))) else some (.c j)) = some r := e
          by_cases w : j = k
          · rw [if_pos w] at e
            cases e
            obtain ⟨a', ha', rfl⟩ := e2
            subst w
            rw [ea] at ha'; cases ha'
            exact rp
          · rw [if_neg w] at e
            cases e
            exact e2
/-- for row in rows: the list of lists freezes -/
def fiG (i : Nat) : VC := fun _ z Q => ∃ (k : Nat) (rs : List (List Tr)), z.e[i]? = some (some (.c k)) ∧ z.c[k]? = some (.grid rs) ∧ SoleN k z.c ∧ rs.length ≤ sizeLine ∧ (∀ r ∈ rs, r.length ≤ sizeLine) ∧ Q (rs.map .lst) (z.kill k (.lst (rs.map .lst)))
theorem ri_grid {i : Nat} : RI K E (iList K (tVar i)) (fiG i) := by
  intro B F α z σ H G Qv Q er hf C k
  obtain ⟨kk, rs, e1, e2, sole, l0, l1, q⟩ := hf
  obtain ⟨v, g1, D, ea, rfl⟩ := C.env i _ e1
  obtain ⟨F2, x2, C2, rp⟩ := C.killG ea e2 sole l0 l1
  obtain ⟨p, xs, e, g3, _, g4⟩ := rp.inv_lst
  cases e
  exact ⟨_, g1, D, rfl, ⟨xs, .of (C2.same _ _ g3)⟩, k F2 α _ _ _ H q x2 C2 (itok_list g3 g4)⟩
/-- a call over borrowed cells whose answer holds no old place -/
def kPuL (Q : Sv → Z → Prop) (z : Z) : Rr → Prop
  | .t t => Pure t ∧ Q (.p t) z
  | .l us => (∀ u ∈ us, Pure u) ∧ Q (.p (.lst us)) z
theorem callH {P : Pv} {vs : List V} {ts : List Tr} {G : Gx} {Q : VK} {Qv : Sv → Z → Prop} (C : Cor K B F α z σ H) (er : ErOk B E G) (hv : Rq K H vs ts) (hp : P ts (kPuL Qv z) G)
    (k : ∀ F' v t H', Qv (.p t) z → XTE B F α F' α → Cor K B F' α z σ H' → Rp K F' v t → Q v H') : spV K P vs H Q E := by
  refine ⟨H, ts, _, G, .refl _, hv, hp, er.same C.keep, fun r v F' H' q sF n s' s rr => ?_⟩
  cases r with
  | l us =>
    obtain ⟨pu, q⟩ := q
    obtain ⟨a, xs, rfl, ha, hF, hx, rq, lx⟩ := rr
    obtain ⟨C1, x1⟩ := C.shrink (C.same.trans sF) (Same.del s' hF) (Same.del s ha)
    obtain ⟨C2, x2⟩ := C1.fz (.lst xs) del_at
    rw [upd_del hx] at C2
    have rq2 := (rq.shrP (F := F) pu).same x2.1
    exact k _ (.ref a) (.lst us) H' q (x1.trans x2) C2 (.lst upd_same lx rq2.1 rq2.2)
  | t t =>
    obtain ⟨pu, q⟩ := q
    obtain ⟨C', x⟩ := C.shrink (C.same.trans sF) s' s
    exact k _ v t H' q x C' (pu.shr rr)
def fCallH (ge : Gx → Gx) (P : Pv) (fa : VA) : VE := fun G z Q => fa G z fun rs z1 => (∃ ts, prs rs = some ts ∧ P ts (kR Q z1) (ge G)) ∨ (∃ ts, vwgs rs z1 = some ts ∧ okGs ts ∧ P ts (kPuL Q z1) (ge G))
theorem re_callH {E' : XK} {ge : Gx → Gx} {P : Pv} {ta : TA} {fa : VA} (ee : EE E E' ge) (h : RA K E ta fa) : RE K E (tCall (spV K P) [] E' ta) (fCallH ge P fa) := by
  intro B F α z σ H G Qv Q er hf C k
  refine h B F α z σ H G (fun rs z1 => (∃ ts, prs rs = some ts ∧ P ts (kR Qv z1) (ge G)) ∨ (∃ ts, vwgs rs z1 = some ts ∧ okGs ts ∧ P ts (kPuL Qv z1) (ge G))) _ er hf C fun F1 α1 z1 rs vs H1 q1 x1 C1 r1 => ?_
  rcases q1 with ⟨ts, e, hp⟩ | ⟨ts, e, l, hp⟩
  · rw [List.append_nil]
    refine callV C1 (ee.ok er) (prs_ok e r1) hp (fun F2 t v H2 q x2 C2 r2 => k F2 α1 z1 _ v H2 q (x1.trans x2) C2 r2) fun F2 us xs a H2 q x2 C2 rq ha lx => ?_
    obtain ⟨C3, x3⟩ := C2.fz (.lst xs) ha
    have rq3 := rq.same x3.1
    exact k _ α1 z1 _ _ _ q ((x1.trans x2).trans x3) C3 (Rp.lst upd_same lx rq3.1 rq3.2)
  · rw [List.append_nil]
    exact callH C1 (ee.ok er) (vwgs_ok e l C1 r1) hp fun F2 v t H2 q x2 C2 r2 => k F2 α1 z1 _ v H2 q (x1.trans x2) C2 r2
end
end VL
local macro_rules | `(tactic| kbo_bools) => `(tactic| (with_reducible refine' VL.re_callH ?_ ?_))

set_option maxRecDepth 100000
set_option maxHeartbeats 4000000
/-! # First choice night by night, growth: the mathematics -/
namespace GR
/-- first choice, night by night: acc is what was taken so far -/
def takeG (gap : Nat) : List Int → List Int → List Int → List Int
  | acc, w :: ws, h :: hs => takeG gap (acc ++ [if h - (acc.drop (acc.length - gap)).sum < w then h - (acc.drop (acc.length - gap)).sum else w]) ws hs
  | acc, _, _ => acc
theorem takeG_go {gap i : Nat} {days hs acc : List Int} {w h : Int} (hw : days[i]? = some w) (hh : hs[i]? = some h) : takeG gap acc (days.drop i) (hs.drop i) = takeG gap (acc ++ [if h - (acc.drop (acc.length - gap)).sum < w then h - (acc.drop (acc.length - gap)).sum else w]) (days.drop (i + 1)) (hs.drop (i + 1)) := by
  obtain ⟨h1, rfl⟩ := List.getElem?_eq_some_iff.mp hw
  obtain ⟨h2, rfl⟩ := List.getElem?_eq_some_iff.mp hh
  rw [List.drop_eq_getElem_cons h1, List.drop_eq_getElem_cons h2, takeG]
theorem takeG_fin {gap : Nat} {days hs acc : List Int} : takeG gap acc (days.drop days.length) hs = acc := by
  rw [List.drop_length]
  cases hs <;> simp [takeG]
/-- the sum of the last gap of the first k values of f -/
def win (f : Nat → Int) (gap k : Nat) : Int := (((List.range k).map f).drop (k - gap)).sum
/-- the sum of the first k values -/
def pre (f : Nat → Int) (k : Nat) : Int := ((List.range k).map f).sum
theorem pre_succ (f : Nat → Int) (k : Nat) : pre f (k + 1) = pre f k + f k := by
  unfold pre
  rw [List.range_succ, List.map_append, List.sum_append, List.map_singleton, List.sum_singleton]
theorem sum_split (xs : List Int) (j : Nat) : xs.sum = (xs.take j).sum + (xs.drop j).sum := by
  conv => lhs; rw [← List.take_append_drop j xs]
  exact List.sum_append
theorem win_pre (f : Nat → Int) (gap k : Nat) : win f gap k = pre f k - pre f (k - gap) := by
  unfold win
  have h := sum_split ((List.range k).map f) (k - gap)
  have e : ((List.range k).map f).take (k - gap) = (List.range (k - gap)).map f := by
    rw [← List.map_take, List.take_range]
    congr 2
    omega
  rw [e] at h
  unfold pre
  omega
/-- x is first choice of days with h k people here on night k + 1 -/
def IsFC (gap : Nat) (d h x : Nat → Int) : Prop := ∀ k, x k = if h k - win x gap k < d k then h k - win x gap k else d k
theorem takeG_is {gap : Nat} {days hs : List Int} (hl : hs.length = days.length) {x : Nat → Int} (hx : ∀ k, k < days.length → x k = if hs.getD k 0 - win x gap k < days.getD k 0 then hs.getD k 0 - win x gap k else days.getD k 0) : takeG gap [] days hs = (List.range days.length).map x := by
  have key : ∀ k, k ≤ days.length → takeG gap ((List.range k).map x) (days.drop k) (hs.drop k) = takeG gap [] days hs := by
    intro k
    induction k with
    | zero => intro _; rfl
    | succ k ih =>
      intro hk
      rw [← ih (by omega), takeG_go (List.getElem?_eq_getElem (show k < days.length by omega)) (List.getElem?_eq_getElem (show k < hs.length by omega))]
      rw [List.range_succ, List.map_append, List.map_singleton]
      have := hx k (by omega)
      unfold win at this
      rw [this, List.length_map, List.length_range]
      simp only [List.getD_eq_getElem?_getD, List.getElem?_eq_getElem (show k < days.length by omega), List.getElem?_eq_getElem (show k < hs.length by omega), Option.getD_some]
  rw [← key days.length (Nat.le_refl _), takeG_fin]
/-- first choice as a function of the night -/
def fc (gap : Nat) (d h : Nat → Int) : Nat → List Int
  | 0 => []
  | k + 1 => fc gap d h k ++ [if h k - ((fc gap d h k).drop (k - gap)).sum < d k then h k - ((fc gap d h k).drop (k - gap)).sum else d k]
def fcx (gap : Nat) (d h : Nat → Int) (k : Nat) : Int := if h k - ((fc gap d h k).drop (k - gap)).sum < d k then h k - ((fc gap d h k).drop (k - gap)).sum else d k
theorem fc_map (gap : Nat) (d h : Nat → Int) (k : Nat) : fc gap d h k = (List.range k).map (fcx gap d h) := by
  induction k with
  | zero => rfl
  | succ k ih =>
    rw [List.range_succ, List.map_append, ← ih]
    rfl
theorem fcx_is (gap : Nat) (d h : Nat → Int) : IsFC gap d h (fcx gap d h) := by
  intro k
  unfold win
  rw [← fc_map]
  rfl
/-- f are the flags of the growth of somebody who comes on night c, over first choice x -/
def IsGr (gap c : Nat) (d x f : Nat → Int) : Prop := ∀ k, f k = if c ≤ k + 1 ∧ x k < d k ∧ win f gap k = 0 then 1 else 0
def gr (gap c : Nat) (d x : Nat → Int) : Nat → List Int
  | 0 => []
  | k + 1 => gr gap c d x k ++ [if c ≤ k + 1 ∧ x k < d k ∧ ((gr gap c d x k).drop (k - gap)).sum = 0 then 1 else 0]
def grx (gap c : Nat) (d x : Nat → Int) (k : Nat) : Int := if c ≤ k + 1 ∧ x k < d k ∧ ((gr gap c d x k).drop (k - gap)).sum = 0 then 1 else 0
theorem gr_map (gap c : Nat) (d x : Nat → Int) (k : Nat) : gr gap c d x k = (List.range k).map (grx gap c d x) := by
  induction k with
  | zero => rfl
  | succ k ih =>
    rw [List.range_succ, List.map_append, ← ih]
    rfl
theorem grx_is (gap c : Nat) (d x : Nat → Int) : IsGr gap c d x (grx gap c d x) := by
  intro k
  unfold win
  rw [← gr_map]
  rfl
theorem IsGr.bit {gap c : Nat} {d x f : Nat → Int} (h : IsGr gap c d x f) (k : Nat) : f k = 0 ∨ f k = 1 := by
  rw [h k]; split <;> simp
theorem pre_mono {f : Nat → Int} (h : ∀ k, 0 ≤ f k) {j k : Nat} (hj : j ≤ k) : pre f j ≤ pre f k := by
  induction k with
  | zero => rw [show j = 0 by omega]; exact Int.le_refl _
  | succ k ih =>
    rcases Nat.lt_or_ge k j with c | c
    · rw [show j = k + 1 by omega]; exact Int.le_refl _
    · rw [pre_succ]
      have := ih c
      have := h k
      omega
theorem IsGr.nn {gap c : Nat} {d x f : Nat → Int} (h : IsGr gap c d x f) (k : Nat) : 0 ≤ f k := by
  rcases h.bit k with e | e <;> omega
/-- at most one flag in any gap + 1 nights -/
theorem IsGr.one {gap c : Nat} {d x f : Nat → Int} (h : IsGr gap c d x f) (k : Nat) : pre f (k + 1) - pre f (k - gap) ≤ 1 ∧ win f gap k ≤ 1 := by
  have main : pre f (k + 1) - pre f (k - gap) ≤ 1 := by
    induction k with
    | zero =>
      rw [pre_succ, Nat.zero_sub]
      rcases h.bit 0 with e | e <;> omega
    | succ k ih =>
      rw [pre_succ (k := k + 1)]
      have hw := win_pre f gap (k + 1)
      rcases h.bit (k + 1) with e | e
      · have : pre f (k - gap) ≤ pre f (k + 1 - gap) := pre_mono h.nn (by omega)
        omega
      · have hk := h (k + 1)
        rw [e] at hk
        have : win f gap (k + 1) = 0 := by
          by_cases c : c ≤ k + 1 + 1 ∧ x (k + 1) < d (k + 1) ∧ win f gap (k + 1) = 0
          · exact c.2.2
          · rw [if_neg c] at hk; omega
        omega
  refine ⟨main, ?_⟩
  rw [win_pre]
  rw [pre_succ] at main
  have := h.nn k
  omega
theorem IsGr.wnn {gap c : Nat} {d x f : Nat → Int} (h : IsGr gap c d x f) (k : Nat) : 0 ≤ win f gap k := by
  rw [win_pre]
  have := pre_mono h.nn (show k - gap ≤ k by omega)
  omega
/-- before the coming there is no flag -/
theorem IsGr.early {gap c : Nat} {d x f : Nat → Int} (h : IsGr gap c d x f) {k : Nat} (hk : k + 1 ≤ c) : pre f k = 0 := by
  induction k with
  | zero => rfl
  | succ k ih =>
    rw [pre_succ, ih (by omega), h k, if_neg (by omega)]
    rfl
theorem win_congr {f g : Nat → Int} {gap k : Nat} (h : ∀ j, j < k → f j = g j) : win f gap k = win g gap k := by
  unfold win
  congr 2
  exact List.map_congr_left fun j hj => h j (List.mem_range.mp hj)
theorem win_add (f g : Nat → Int) (gap k : Nat) : win (fun j => f j + g j) gap k = win f gap k + win g gap k := by
  have p : ∀ n, pre (fun j => f j + g j) n = pre f n + pre g n := fun n => by
    induction n with
    | zero => rfl
    | succ n ih => rw [pre_succ, pre_succ, pre_succ, ih]; omega
  rw [win_pre, win_pre, win_pre, p, p]
  omega
/-- a person more: first choice is one greater on the growth and the same elsewhere -/
theorem grow_fc {gap c : Nat} {d h h' x f : Nat → Int} (hx : IsFC gap d h x) (hf : IsGr gap c d x f) (hh : ∀ k, h' k = h k + if c ≤ k + 1 then 1 else 0) : IsFC gap d h' (fun k => x k + f k) := by
  intro k
  show x k + f k = if h' k - win (fun j => x j + f j) gap k < d k then h' k - win (fun j => x j + f j) gap k else d k
  rw [win_add]
  have h1 := hx k
  have h2 := hf k
  have h3 := (hf.one k).2
  have h4 := hf.wnn k
  have h5 := hh k
  by_cases e : c ≤ k + 1
  · rw [if_pos e] at h5
    by_cases z : win f gap k = 0
    · by_cases r : x k < d k
      · rw [if_pos ⟨e, r, z⟩] at h2
        split at h1 <;> split <;> omega
      · rw [if_neg (fun y => r y.2.1)] at h2
        split at h1 <;> split <;> omega
    · rw [if_neg (fun y => z y.2.2)] at h2
      split at h1 <;> split <;> omega
  · rw [if_neg e] at h5
    rw [if_neg (fun y => e y.1)] at h2
    have : win f gap k = 0 := by
      rw [win_pre, hf.early (k := k) (by omega), hf.early (k := k - gap) (by omega)]
      rfl
    split at h1 <;> split <;> omega
theorem IsFC.uniq {gap : Nat} {d h x y : Nat → Int} (hx : IsFC gap d h x) (hy : IsFC gap d h y) : ∀ k, x k = y k := by
  intro k
  induction k using Nat.strongRecOn with
  | _ k ih =>
    rw [hx k, hy k, win_congr ih]
/-- more room, no fewer nights -/
theorem grow_more {gap c : Nat} {d x y f g : Nat → Int} (hf : IsGr gap c d x f) (hg : IsGr gap c d y g) (hxy : ∀ k, x k ≤ y k) : ∀ k, pre g k ≤ pre f k := by
  intro k
  induction k using Nat.strongRecOn with
  | _ k ih =>
    cases k with
    | zero => exact Int.le_refl _
    | succ k =>
      rw [pre_succ, pre_succ]
      have h0 := ih k (by omega)
      have h1 := ih (k - gap) (by omega)
      have h2 := pre_mono hf.nn (show k - gap ≤ k by omega)
      have h3 := hf.nn k
      rcases hg.bit k with e | e
      · omega
      · have hk := hg k
        rw [e] at hk
        have c2 : c ≤ k + 1 ∧ y k < d k ∧ win g gap k = 0 := by
          by_cases c2 : c ≤ k + 1 ∧ y k < d k ∧ win g gap k = 0
          · exact c2
          · rw [if_neg c2] at hk; omega
        have w1 := win_pre g gap k
        by_cases eq : pre g k = pre f k
        · have w2 := win_pre f gap k
          have hfk := hf k
          have := hxy k
          rw [if_pos ⟨c2.1, by omega, by omega⟩] at hfk
          omega
        · omega
end GR
namespace GR
/-- the nights that are flagged, up to night k -/
def ngh (f : Nat → Int) (k : Nat) : List Int := ((List.range k).filter fun j => decide (f j = 1)).map fun j => ((j : Nat) : Int) + 1
theorem ngh_succ (f : Nat → Int) (k : Nat) : ngh f (k + 1) = ngh f k ++ if f k = 1 then [((k : Nat) : Int) + 1] else [] := by
  unfold ngh
  rw [List.range_succ, List.filter_append, List.map_append]
  congr 1
  by_cases h : f k = 1
  · rw [if_pos h, List.filter_cons_of_pos (by exact decide_eq_true h)]; rfl
  · rw [if_neg h, List.filter_cons_of_neg (by simpa using h)]; rfl
theorem ngh_mem {f : Nat → Int} {k : Nat} {e : Int} : e ∈ ngh f k ↔ ∃ j, j < k ∧ f j = 1 ∧ e = ((j : Nat) : Int) + 1 := by
  unfold ngh
  constructor
  · intro h
    obtain ⟨j, hj, rfl⟩ := List.mem_map.mp h
    obtain ⟨h1, h2⟩ := List.mem_filter.mp hj
    exact ⟨j, List.mem_range.mp h1, of_decide_eq_true h2, rfl⟩
  · rintro ⟨j, h1, h2, rfl⟩
    exact List.mem_map.mpr ⟨j, List.mem_filter.mpr ⟨List.mem_range.mpr h1, decide_eq_true h2⟩, rfl⟩
theorem ngh_len {f : Nat → Int} (h : ∀ k, f k = 0 ∨ f k = 1) (k : Nat) : ((ngh f k).length : Int) = pre f k := by
  induction k with
  | zero => rfl
  | succ k ih =>
    rw [ngh_succ, pre_succ, List.length_append, Int.natCast_add, ih]
    rcases h k with e | e
    · rw [e, if_neg (by decide)]; rfl
    · rw [e, if_pos rfl]; rfl
theorem ngh_le (f : Nat → Int) (k : Nat) : (ngh f k).length ≤ k := by
  unfold ngh
  rw [List.length_map]
  have := List.length_filter_le (fun j => decide (f j = 1)) (List.range k)
  rwa [List.length_range] at this
theorem pre_zero {f : Nat → Int} (h : ∀ k, 0 ≤ f k) {m n : Nat} (hm : m ≤ n) : pre f n - pre f m = 0 ↔ ∀ j, m ≤ j → j < n → f j = 0 := by
  induction n with
  | zero =>
    rw [show m = 0 by omega]
    simp
  | succ n ih =>
    rcases Nat.lt_or_ge n m with c | c
    · rw [show m = n + 1 by omega]
      constructor
      · intro _ j h1 h2; omega
      · intro _; omega
    · rw [pre_succ]
      have i := ih c
      have hn := h n
      have hp := pre_mono h c
      constructor
      · intro e j h1 h2
        rcases Nat.lt_or_ge j n with q | q
        · exact i.1 (by omega) j h1 q
        · rw [show j = n by omega]; omega
      · intro e
        have := i.2 fun j h1 h2 => e j h1 (by omega)
        have := e n c (by omega)
        omega
/-- nobody watched on one of the gap nights before -/
theorem near_win {f : Nat → Int} (h : ∀ k, f k = 0 ∨ f k = 1) {gap k : Nat} : win f gap k = 0 ↔ ∀ e ∈ ngh f k, (gap : Int) < ((k : Nat) : Int) + 1 - e := by
  have nn : ∀ k, 0 ≤ f k := fun k => by rcases h k with e | e <;> omega
  rw [win_pre, pre_zero nn (by omega)]
  constructor
  · intro z e he
    obtain ⟨j, h1, h2, rfl⟩ := ngh_mem.mp he
    by_cases c : k - gap ≤ j
    · have := z j c h1; omega
    · omega
  · intro z j h1 h2
    rcases h j with e | e
    · exact e
    · have := z _ (ngh_mem.mpr ⟨j, h2, e, rfl⟩)
      omega
/-- the last of them is the greatest -/
theorem ngh_last (f : Nat → Int) (k : Nat) (hne : ngh f k ≠ []) : ∃ l, (ngh f k)[(ngh f k).length - 1]? = some l ∧ l ∈ ngh f k ∧ ∀ e ∈ ngh f k, e ≤ l := by
  induction k with
  | zero => exact absurd rfl hne
  | succ k ih =>
    rw [ngh_succ] at hne ⊢
    by_cases h : f k = 1
    · rw [if_pos h]
      refine ⟨((k : Nat) : Int) + 1, ?_, by simp, fun e he => ?_⟩
      · rw [List.length_append, List.getElem?_append_right (by simp)]
        simp
      · rcases List.mem_append.mp he with z | z
        · obtain ⟨j, h1, _, rfl⟩ := ngh_mem.mp z
          omega
        · rw [List.mem_singleton.mp z]; exact Int.le_refl _
    · rw [if_neg h, List.append_nil] at hne ⊢
      exact ih hne
theorem near_last {f : Nat → Int} (h : ∀ k, f k = 0 ∨ f k = 1) {gap k : Nat} : win f gap k = 0 ↔ ngh f k = [] ∨ ∀ l, (ngh f k)[(ngh f k).length - 1]? = some l → (gap : Int) < ((k : Nat) : Int) + 1 - l := by
  rw [near_win h]
  constructor
  · intro z
    by_cases hne : ngh f k = []
    · exact .inl hne
    · obtain ⟨l, h1, h2, _⟩ := ngh_last f k hne
      exact .inr fun l' e => by rw [h1] at e; cases e; exact z l h2
  · rintro (z | z) e he
    · rw [z] at he; cases he
    · obtain ⟨l, h1, h2, h3⟩ := ngh_last f k (fun y => by rw [y] at he; cases he)
      have := z l h1
      have := h3 e he
      omega
end GR

set_option maxRecDepth 100000
set_option maxHeartbeats 4000000
/-! # First choice: the mathematics -/
namespace VL
def hereN (starts ps : List Int) (k : Nat) : Int := ((ps.filter fun p => decide (starts.getD p.toNat 0 ≤ (k : Int) + 1)).length : Nat)
def choF (gap : Int) (days : List Int) (h : Nat → Int) (k : Nat) : List Int := GR.fc gap.toNat (fun k => days.getD k 0) h k
def chosen (gap : Int) (days starts ps : List Int) : List Int := choF gap days (hereN starts ps) days.length
theorem choF_len {gap : Int} {days : List Int} {h : Nat → Int} {k : Nat} : (choF gap days h k).length = k := by
  unfold choF; rw [GR.fc_map, List.length_map, List.length_range]
theorem chosen_len {gap : Int} {days starts ps : List Int} : (chosen gap days starts ps).length = days.length := choF_len
theorem choF_succ {gap : Int} {days : List Int} {h : Nat → Int} {k : Nat} : choF gap days h (k + 1) = choF gap days h k ++ [min (days.getD k 0) (h k - ((choF gap days h k).drop (k - gap.toNat)).sum)] := by
  unfold choF
  rw [GR.fc]
  congr 2
  split <;> omega
theorem choF_congr {gap : Int} {days : List Int} {h h' : Nat → Int} : ∀ {k : Nat}, (∀ j, j < k → h j = h' j) → choF gap days h k = choF gap days h' k
  | 0, _ => rfl
  | k + 1, e => by rw [choF_succ, choF_succ, choF_congr (fun j hj => e j (by omega)), e k (by omega)]
def roomC (gap : Int) (days starts ps : List Int) : List Int := (List.range days.length).map fun k => days.getD k 0 - (chosen gap days starts ps).getD k 0
theorem zip_sub : ∀ {xs ys : List Int}, xs.length = ys.length → (xs.zip ys).map (fun p => p.1 - p.2) = (List.range ys.length).map fun k => xs.getD k 0 - ys.getD k 0
  | [], [], _ => rfl
  | x :: xs, y :: ys, h => by
    rw [List.zip_cons_cons, List.map_cons, zip_sub (Nat.succ.inj h), List.length_cons, List.range_succ_eq_map, List.map_cons, List.map_map]
    rfl
theorem room_zip {gap : Int} {days starts ps : List Int} : (days.zip (chosen gap days starts ps)).map (fun p => p.1 - p.2) = roomC gap days starts ps := by
  rw [zip_sub chosen_len.symm, chosen_len]; rfl
theorem drop_max {xs : List Int} {n : Nat} {gap : Int} (l : xs.length = n) (g : 0 ≤ gap) : xs.drop (max 0 ((n : Int) - gap)).toNat = xs.drop (n - gap.toNat) := by
  congr 1; omega
end VL

set_option maxRecDepth 100000
set_option maxHeartbeats 8000000
namespace K14v
open PySem PySem.Spec PyProof.Rows L2 VL K14
section
variable {w : World} {K : PySem.W.Frag} {mg : Str → Option Value} {base : Heap}
def pPerson (K : PySem.W.Frag) : Pv := fun ts PP G => ∃ (days starts : List Int) (gap n : Int), ts = [hT K days starts gap, trI n] ∧ (¬ (0 ≤ n ∧ n < starts.length) → G (c_NoPerson K) (.xd [("person", .int n)])) ∧ (0 ≤ n ∧ n < starts.length → PP (.t trN))
theorem ok_check_person (T : Tx K mg) : Ok PG w K mg base (L2.CX PG w) 4 (a_check_person K) p_check_person (spV K (pPerson K)) := by
  refine Ok.of 3 T.f_check_person sc_check_person bi_check_person (by decide) (fun vs H Q E h => ?_) (fun cdv A outer s H vs Q E hr h => ?_)
  · obtain ⟨_, _, _, _, _, rq, ⟨_, _, _, _, rfl, _⟩, _⟩ := h
    exact rq.1
  · have T0 := T
    have nd := sc_check_person.nd
    refine ⟨_, pss_one (ps_if (pt_not (pt_chain op_le op_lt pe_int (pv 1) (pprop (ok_House_people T) (pv 0) T.cHouse T.wHouse_people hr pass0))) (pss_one (ps_raiseX rfl T.e_NoPerson (by decide) (by decide) hr (takes_of rfl rfl rfl rfl) rfl (pa_cons (pv 1) pa_nil))) pss_nil), ?_⟩
    try dsimp only [cxOf]
    refine run_V (by repeat' kbo_bools) h fun ts PP G hp _ => ?_
    obtain ⟨days, starts, gap, n, rfl, h1, h2⟩ := hp
    have se : ∀ t0 t1 : Tr, startE n_check_person [t0, t1] = [some (.p t0), some (.p t1)] := fun _ _ => rfl
    rw [se]; clear se h hr
    keq_rows
    all_goals first | exact h2 (by omega) | exact h1 (by omega)
def pPeople (K : PySem.W.Frag) : Pv := fun ts PP G => ∃ (days starts : List Int) (gap : Int) (ps : List Int), ts = [hT K days starts gap, trLI ps] ∧ ps.length ≤ 10000 ∧ (∀ e, badP starts.length [] ps = some (false, e) → G (c_NoPerson K) (.xd [("person", .int e)])) ∧ (∀ e, badP starts.length [] ps = some (true, e) → G (c_NamedTwice K) (.xd [("person", .int e)])) ∧ (badP starts.length [] ps = none → PP (.t trN))
theorem ok_check_people (T : Tx K mg) : Ok PG w K mg base (L2.CX PG w) 5 (a_check_people K) p_check_people (spV K (pPeople K)) := by
  refine Ok.of 4 T.f_check_people sc_check_people bi_check_people (by decide) (fun vs H Q E h => ?_) (fun cdv A outer s H vs Q E hr h => ?_)
  · obtain ⟨_, _, _, _, _, rq, ⟨_, _, _, _, rfl, _⟩, _⟩ := h
    exact rq.1
  · have T0 := T
    have nd := sc_check_people.nd
    refine ⟨_, pss_one (ps_for (passX rfl) rfl (k_pi_enumA K rfl (by rfl) T.m_enumerate (pa_cons (pv 1) pa_nil)) (pg_tup (n := 2) rfl (pgs_cons (pg_name (i := 2) nd rfl (.inl rfl)) (pgs_cons (pg_name (i := 3) nd rfl (.inl rfl)) pgs_nil)))
        (pss_cons (ps_expr (pc (ok_check_person T) hr T.g_check_person px (pa_cons (pv 0) (pa_cons (pv 3) pa_nil))))
          (pss_one (ps_if (pt_cmpR (k_op_in_seq K rfl) (pv 3) (pe_slice (k_sl_list K rfl) (pv 1) po_none (po_some (pv 2))) (by rfl)) (pss_one (ps_raiseX rfl T.e_NamedTwice (by decide) (by decide) hr (takes_of rfl rfl rfl rfl) rfl (pa_cons (pv 3) pa_nil))) pss_nil)))), ?_⟩
    try dsimp only [cxOf]
    refine run_V (by repeat' kbo_bools) h fun ts PP G hp _ => ?_
    obtain ⟨days, starts, gap, ps, rfl, lp, h1, h2, h3⟩ := hp
    have se : ∀ t0 t1 : Tr, startE n_check_people [t0, t1] = [some (.p t0), some (.p t1), none, none] := fun _ _ => rfl
    rw [se]; clear se h hr
    keq_rows
    refine forE 0 ps trI rfl (fun i z => z = ⟨[some (.p (hT K days starts gap)), some (.p (trLI ps)), none, none], []⟩ ∧ badP starts.length (ps.take i) (ps.drop i) = badP starts.length [] ps) (wkM (by kx_w2) ⟨rfl, rfl⟩) (fun i x z ex hz => ?_) (fun z hz => ?_)
    · obtain ⟨rfl, hb⟩ := hz
      have hi : i < ps.length := (List.getElem?_eq_some_iff.mp ex).1
      obtain ⟨b1, b2, b3⟩ := badP_step hb ex
      keq_rows
      · exact h1 x (b1 (by assumption))
      · rename_i c2 c3
        rw [cutA_to (by omega) (by omega), show (0 + (i : Int)).toNat = i by omega] at c3
        exact h2 x (b2 c2 c3)
      · rename_i c2 c3
        rw [cutA_to (by omega) (by omega), show (0 + (i : Int)).toNat = i by omega] at c3
        exact wkM (by kx_w2) ⟨rfl, b3 c2 c3⟩
    · obtain ⟨rfl, hb⟩ := hz
      keq_rows
      exact h3 (badP_end hb)
end
end K14v

set_option maxRecDepth 100000
set_option maxHeartbeats 4000000
/-! # Rows picked night by night from first choice: the mathematics -/
namespace VL
theorem filter_out {X B : List Int} (hx : X.Nodup) (hb : B.Nodup) (hs : ∀ e ∈ B, e ∈ X) : (X.filter fun p => decide (p ∉ B)).length + B.length = X.length := by
  have h1 : (X.filter fun p => decide (p ∈ B)).Perm B := (List.perm_ext_iff_of_nodup (hx.filter _) hb).mpr fun e => by
    rw [List.mem_filter, decide_eq_true_eq]
    exact ⟨fun h => h.2, fun h => ⟨hs e h, h⟩⟩
  have h2 := h1.length_eq
  have h3 : (X.filter fun p => decide (p ∈ B)).length + (X.filter fun p => decide (p ∉ B)).length = X.length := by
    clear h1 h2 hs hx
    induction X with
    | nil => rfl
    | cons x X ih =>
      rw [List.filter_cons, List.filter_cons]
      by_cases c : x ∈ B
      · rw [if_pos (decide_eq_true c), if_neg (by simp [c]), List.length_cons, List.length_cons]; omega
      · rw [if_neg (by simp [c]), if_pos (decide_eq_true c), List.length_cons, List.length_cons]; omega
  omega
theorem filter_outs {A : List Int} (ha : A.Nodup) : ∀ {Bs : List (List Int)}, (∀ B ∈ Bs, B.Nodup) → (∀ B ∈ Bs, ∀ e ∈ B, e ∈ A) → Bs.Pairwise (fun B C => ∀ e ∈ C, e ∉ B) → (A.filter fun p => decide (∀ B ∈ Bs, p ∉ B)).length + (Bs.map List.length).sum = A.length
  | [], _, _, _ => by
    rw [List.filter_eq_self.mpr (fun p _ => decide_eq_true (fun B hB => by cases hB))]
    rfl
  | B :: Bs, h1, h2, h3 => by
    rw [List.pairwise_cons] at h3
    have ih := filter_outs ha (Bs := Bs) (fun C hC => h1 C (List.mem_cons_of_mem _ hC)) (fun C hC => h2 C (List.mem_cons_of_mem _ hC)) h3.2
    have e1 : (A.filter fun p => decide (∀ C ∈ B :: Bs, p ∉ C)) = (A.filter fun p => decide (∀ C ∈ Bs, p ∉ C)).filter fun p => decide (p ∉ B) := by
      rw [List.filter_filter]
      refine List.filter_congr fun p _ => ?_
      rw [← Bool.decide_and]
      refine decide_eq_decide.mpr ⟨fun h => ⟨h B (List.mem_cons_self ..), fun C hC => h C (List.mem_cons_of_mem _ hC)⟩, fun h C hC => ?_⟩
      rcases List.mem_cons.mp hC with rfl | hC
      · exact h.1
      · exact h.2 C hC
    have h4 := filter_out (X := A.filter fun p => decide (∀ C ∈ Bs, p ∉ C)) (B := B) (ha.filter _) (h1 B (List.mem_cons_self ..)) (fun e he => List.mem_filter.mpr ⟨h2 B (List.mem_cons_self ..) e he, decide_eq_true fun C hC hm => h3.1 C hC e hm he⟩)
    rw [e1, List.map_cons, List.sum_cons]
    omega
/-- rows that fit, of a group -/
structure Pick (days starts : List Int) (gap : Int) (ps : List Int) (rows : List (List Int)) : Prop where
  nd : ∀ r ∈ rows, r.Nodup
  on : ∀ i (e : Int), e ∈ rows.getD i [] → e ∈ ps ∧ starts.getD e.toNat 0 ≤ (i : Int) + 1 ∧ ∀ j : Nat, j < i → (i : Int) - j ≤ gap → e ∉ rows.getD j []
  ln : rows.map (fun r => (r.length : Int)) = choF gap days (hereN starts ps) rows.length
/-- when each may watch again -/
def AgOk (starts : List Int) (gap : Int) (rows : List (List Int)) (ag : List Int) : Prop := ag.length = starts.length ∧ ∀ e : Nat, e < starts.length → ((∀ j : Nat, (e : Int) ∉ rows.getD j []) ∧ ag.getD e 0 = starts.getD e 0) ∨ ∃ j : Nat, j < rows.length ∧ (e : Int) ∈ rows.getD j [] ∧ (∀ i : Nat, j < i → (e : Int) ∉ rows.getD i []) ∧ ag.getD e 0 = (j : Int) + gap + 2
theorem getD_drop {rows : List (List Int)} {n i : Nat} : (rows.drop n).getD i [] = rows.getD (n + i) [] := by
  rw [List.getD_eq_getElem?_getD, List.getElem?_drop, List.getD_eq_getElem?_getD]
theorem mem_getD {rows : List (List Int)} {r : List Int} (h : r ∈ rows) : ∃ i, i < rows.length ∧ rows.getD i [] = r := by
  obtain ⟨i, hi⟩ := List.getElem?_of_mem h
  exact ⟨i, (List.getElem?_eq_some_iff.mp hi).1, by rw [List.getD_eq_getElem?_getD, hi]; rfl⟩
theorem getD_mem {rows : List (List Int)} {i : Nat} {e : Int} (h : e ∈ rows.getD i []) : i < rows.length ∧ rows.getD i [] ∈ rows := by
  rw [List.getD_eq_getElem?_getD] at h ⊢
  cases q : rows[i]? with
  | none => rw [q] at h; cases h
  | some r => exact ⟨(List.getElem?_eq_some_iff.mp q).1, List.mem_of_getElem? q⟩
/-- who is free on the next night -/
def freeL (ps ag : List Int) (k : Nat) : List Int := ps.filter fun p => decide (ag.getD p.toNat 0 ≤ (k : Int) + 1)
theorem free_len {days starts ps ag : List Int} {gap : Int} {rows : List (List Int)} (hg : 0 ≤ gap) (hp : ∀ p ∈ ps, 0 ≤ p ∧ p < starts.length) (hn : ps.Nodup) (P : Pick days starts gap ps rows) (A : AgOk starts gap rows ag) :
    ((freeL ps ag rows.length).length : Int) = hereN starts ps rows.length - ((choF gap days (hereN starts ps) rows.length).drop (rows.length - gap.toNat)).sum := by
  have e1 : freeL ps ag rows.length = (ps.filter fun p => decide (starts.getD p.toNat 0 ≤ (rows.length : Int) + 1)).filter fun p => decide (∀ B ∈ rows.drop (rows.length - gap.toNat), p ∉ B) := by
    unfold freeL
    rw [List.filter_filter]
    refine List.filter_congr fun p hpm => ?_
    rw [← Bool.decide_and]
    obtain ⟨h0, h1⟩ := hp p hpm
    have hpe : ((p.toNat : Nat) : Int) = p := Int.toNat_of_nonneg h0
    refine decide_eq_decide.mpr ?_
    rcases A.2 p.toNat (by omega) with ⟨a1, a2⟩ | ⟨j, a1, a2, a3, a4⟩
    · rw [hpe] at a1
      rw [a2]
      refine ⟨fun h => ⟨fun B hB hm => ?_, h⟩, fun h => h.2⟩
      obtain ⟨i, _, ei⟩ := mem_getD (List.mem_of_mem_drop hB)
      exact a1 i (by rw [ei]; exact hm)
    · rw [hpe] at a2 a3
      rw [a4]
      have := (P.on j p a2).2.1
      refine ⟨fun h => ⟨fun B hB hm => ?_, by omega⟩, fun h => ?_⟩
      · obtain ⟨i, hi, ei⟩ := mem_getD hB
        rw [getD_drop] at ei
        have hji : ¬ j < rows.length - gap.toNat + i := fun c => a3 _ c (by rw [ei]; exact hm)
        omega
      · by_cases c : (j : Int) + gap + 2 ≤ (rows.length : Int) + 1
        · exact c
        · exfalso
          refine h.1 (rows.getD j []) ?_ a2
          have : (rows.drop (rows.length - gap.toNat)).getD (j - (rows.length - gap.toNat)) [] = rows.getD j [] := by rw [getD_drop]; congr 1; omega
          rw [← this]
          refine (getD_mem (e := p) ?_).2
          rw [this]; exact a2
  have h2 := filter_outs (A := ps.filter fun p => decide (starts.getD p.toNat 0 ≤ (rows.length : Int) + 1)) (hn.filter _) (Bs := rows.drop (rows.length - gap.toNat)) (fun B hB => P.nd B (List.mem_of_mem_drop hB)) (fun B hB e he => by
    obtain ⟨i, hi, ei⟩ := mem_getD (List.mem_of_mem_drop hB)
    have := P.on i e (by rw [ei]; exact he)
    exact List.mem_filter.mpr ⟨this.1, decide_eq_true (by omega)⟩) (by
    rw [List.pairwise_iff_getElem]
    intro i j hi hj hij e he hm
    rw [List.length_drop] at hi hj
    rw [List.getElem_drop] at he hm
    have e2 : ∀ (n : Nat) (h : n < rows.length), rows.getD n [] = rows[n] := fun n h => by rw [List.getD_eq_getElem?_getD, List.getElem?_eq_getElem h]; rfl
    exact (P.on (rows.length - gap.toNat + j) e (by rw [e2 _ (by omega)]; exact he)).2.2 (rows.length - gap.toNat + i) (by omega) (by omega) (by rw [e2 _ (by omega)]; exact hm))
  rw [← e1] at h2
  rw [← P.ln, ← List.map_drop]
  have e3 : ∀ xs : List (List Int), ((xs.map List.length).sum : Int) = (xs.map fun r => (r.length : Int)).sum := fun xs => by
    induction xs with
    | nil => rfl
    | cons x xs ih => rw [List.map_cons, List.sum_cons, List.map_cons, List.sum_cons, ← ih]; omega
  rw [← e3]
  unfold hereN
  omega
/-- a row of free people behind -/
theorem Pick.snoc {days starts ps ag : List Int} {gap : Int} {rows : List (List Int)} {row bs : List Int} (hg : 0 ≤ gap) (hd : ∀ x ∈ days, 0 ≤ x) (hk : rows.length < days.length) (hp : ∀ p ∈ ps, 0 ≤ p ∧ p < starts.length) (hn : ps.Nodup) (P : Pick days starts gap ps rows) (A : AgOk starts gap rows ag)
    (hb : bs.Perm (freeL ps ag rows.length)) {c : Int} (hc : c = min (days.getD rows.length 0) (hereN starts ps rows.length - ((choF gap days (hereN starts ps) rows.length).drop (rows.length - gap.toNat)).sum)) (er : row = bs.take c.toNat) : Pick days starts gap ps (rows ++ [row]) ∧ 0 ≤ c ∧ c ≤ bs.length := by
  have fl := free_len hg hp hn P A
  have lb := hb.length_eq
  have d0 : 0 ≤ days.getD rows.length 0 := by
    rw [List.getD_eq_getElem?_getD, List.getElem?_eq_getElem hk]
    exact hd _ (List.getElem_mem hk)
  have c0 : 0 ≤ c := by omega
  have c1 : c ≤ bs.length := by omega
  have lr : row.length = c.toNat := by rw [er, List.length_take]; omega
  have sub : ∀ e ∈ row, e ∈ freeL ps ag rows.length := fun e he => hb.mem_iff.mp (by rw [er] at he; exact List.mem_of_mem_take he)
  have gd : ∀ i : Nat, (rows ++ [row]).getD i [] = if i = rows.length then row else rows.getD i [] := fun i => by
    rw [List.getD_eq_getElem?_getD, List.getD_eq_getElem?_getD]
    by_cases w : i < rows.length
    · rw [List.getElem?_append_left w, if_neg (by omega)]
    · rw [List.getElem?_append_right (by omega)]
      by_cases d : i = rows.length
      · subst d; rw [Nat.sub_self, if_pos rfl]; rfl
      · rw [if_neg d, List.getElem?_eq_none (by show 1 ≤ _; omega), List.getElem?_eq_none (by omega)]
  refine ⟨⟨fun r hr => ?_, fun i e he => ?_, ?_⟩, c0, c1⟩
  · rcases List.mem_append.mp hr with hr | hr
    · exact P.nd r hr
    · rw [List.mem_singleton.mp hr, er]
      exact (hb.nodup_iff.mpr (hn.filter _)).sublist (List.take_sublist ..)
  · rw [gd] at he
    by_cases w : i = rows.length
    · rw [if_pos w] at he
      have hf := List.mem_filter.mp (sub e he)
      have hle := of_decide_eq_true hf.2
      obtain ⟨h0, h1⟩ := hp e hf.1
      have hpe : ((e.toNat : Nat) : Int) = e := Int.toNat_of_nonneg h0
      refine ⟨hf.1, ?_, fun j hj hg' => ?_⟩
      · rcases A.2 e.toNat (by omega) with ⟨a1, a2⟩ | ⟨j, a1, a2, a3, a4⟩
        · omega
        · rw [hpe] at a2
          have := (P.on j e a2).2.1
          omega
      · rw [gd, if_neg (by omega)]
        intro hm
        rcases A.2 e.toNat (by omega) with ⟨a1, a2⟩ | ⟨j', a1, a2, a3, a4⟩
        · rw [hpe] at a1; exact a1 j hm
        · rw [hpe] at a3
          have : ¬ j' < j := fun c => a3 j c hm
          omega
    · rw [if_neg w] at he
      obtain ⟨b1, b2, b3⟩ := P.on i e he
      have hi := (getD_mem he).1
      refine ⟨b1, b2, fun j hj hg' => ?_⟩
      rw [gd, if_neg (by omega)]
      exact b3 j hj hg'
  · rw [List.map_append, P.ln, List.length_append]
    show _ = choF gap days (hereN starts ps) (rows.length + 1)
    rw [choF_succ, ← hc]
    show _ ++ [(row.length : Int)] = _
    rw [lr, Int.toNat_of_nonneg c0]
theorem Pick.nil {days starts ps : List Int} {gap : Int} : Pick days starts gap ps [] := ⟨fun r h => (by cases h), fun i e h => (by simp at h), rfl⟩
theorem AgOk.nil {starts : List Int} {gap : Int} : AgOk starts gap [] starts := ⟨rfl, fun e he => .inl ⟨fun j h => (by simp at h), rfl⟩⟩
theorem AgOk.snoc {starts ag ag' : List Int} {gap : Int} {rows : List (List Int)} {row : List Int} (A : AgOk starts gap rows ag) (l : ag'.length = starts.length) (h : ∀ e : Nat, e < starts.length → ag'.getD e 0 = if (e : Int) ∈ row then (rows.length : Int) + gap + 2 else ag.getD e 0) : AgOk starts gap (rows ++ [row]) ag' := by
  have gd : ∀ i : Nat, (rows ++ [row]).getD i [] = if i = rows.length then row else rows.getD i [] := fun i => by
    rw [List.getD_eq_getElem?_getD, List.getD_eq_getElem?_getD]
    by_cases w : i < rows.length
    · rw [List.getElem?_append_left w, if_neg (by omega)]
    · rw [List.getElem?_append_right (by omega)]
      by_cases d : i = rows.length
      · subst d; rw [Nat.sub_self, if_pos rfl]; rfl
      · rw [if_neg d, List.getElem?_eq_none (by show 1 ≤ _; omega), List.getElem?_eq_none (by omega)]
  refine ⟨l, fun e he => ?_⟩
  rw [h e he]
  by_cases c : (e : Int) ∈ row
  · rw [if_pos c]
    refine .inr ⟨rows.length, by rw [List.length_append]; exact Nat.lt_succ_self _, by rw [gd, if_pos rfl]; exact c, fun i hi => ?_, rfl⟩
    rw [gd, if_neg (by omega), List.getD_eq_getElem?_getD, List.getElem?_eq_none (by omega)]
    exact fun h => by cases h
  · rw [if_neg c]
    rcases A.2 e he with ⟨a1, a2⟩ | ⟨j, a1, a2, a3, a4⟩
    · refine .inl ⟨fun j => ?_, a2⟩
      rw [gd]; split
      · exact c
      · exact a1 j
    · refine .inr ⟨j, by rw [List.length_append]; exact Nat.lt_succ_of_lt a1, by rw [gd, if_neg (by omega)]; exact a2, fun i hi => ?_, a4⟩
      rw [gd]; split
      · exact c
      · exact a3 i hi
/-- such a plan has no faults, told shortly -/
theorem lastOf_at (rows : List (List Int)) (e : Int) : ∀ i, lastOf rows i e = 0 ∨ ∃ j, j < i ∧ lastOf rows i e = j + 1 ∧ e ∈ rows.getD j []
  | 0 => .inl rfl
  | i + 1 => by
    unfold lastOf
    split
    · rename_i h
      exact .inr ⟨i, Nat.lt_succ_self _, rfl, h⟩
    · rcases lastOf_at rows e i with h | ⟨j, a, b, c⟩
      · exact .inl h
      · exact .inr ⟨j, Nat.lt_succ_of_lt a, b, c⟩
theorem Pick.faults {days starts ps : List Int} {gap : Int} {rows : List (List Int)} (hp : ∀ p ∈ ps, 0 ≤ p ∧ p < starts.length) (P : Pick days starts gap ps rows) (l : rows.length = days.length) (hd : ∀ i : Nat, i < rows.length → ((rows.getD i []).length : Int) ≤ days.getD i 0) : faultsF days starts gap rows true = [] := by
  unfold faultsF
  rw [if_neg (by omega)]
  unfold accF
  rw [List.flatMap_eq_nil_iff]
  intro i hi
  have hi := List.mem_range.mp hi
  have nr : nightR starts gap rows i = ([], rows.getD i []) := by
    unfold nightR rowF
    have hnd : (rows.getD i []).Nodup := P.nd _ (by rw [List.getD_eq_getElem?_getD, List.getElem?_eq_getElem hi]; exact List.getElem_mem hi)
    have key : ∀ (xs seen : List Int), (seen ++ xs).Nodup → (∀ e ∈ xs, e ∈ rows.getD i []) → xs.foldl (stepF starts gap (1 + (i : Int)) (lastOf rows i)) ([], seen) = ([], seen ++ xs) := by
      intro xs
      induction xs with
      | nil => intro seen _ _; rw [List.append_nil]; rfl
      | cons e xs ih =>
        intro seen hs hm
        obtain ⟨b1, b2, b3⟩ := P.on i e (hm e (List.mem_cons_self ..))
        obtain ⟨h0, h1⟩ := hp e b1
        have ne : e ∉ seen := fun hin => (List.nodup_append.mp hs).2.2 e hin e (List.mem_cons_self ..) rfl
        have wf : watchF starts gap (1 + (i : Int)) e (lastOf rows i e) = [] := by
          unfold watchF
          rw [if_neg (by omega)]
          rcases lastOf_at rows e i with h | ⟨j, a, b, c⟩
          · rw [h, if_neg (by simp)]; rfl
          · rw [b, if_neg ?_]; rfl
            rintro ⟨_, q⟩
            exact b3 j a (by omega) c
        have st : stepF starts gap (1 + (i : Int)) (lastOf rows i) ([], seen) e = ([], seen ++ [e]) := by
          unfold stepF
          rw [if_neg (by omega), if_neg ne, wf]; rfl
        rw [List.foldl_cons, st, ih (seen ++ [e]) (by rw [List.append_assoc]; exact hs) (fun x hx => hm x (List.mem_cons_of_mem _ hx)), List.append_assoc]
        rfl
    exact key (rows.getD i []) [] (by rw [List.nil_append]; exact hnd) (fun e he => he)
  unfold nightF
  rw [nr]
  have := hd i hi
  unfold cntF
  rw [if_neg (by simp only [Bool.true_eq_false, and_false, or_false]; omega)]
  rfl
/-- nights counted twice over -/
theorem nights_len (rows : List (List Int)) (e : Int) : (nightsOf rows e).length = (rows.filter fun r => decide (e ∈ r)).length := by
  unfold nightsOf
  rw [List.length_map]
  induction rows with
  | nil => rfl
  | cons r rows ih =>
    rw [List.length_cons, List.range_succ_eq_map, List.filter_cons, List.filter_cons, List.filter_map]
    have e0 : (List.filter ((fun i => decide (e ∈ (r :: rows).getD i [])) ∘ Nat.succ) (List.range rows.length)).length = (List.filter (fun i => decide (e ∈ rows.getD i [])) (List.range rows.length)).length := rfl
    have e1 : ((r :: rows).getD 0 []) = r := rfl
    rw [e1]
    by_cases c : e ∈ r
    · rw [if_pos (decide_eq_true c), if_pos (decide_eq_true c), List.length_cons, List.length_cons, List.length_map, e0, ih]
    · rw [if_neg (by simp [c]), if_neg (by simp [c]), List.length_map, e0, ih]
theorem sum_nights {n : Nat} : ∀ {rows : List (List Int)}, (∀ r ∈ rows, r.Nodup) → (∀ r ∈ rows, ∀ e ∈ r, 0 ≤ e ∧ e < (n : Int)) → ((List.range n).map fun e : Nat => ((rows.filter fun r => decide ((e : Int) ∈ r)).length : Int)).sum = (rows.map fun r => (r.length : Int)).sum
  | [], _, _ => by
    have : ∀ m : Nat, ((List.range m).map fun _ : Nat => (0 : Int)).sum = 0 := fun m => by
      induction m with
      | zero => rfl
      | succ m ih => rw [List.range_succ, List.map_append, List.sum_append, ih]; rfl
    exact this n
  | r :: rows, h1, h2 => by
    have ih := sum_nights (n := n) (rows := rows) (fun x hx => h1 x (List.mem_cons_of_mem _ hx)) (fun x hx => h2 x (List.mem_cons_of_mem _ hx))
    have hr : ((List.range n).map fun e : Nat => if (e : Int) ∈ r then (1 : Int) else 0).sum = (r.length : Int) := by
      have p : (((List.range n).filter fun e : Nat => decide ((e : Int) ∈ r)).map fun e : Nat => (e : Int)).Perm r := by
        refine (List.perm_ext_iff_of_nodup ?_ (h1 r (List.mem_cons_self ..))).mpr fun x => ?_
        · unfold List.Nodup
          rw [List.pairwise_map]
          exact (List.nodup_range.filter _).imp fun h q => h (Int.ofNat.inj q)
        · rw [List.mem_map]
          constructor
          · rintro ⟨e, he, rfl⟩
            exact of_decide_eq_true (List.mem_filter.mp he).2
          · intro hx
            obtain ⟨a, b⟩ := h2 r (List.mem_cons_self ..) x hx
            exact ⟨x.toNat, List.mem_filter.mpr ⟨List.mem_range.mpr (by omega), decide_eq_true (by rw [Int.toNat_of_nonneg a]; exact hx)⟩, Int.toNat_of_nonneg a⟩
      have := p.length_eq
      rw [List.length_map] at this
      rw [← this]
      generalize List.range n = xs
      clear this p
      induction xs with
      | nil => rfl
      | cons x xs ih =>
        rw [List.map_cons, List.sum_cons, ih, List.filter_cons]
        by_cases c : (x : Int) ∈ r
        · rw [if_pos c, if_pos (decide_eq_true c), List.length_cons]; omega
        · rw [if_neg c, if_neg (by simp [c])]; omega
    have sp : ∀ xs : List Nat, (xs.map fun e : Nat => ((((r :: rows).filter fun r => decide ((e : Int) ∈ r)).length : Nat) : Int)).sum = (xs.map fun e : Nat => if (e : Int) ∈ r then (1 : Int) else 0).sum + (xs.map fun e : Nat => ((rows.filter fun r => decide ((e : Int) ∈ r)).length : Int)).sum := fun xs => by
      induction xs with
      | nil => rfl
      | cons x xs ih =>
        rw [List.map_cons, List.sum_cons, ih, List.map_cons, List.sum_cons, List.map_cons, List.sum_cons, List.filter_cons]
        by_cases c : (x : Int) ∈ r
        · rw [if_pos c, if_pos (decide_eq_true c), List.length_cons]; omega
        · rw [if_neg c, if_neg (by simp [c])]; omega
    rw [sp, hr, ih, List.map_cons, List.sum_cons]
theorem choF_get {gap : Int} {days : List Int} {h : Nat → Int} {i : Nat} : ∀ {k : Nat}, i < k → (choF gap days h k).getD i 0 = min (days.getD i 0) (h i - ((choF gap days h i).drop (i - gap.toNat)).sum)
  | k + 1, hk => by
    have l := choF_len (gap := gap) (days := days) (h := h) (k := k)
    rw [choF_succ, List.getD_eq_getElem?_getD]
    by_cases c : i < k
    · rw [List.getElem?_append_left (by omega), ← List.getD_eq_getElem?_getD]
      exact choF_get c
    · have : i = k := by omega
      subst this
      rw [List.getElem?_append_right (by omega), l, Nat.sub_self]
      rfl
theorem chosen_get {gap : Int} {days starts ps : List Int} {i : Nat} (h : i < days.length) : (chosen gap days starts ps).getD i 0 = min (days.getD i 0) (hereN starts ps i - ((choF gap days (hereN starts ps) i).drop (i - gap.toNat)).sum) := choF_get h
theorem Pick.len_at {days starts ps : List Int} {gap : Int} {rows : List (List Int)} (P : Pick days starts gap ps rows) {i : Nat} (h : i < rows.length) : ((rows.getD i []).length : Int) = (choF gap days (hereN starts ps) rows.length).getD i 0 := by
  rw [← P.ln, List.getD_eq_getElem?_getD, List.getD_eq_getElem?_getD, List.getElem?_map, List.getElem?_eq_getElem h]
  rfl
theorem Pick.len_le {days starts ps : List Int} {gap : Int} {rows : List (List Int)} (P : Pick days starts gap ps rows) {i : Nat} (h : i < rows.length) : ((rows.getD i []).length : Int) ≤ days.getD i 0 := by
  rw [P.len_at h, choF_get h]
  exact Int.min_le_left _ _
theorem Pick.sums {days starts ps : List Int} {gap : Int} {rows : List (List Int)} (hp : ∀ p ∈ ps, 0 ≤ p ∧ p < starts.length) (P : Pick days starts gap ps rows) (l : rows.length = days.length) : ((List.range starts.length).map fun e : Nat => ((nightsOf rows e).length : Int)).sum = (chosen gap days starts ps).sum := by
  simp only [nights_len]
  rw [sum_nights P.nd (fun r hr e he => by
    obtain ⟨i, _, ei⟩ := mem_getD hr
    exact hp e (P.on i e (by rw [ei]; exact he)).1), P.ln, l]
  rfl
end VL

set_option maxRecDepth 100000
set_option maxHeartbeats 4000000
/-! # One after another: the mathematics -/
namespace VL
open GR
abbrev dN (days : List Int) : Nat → Int := fun k => days.getD k 0
/-- first choice of a group, night by night -/
def xF (gap : Int) (days starts ps : List Int) : Nat → Int := fcx gap.toNat (dN days) (hereN starts ps)
theorem xF_is (gap : Int) (days starts ps : List Int) : IsFC gap.toNat (dN days) (hereN starts ps) (xF gap days starts ps) := fcx_is _ _ _
theorem chosen_pre {gap : Int} {days starts ps : List Int} : (chosen gap days starts ps).sum = pre (xF gap days starts ps) days.length := by
  unfold chosen choF xF pre
  rw [fc_map]
def comN (starts : List Int) (p : Int) : Nat := (starts.getD p.toNat 0).toNat
theorem here_snoc {starts ps : List Int} {p : Int} (h : 0 ≤ starts.getD p.toNat 0) (k : Nat) : hereN starts (ps ++ [p]) k = hereN starts ps k + if comN starts p ≤ k + 1 then 1 else 0 := by
  unfold hereN comN
  rw [List.filter_append, List.length_append, List.filter_cons]
  by_cases c : starts.getD p.toNat 0 ≤ (k : Int) + 1
  · rw [if_pos (decide_eq_true c), if_pos (by omega)]; simp
  · rw [if_neg (by simpa using c), if_neg (by omega)]; simp
/-- the flags of the growth by p over the group ps -/
def flg (gap : Int) (days starts ps : List Int) (p : Int) : Nat → Int := grx gap.toNat (comN starts p) (dN days) (xF gap days starts ps)
theorem flg_is (gap : Int) (days starts ps : List Int) (p : Int) : IsGr gap.toNat (comN starts p) (dN days) (xF gap days starts ps) (flg gap days starts ps p) := grx_is _ _ _ _
theorem xF_snoc {gap : Int} {days starts ps : List Int} {p : Int} (h : 0 ≤ starts.getD p.toNat 0) (k : Nat) : xF gap days starts (ps ++ [p]) k = xF gap days starts ps k + flg gap days starts ps p k :=
  IsFC.uniq (xF_is gap days starts (ps ++ [p])) (grow_fc (xF_is gap days starts ps) (flg_is gap days starts ps p) (here_snoc h)) k
/-- the flags told by the room left -/
theorem gr_room {gap : Nat} {c : Nat} {d x r : Nat → Int} : ∀ {n : Nat}, (∀ k, k < n → r k = d k - x k) → gr gap c r (fun _ => 0) n = gr gap c d x n
  | 0, _ => rfl
  | n + 1, h => by
    unfold gr
    rw [gr_room (n := n) (fun k hk => h k (by omega))]
    have e : ((0 : Int) < r n) ↔ (x n < d n) := by rw [h n (by omega)]; omega
    simp only [e]
theorem grx_room {gap : Nat} {c : Nat} {d x r : Nat → Int} {n : Nat} (h : ∀ k, k < n → r k = d k - x k) {k : Nat} (hk : k < n) : grx gap c r (fun _ => 0) k = grx gap c d x k := by
  unfold grx
  rw [gr_room (n := k) (fun j hj => h j (by omega))]
  have e : ((0 : Int) < r k) ↔ (x k < d k) := by rw [h k hk]; omega
  simp only [e]
theorem ngh_congr {f g : Nat → Int} : ∀ {n : Nat}, (∀ k, k < n → f k = g k) → ngh f n = ngh g n
  | 0, _ => rfl
  | n + 1, h => by rw [ngh_succ, ngh_succ, ngh_congr (fun k hk => h k (by omega)), h n (by omega)]
theorem pre_congr {f g : Nat → Int} : ∀ {n : Nat}, (∀ k, k < n → f k = g k) → pre f n = pre g n
  | 0, _ => rfl
  | n + 1, h => by rw [pre_succ, pre_succ, pre_congr (fun k hk => h k (by omega)), h n (by omega)]
theorem pre_add (f g : Nat → Int) : ∀ n, pre (fun k => f k + g k) n = pre f n + pre g n
  | 0 => rfl
  | n + 1 => by rw [pre_succ, pre_succ, pre_succ, pre_add f g n]; omega
theorem chosen_snoc {gap : Int} {days starts ps : List Int} {p : Int} (h : 0 ≤ starts.getD p.toNat 0) : (chosen gap days starts (ps ++ [p])).sum = (chosen gap days starts ps).sum + pre (flg gap days starts ps p) days.length := by
  rw [chosen_pre, chosen_pre, ← pre_add]
  exact pre_congr fun k _ => xF_snoc h k
/-- e watches on night k + 1 when ps come one after another -/
def OnW (gap : Int) (days starts ps : List Int) (k : Nat) (e : Int) : Prop := ∃ s : Nat, s < ps.length ∧ ps.getD s 0 = e ∧ flg gap days starts (ps.take s) e k = 1
theorem take_snoc {ps : List Int} {t : Nat} (h : t < ps.length) : ps.take (t + 1) = ps.take t ++ [ps.getD t 0] := by
  rw [List.take_succ, List.getElem?_eq_getElem h, List.getD_eq_getElem?_getD, List.getElem?_eq_getElem h]; rfl
theorem getD_inj {ps : List Int} (h : ps.Nodup) {s t : Nat} (hs : s < ps.length) (ht : t < ps.length) (e : ps.getD s 0 = ps.getD t 0) : s = t := by
  rw [List.getD_eq_getElem?_getD, List.getD_eq_getElem?_getD, List.getElem?_eq_getElem hs, List.getElem?_eq_getElem ht] at e
  exact nd_inj h hs ht e
theorem getD_memI {ps : List Int} {t : Nat} (h : t < ps.length) : ps.getD t 0 ∈ ps := by
  rw [List.getD_eq_getElem?_getD, List.getElem?_eq_getElem h]; exact List.getElem_mem h
theorem on_take {gap : Int} {days starts ps : List Int} {t : Nat} (ht : t < ps.length) (k : Nat) (e : Int) : OnW gap days starts (ps.take (t + 1)) k e ↔ OnW gap days starts (ps.take t) k e ∨ (e = ps.getD t 0 ∧ flg gap days starts (ps.take t) e k = 1) := by
  have g1 : ∀ n s, s < n → (ps.take n).getD s 0 = ps.getD s 0 := fun n s h => by rw [List.getD_eq_getElem?_getD, List.getElem?_take, if_pos h, List.getD_eq_getElem?_getD]
  constructor
  · rintro ⟨s, a, b, c⟩
    rw [List.length_take] at a
    rw [g1 _ _ (by omega)] at b
    rw [List.take_take, show min s (t + 1) = s by omega] at c
    by_cases h : s = t
    · subst h; exact .inr ⟨b.symm, c⟩
    · exact .inl ⟨s, by rw [List.length_take]; omega, by rw [g1 _ _ (by omega)]; exact b, by rw [List.take_take, show min s t = s by omega]; exact c⟩
  · rintro (⟨s, a, b, c⟩ | ⟨b, c⟩)
    · rw [List.length_take] at a
      rw [g1 _ _ (by omega)] at b
      rw [List.take_take, show min s t = s by omega] at c
      exact ⟨s, by rw [List.length_take]; omega, by rw [g1 _ _ (by omega)]; exact b, by rw [List.take_take, show min s (t + 1) = s by omega]; exact c⟩
    · exact ⟨t, by rw [List.length_take]; omega, by rw [g1 _ _ (by omega)]; exact b.symm, by rw [List.take_take, show min t (t + 1) = t by omega]; exact c⟩
open Classical in
/-- how often e watches -/
noncomputable def cntW (W : Nat → Int → Prop) (n : Nat) (e : Int) : Int := (((List.range n).filter fun k => decide (W k e)).length : Nat)
open Classical in
theorem cnt_pre {W : Nat → Int → Prop} {e : Int} {f : Nat → Int} (hb : ∀ k, f k = 0 ∨ f k = 1) : ∀ {n : Nat}, (∀ k, k < n → (W k e ↔ f k = 1)) → cntW W n e = pre f n
  | 0, _ => rfl
  | n + 1, h => by
    have ih := cnt_pre (W := W) (e := e) (f := f) hb (n := n) (fun k hk => h k (by omega))
    unfold cntW at ih ⊢
    rw [pre_succ, ← ih, List.range_succ, List.filter_append, List.length_append, List.filter_cons]
    by_cases c : W n e
    · rw [if_pos (by exact decide_eq_true c), (h n (by omega)).mp c]; simp
    · have : f n = 0 := (hb n).resolve_right fun q => c ((h n (by omega)).mpr q)
      rw [if_neg (by exact fun q => c (of_decide_eq_true q)), this]; simp
theorem chosen_nil {gap : Int} {days starts : List Int} (hd : ∀ x ∈ days, 0 ≤ x) : (chosen gap days starts []).sum = 0 := by
  have e : ∀ k, k ≤ days.length → choF gap days (hereN starts []) k = List.replicate k 0 := fun k => by
    induction k with
    | zero => intro _; rfl
    | succ k ih =>
      intro hk
      rw [choF_succ, ih (by omega), List.drop_replicate, List.sum_replicate_int, List.replicate_succ']
      have d0 : 0 ≤ days.getD k 0 := by
        rw [List.getD_eq_getElem?_getD, List.getElem?_eq_getElem (by omega)]
        exact hd _ (List.getElem_mem _)
      have h0 : hereN starts [] k = 0 := rfl
      congr 2
      rw [h0]
      simp only [Int.mul_zero, Int.sub_zero, Int.zero_mul]
      omega
  unfold chosen
  rw [e _ (Nat.le_refl _)]
  simp
/-- what everybody of a prefix watches is first choice of it -/
theorem on_sum {gap : Int} {days starts ps : List Int} (hd : ∀ x ∈ days, 0 ≤ x) (hn : ps.Nodup) (hs : ∀ p ∈ ps, 0 ≤ starts.getD p.toNat 0) : ∀ m, m ≤ ps.length → ((ps.take m).map (cntW (OnW gap days starts ps) days.length)).sum = (chosen gap days starts (ps.take m)).sum
  | 0, _ => by rw [List.take_zero, chosen_nil hd]; rfl
  | m + 1, hm => by
    have hm' : m < ps.length := by omega
    rw [take_snoc hm', List.map_append, List.sum_append, on_sum hd hn hs m (by omega), chosen_snoc (hs _ (getD_memI hm'))]
    congr 1
    show cntW _ _ _ + 0 = _
    rw [Int.add_zero]
    refine cnt_pre (flg_is gap days starts (ps.take m) (ps.getD m 0)).bit fun k _ => ⟨?_, fun h => ⟨m, hm', rfl, h⟩⟩
    rintro ⟨s, a, b, c⟩
    have := getD_inj hn a hm' b
    subst this
    exact c
/-- persons and nights that fit -/
structure Fit (days starts : List Int) (gap : Int) (W : Nat → Int → Prop) : Prop where
  cap : ∀ k, k < days.length → ∀ S : List Int, S.Nodup → (∀ e ∈ S, W k e) → (S.length : Int) ≤ days.getD k 0
  st : ∀ k e, k < days.length → W k e → starts.getD e.toNat 0 ≤ (k : Int) + 1
  gp : ∀ k e, k < days.length → W k e → ∀ j : Nat, j < k → (k : Int) - j ≤ gap → ¬ W j e
open Classical in
theorem cnt_sum (W : Nat → Int → Prop) (grp : List Int) : ∀ n, (grp.map (cntW W n)).sum = pre (fun k => ((grp.filter fun e => decide (W k e)).length : Int)) n
  | 0 => by
    have : ∀ xs : List Int, (xs.map (cntW W 0)).sum = 0 := fun xs => by
      induction xs with
      | nil => rfl
      | cons x xs ih => rw [List.map_cons, List.sum_cons, ih]; rfl
    exact this grp
  | n + 1 => by
    rw [pre_succ, ← cnt_sum W grp n]
    induction grp with
    | nil => rfl
    | cons e grp ih =>
      rw [List.map_cons, List.sum_cons, List.map_cons, List.sum_cons, ih, List.filter_cons]
      have e1 : cntW W (n + 1) e = cntW W n e + if W n e then 1 else 0 := by
        unfold cntW
        rw [List.range_succ, List.filter_append, List.length_append, List.filter_cons]
        by_cases c : W n e
        · rw [if_pos (by exact decide_eq_true c), if_pos c]; simp
        · rw [if_neg (by exact fun q => c (of_decide_eq_true q)), if_neg c]; simp
      rw [e1]
      by_cases c : W n e
      · rw [if_pos c, if_pos (by exact decide_eq_true c), List.length_cons]; omega
      · rw [if_neg c, if_neg (by exact fun q => c (of_decide_eq_true q))]; omega
open Classical in
theorem Fit.le {days starts grp : List Int} {gap : Int} {W : Nat → Int → Prop} (F : Fit days starts gap W) (hg : 0 ≤ gap) (hn : grp.Nodup) : (grp.map (cntW W days.length)).sum ≤ (chosen gap days starts grp).sum := by
  rw [cnt_sum, chosen_pre]
  obtain ⟨y, ey⟩ : ∃ y : Nat → Int, y = fun k => ((grp.filter fun e => decide (W k e)).length : Int) := ⟨_, rfl⟩
  rw [← ey]
  have y1 : ∀ k, k < days.length → y k ≤ days.getD k 0 := fun k hk => by
    rw [ey]
    exact F.cap k hk _ (hn.filter _) fun e he => of_decide_eq_true (List.mem_filter.mp he).2
  have y2 : ∀ k, k < days.length → y k + win y gap.toNat k ≤ hereN starts grp k := fun k hk => by
    have h := filter_outs (A := grp.filter fun p => decide (starts.getD p.toNat 0 ≤ (k : Int) + 1)) (hn.filter _) (Bs := ((List.range (k + 1)).drop (k - gap.toNat)).map fun j => grp.filter fun e => decide (W j e))
      (fun B hB => by obtain ⟨j, _, rfl⟩ := List.mem_map.mp hB; exact hn.filter _)
      (fun B hB e he => by
        obtain ⟨j, hj, rfl⟩ := List.mem_map.mp hB
        have hj' := List.mem_range.mp (List.mem_of_mem_drop hj)
        have hm := List.mem_filter.mp he
        have := F.st j e (by omega) (of_decide_eq_true hm.2)
        exact List.mem_filter.mpr ⟨hm.1, decide_eq_true (by omega)⟩)
      (by
        rw [List.pairwise_map, List.pairwise_iff_getElem]
        intro i j hi hj hij e he hm
        rw [List.length_drop, List.length_range] at hi hj
        rw [List.getElem_drop, List.getElem_range] at he hm
        exact F.gp _ e (by omega) (of_decide_eq_true (List.mem_filter.mp he).2) _ (by omega) (by omega) (of_decide_eq_true (List.mem_filter.mp hm).2))
    have e3 : ((((List.range (k + 1)).drop (k - gap.toNat)).map fun j => grp.filter fun e => decide (W j e)).map List.length).sum = y k + win y gap.toNat k := by
      unfold win
      rw [List.map_map, List.range_succ, List.drop_append_of_le_length (by rw [List.length_range]; omega), List.map_append, List.sum_append, ← List.map_drop]
      have e4 : ∀ xs : List Nat, (((xs.map (List.length ∘ fun j => grp.filter fun e => decide (W j e))).sum : Nat) : Int) = (xs.map y).sum := fun xs => by
        induction xs with
        | nil => rfl
        | cons x xs ih => rw [List.map_cons, List.sum_cons, List.map_cons, List.sum_cons, ← ih, ey]; simp
      rw [Int.natCast_add, e4, e4]
      show _ + (y k + 0) = _
      omega
    unfold hereN
    omega
  have key : ∀ m, m ≤ days.length → pre y m ≤ pre (xF gap days starts grp) m := fun m => by
    induction m using Nat.strongRecOn with
    | _ m ih =>
      intro hm
      cases m with
      | zero => exact Int.le_refl _
      | succ k =>
        rw [pre_succ, pre_succ]
        have hx := xF_is gap days starts grp k
        have i1 := ih k (by omega) (by omega)
        have i2 := ih (k - gap.toNat) (by omega) (by omega)
        have w1 := win_pre (xF gap days starts grp) gap.toNat k
        have w2 := win_pre y gap.toNat k
        have a1 := y1 k (by omega)
        have a2 := y2 k (by omega)
        split at hx
        · omega
        · show _ ≤ pre (xF gap days starts grp) k + xF gap days starts grp k
          have : dN days k = days.getD k 0 := rfl
          omega
  exact key _ (Nat.le_refl _)
/-- rows that fit -/
theorem fit_rows {days starts : List Int} {gap : Int} {rows : List (List Int)} (hn : ∀ r ∈ rows, r.Nodup) (hl : ∀ k : Nat, k < days.length → ((rows.getD k []).length : Int) ≤ days.getD k 0)
    (h : ∀ i (e : Int), e ∈ rows.getD i [] → starts.getD e.toNat 0 ≤ (i : Int) + 1 ∧ ∀ j : Nat, j < i → (i : Int) - j ≤ gap → e ∉ rows.getD j []) : Fit days starts gap (fun k e => e ∈ rows.getD k []) where
  cap := fun k hk S hS hm => by
    have h1 := hl k hk
    by_cases c : k < rows.length
    · have h2 : (rows.getD k []).Nodup := hn _ (by rw [List.getD_eq_getElem?_getD, List.getElem?_eq_getElem c]; exact List.getElem_mem c)
      have := filter_out h2 hS hm
      omega
    · have e : rows.getD k [] = [] := by rw [List.getD_eq_getElem?_getD, List.getElem?_eq_none (by omega)]; rfl
      rw [e] at h1
      cases S with
      | nil => exact h1
      | cons x S =>
        have := hm x (List.mem_cons_self ..)
        rw [e] at this; cases this
  st := fun k e _ he => (h k e he).1
  gp := fun k e _ he => (h k e he).2
theorem xF_nil {gap : Int} {days starts : List Int} (hd : ∀ x ∈ days, 0 ≤ x) {k : Nat} (hk : k < days.length) : xF gap days starts [] k = 0 := by
  have hx := xF_is gap days starts [] 
  have d0 : ∀ j, j < days.length → 0 ≤ dN days j := fun j hj => by
    show 0 ≤ days.getD j 0
    rw [List.getD_eq_getElem?_getD, List.getElem?_eq_getElem hj]
    exact hd _ (List.getElem_mem _)
  have key : ∀ m, m ≤ days.length → ∀ j, j < m → xF gap days starts [] j = 0 := fun m => by
    induction m with
    | zero => intro _ j hj; omega
    | succ m ih =>
      intro hm j hj
      by_cases c : j < m
      · exact ih (by omega) j c
      · have hj' : j = m := by omega
        subst hj'
        have w : win (xF gap days starts []) gap.toNat j = 0 := by
          rw [win_congr (g := fun _ => 0) (fun i hi => ih (by omega) i hi)]
          have p : ∀ n, pre (fun _ => (0 : Int)) n = 0 := fun n => by
            induction n with
            | zero => rfl
            | succ n ihn => rw [pre_succ, ihn]; rfl
          rw [win_pre, p, p]; rfl
        have hh := hx j
        rw [w] at hh
        have h0 : hereN starts [] j = 0 := rfl
        rw [h0] at hh
        have := d0 j (by omega)
        rw [hh]
        split <;> omega
  exact key days.length (Nat.le_refl _) k hk
theorem fit_on {days starts ps : List Int} {gap : Int} (hg : 0 ≤ gap) (hd : ∀ x ∈ days, 0 ≤ x) (hn : ps.Nodup) (hs : ∀ p ∈ ps, 0 ≤ starts.getD p.toNat 0) : Fit days starts gap (OnW gap days starts ps) where
  cap := fun k hk => by
    have key : ∀ t, t ≤ ps.length → ∀ S : List Int, S.Nodup → (∀ e ∈ S, OnW gap days starts (ps.take t) k e) → (S.length : Int) ≤ xF gap days starts (ps.take t) k := fun t => by
      induction t with
      | zero =>
        intro _ S _ hm
        cases S with
        | nil => rw [List.take_zero, xF_nil hd hk]; exact Int.le_refl _
        | cons x S =>
          obtain ⟨s, a, _⟩ := hm x (List.mem_cons_self ..)
          simp at a
      | succ t ih =>
        intro ht S hS hm
        have ht' : t < ps.length := by omega
        rw [take_snoc ht', xF_snoc (hs _ (getD_memI ht'))]
        have nn := (flg_is gap days starts (ps.take t) (ps.getD t 0)).nn k
        by_cases c : ps.getD t 0 ∈ S
        · have f1 : flg gap days starts (ps.take t) (ps.getD t 0) k = 1 := by
            rcases (on_take ht' k _).mp (hm _ c) with ⟨s, a, b, _⟩ | ⟨_, f⟩
            · rw [List.length_take] at a
              rw [List.getD_eq_getElem?_getD, List.getElem?_take, if_pos (by omega), ← List.getD_eq_getElem?_getD] at b
              have := getD_inj hn (by omega) ht' b
              omega
            · exact f
          have h1 := filter_out (X := S) (B := [ps.getD t 0]) hS (by simp) (fun e he => by rw [List.mem_singleton.mp he]; exact c)
          have h2 := ih (by omega) (S.filter fun p => decide (p ∉ [ps.getD t 0])) (hS.filter _) (fun e he => by
            obtain ⟨a, b⟩ := List.mem_filter.mp he
            have b := of_decide_eq_true b
            exact ((on_take ht' k e).mp (hm e a)).resolve_right fun q => b (List.mem_singleton.mpr q.1))
          have : [ps.getD t 0].length = 1 := rfl
          omega
        · have h2 := ih (by omega) S hS (fun e he => ((on_take ht' k e).mp (hm e he)).resolve_right fun q => c (by rw [← q.1]; exact he))
          omega
    intro S hS hm
    have h1 := key ps.length (Nat.le_refl _) S hS (by rw [List.take_length]; exact hm)
    rw [List.take_length] at h1
    have h2 := xF_is gap days starts ps k
    have h3 : xF gap days starts ps k ≤ dN days k := by rw [h2]; split <;> omega
    exact Int.le_trans h1 h3
  st := fun k e _ ⟨s, a, b, c⟩ => by
    have h := flg_is gap days starts (ps.take s) e k
    rw [c] at h
    have hc : comN starts e ≤ k + 1 := by
      by_cases q : comN starts e ≤ k + 1 ∧ xF gap days starts (ps.take s) k < dN days k ∧ win (flg gap days starts (ps.take s) e) gap.toNat k = 0
      · exact q.1
      · rw [if_neg q] at h; omega
    have := hs e (by rw [← b]; exact getD_memI a)
    unfold comN at hc
    omega
  gp := fun k e _ ⟨s, a, b, c⟩ j hj hgj ⟨s', a', b', c'⟩ => by
    have es := getD_inj hn a a' (b.trans b'.symm)
    subst es
    have G := flg_is gap days starts (ps.take s) e
    have h := G k
    rw [c] at h
    have hw : win (flg gap days starts (ps.take s) e) gap.toNat k = 0 := by
      by_cases q : comN starts e ≤ k + 1 ∧ xF gap days starts (ps.take s) k < dN days k ∧ win (flg gap days starts (ps.take s) e) gap.toNat k = 0
      · exact q.2.2
      · rw [if_neg q] at h; omega
    have := (near_win G.bit).mp hw ((j : Int) + 1) (ngh_mem.mpr ⟨j, hj, c', rfl⟩)
    omega
end VL

set_option maxRecDepth 100000
set_option maxHeartbeats 8000000
namespace K14v
open PySem PySem.Spec PyProof.Rows L2 VL K14
section
variable {w : World} {K : PySem.W.Frag} {mg : Str → Option Value} {base : Heap}
theorem atI_last {xs : List Tr} {x : Tr} : L2.atI (xs ++ [x]) (-1) = some x := by
  unfold L2.atI ixN
  rw [if_neg (by decide), if_pos (by rw [List.length_append]; show -((_ + 1 : Nat) : Int) ≤ -1; omega)]
  show (xs ++ [x])[(-1 + (((xs ++ [x]).length : Nat) : Int)).toNat]? = some x
  rw [show (-1 + (((xs ++ [x]).length : Nat) : Int)).toNat = xs.length by rw [List.length_append]; show (-1 + ((xs.length + 1 : Nat) : Int)).toNat = _; omega, List.getElem?_concat_length]
/-- the nights with room of p -/
def nwL (gap : Int) (n : Nat) (starts rm : List Int) (p : Int) : List Int := GR.ngh (GR.grx gap.toNat (comN starts p) (dN rm) (fun _ => 0)) n
theorem tru_nil {k : Nat} {z : Z} {Q : Bool → Prop} (h : vw (.c k) z = some (.lst [])) (q : Q false) : ∃ b, truS (.c k) z b ∧ Q b := ⟨false, .inl ⟨[], .inl h, rfl⟩, q⟩
theorem tru_snoc {k : Nat} {z : Z} {ts : List Tr} {t : Tr} {Q : Bool → Prop} (h : vw (.c k) z = some (.lst (ts ++ [t]))) (q : Q true) : ∃ b, truS (.c k) z b ∧ Q b := ⟨true, .inl ⟨_, .inl h, by cases ts <;> rfl⟩, q⟩
local macro_rules | `(tactic| kp_flats) => `(tactic| ((with_reducible apply tru_snoc); exact rfl))
local macro_rules | `(tactic| kp_flats) => `(tactic| ((with_reducible refine tru_nil ?_ ?_); exact rfl))
local macro_rules | `(tactic| keq_hits) => `(tactic| exact atI_last)
def pRoomN (K : PySem.W.Frag) : Pv := fun ts PP _ => ∃ (days starts : List Int) (gap : Int) (rm : List Int) (p : Int), ts = [hT K days starts gap, trLI rm, trI p] ∧ days.length ≤ 60 ∧ rm.length = days.length ∧ 0 ≤ gap ∧ 0 ≤ p ∧ p < starts.length ∧ 1 ≤ starts.getD p.toNat 0 ∧ starts.getD p.toNat 0 ≤ (days.length : Int) + 1 ∧ PP (.l ((nwL gap days.length starts rm p).map trI))
theorem ok_nights_with_room (T : Tx K mg) : Ok PG w K mg base CX0 6 (a_nights_with_room K) p_nights_with_room (spV K (pRoomN K)) := by
  refine Ok.of 5 T.f_nights_with_room sc_nights_with_room bi_nights_with_room (by decide) (fun vs H Q E h => ?_) (fun cdv A outer s H vs Q E hr h => ?_)
  · obtain ⟨_, _, _, _, _, rq, ⟨_, _, _, _, _, rfl, _⟩, _⟩ := h
    exact rq.1
  · have T0 := T
    have fc_House := T.cHouse
    have fn_House_comings := T.nHouse_comings
    have fn_House_rest := T.nHouse_rest
    have mt3 : Mt 3 := trivial
    have nd := sc_nights_with_room.nd
    refine ⟨_, pss_cons (ps_set (i := 3) nd rfl (.inl rfl) (pe_lst pa_nil))
      (pss_cons (ps_for (passX rfl) rfl (pi_range2 rfl T.m_range (pa_cons (pe_ix (k_ix_tup K rfl) (k_pe_fld K rfl (pv 0) rfl) (pv 2) (fun _ _ => rfl)) (pa_cons (pe_op op_add (pprop (ok_House_nights T) (pv 0) T.cHouse T.wHouse_nights hr pass0) pe_int) pa_nil))) (pg_name (i := 4) nd rfl (.inl rfl))
        (pss_cons (ps_set (i := 5) nd rfl (.inl rfl) (pe_or (k_pe_notT K rfl (pv 3)) (pe_one (pe_cmpR op_gt (pe_op op_sub (pv 4) (pe_ix (k_ix_list K rfl) (pv 3) (pe_un un_neg pe_int) (fun _ _ => rfl))) (k_pe_fld K rfl (pv 0) rfl) (nomark _)))))
          (pss_one (ps_if (PW.pt (pw_and (pt_val (pv 5)) (pw_and1 (pt_cmpR op_gt (pe_ix (k_ix_list K rfl) (pv 1) (pe_op op_sub (pv 4) pe_int) (fun _ _ => rfl)) pe_int (nomark _))))) (pss_one (ps_expr (pe_bm PySem.F.plainAttrs_list PySem.F.slot_list_append PySem.F.type_list_append mt_append (pv 3) (pa_cons (pv 4) pa_nil)))) pss_nil))))
      (pss_one (ps_ret (pv 3)))), ?_⟩
    try dsimp only [cxOf]
    refine run_V0 (by repeat' kbo_bools) h fun ts PP G hp _ => ?_
    obtain ⟨days, starts, gap, rm, p, rfl, ld, lr, g0, p0, p1, c0, c1, q⟩ := hp
    have se : ∀ t0 t1 t2 : Tr, startE n_nights_with_room [t0, t1, t2] = [some (.p t0), some (.p t1), some (.p t2), none, none, none] := fun _ _ _ => rfl
    rw [se]; clear se h hr
    obtain ⟨c, ec⟩ : ∃ c : Nat, c = comN starts p := ⟨_, rfl⟩
    have ec2 : starts.getD p.toNat 0 = (c : Int) := by rw [ec]; unfold comN; omega
    obtain ⟨f, ef⟩ : ∃ f, f = GR.grx gap.toNat (comN starts p) (dN rm) (fun _ => 0) := ⟨_, rfl⟩
    have G : GR.IsGr gap.toNat c (dN rm) (fun _ => 0) f := by rw [ef, ec]; exact GR.grx_is _ _ _ _
    unfold nwL at q
    rw [← ef] at q
    rw [ec2] at c0 c1
    keq_rows
    rw [ec2]
    refine forR c (days.length + 1 - c) (by congr 2; omega) (fun i z => ∃ L : List Tr, z = ⟨[some (.p (hT K days starts gap)), some (.p (trLI rm)), some (.p (trI p)), some (.c 0), none, none], [.lst L]⟩ ∧ L = (GR.ngh f (c - 1 + i)).map trI) (wkM (by kx_w2) ⟨_, rfl, ?_⟩) (fun i z hi hz => ?_) (fun z hz => ?_)
    · have nn : GR.ngh f (c - 1 + 0) = [] := by
        rw [Nat.add_zero]
        have h1 := GR.ngh_len G.bit (c - 1)
        rw [G.early (by omega)] at h1
        exact List.length_eq_zero_iff.mp (by omega)
      rw [nn]; rfl
    · obtain ⟨_, rfl, rfl⟩ := hz
      have hk : c - 1 + i < days.length := by omega
      have nl := GR.ngh_le f (c - 1 + i)
      have nlast := GR.near_last G.bit (gap := gap.toNat) (k := c - 1 + i)
      have nsucc := GR.ngh_succ f (c - 1 + i)
      have fk := G (c - 1 + i)
      have ek : ((c : Int) + (i : Nat) - 1).toNat = c - 1 + i := by omega
      have en : (c : Int) + (i : Nat) = ((c - 1 + i : Nat) : Int) + 1 := by omega
      have fin : ∀ b : Bool, (b = true ↔ (0 < dN rm (c - 1 + i) ∧ GR.win f gap.toNat (c - 1 + i) = 0)) → GR.ngh f (c - 1 + (i + 1)) = GR.ngh f (c - 1 + i) ++ if b then [(c : Int) + (i : Nat)] else [] := fun b hb => by
        rw [show c - 1 + (i + 1) = c - 1 + i + 1 by omega, nsucc, en]
        congr 1
        by_cases h : b = true
        · rw [if_pos h, if_pos]
          rw [fk, if_pos ⟨by omega, hb.mp h⟩]
        · rw [if_neg h, if_neg]
          rw [fk, if_neg (fun q => h (hb.mpr q.2))]
          decide
      rcases List.eq_nil_or_concat (GR.ngh f (c - 1 + i)) with e0 | ⟨as, l, e0⟩
      · rw [e0]
        have hw := nlast.mpr (.inl e0)
        show _
        keq_rows
        · rename_i hr
          rw [ek] at hr
          refine wkM (by kx_w2) ⟨_, rfl, ?_⟩
          rw [fin true ⟨fun _ => ⟨hr, hw⟩, fun _ => rfl⟩, e0]
          rfl
        · rename_i hr
          rw [ek] at hr
          refine wkM (by kx_w2) ⟨_, rfl, ?_⟩
          rw [fin false ⟨fun h => (by cases h), fun h => absurd h.1 hr⟩, e0]
          rfl
      · have hl : ∀ l' : Int, (GR.ngh f (c - 1 + i))[(GR.ngh f (c - 1 + i)).length - 1]? = some l' → l' = l := fun l' h => by
          rw [e0, List.concat_eq_append, List.length_append] at h
          rw [show as.length + [l].length - 1 = as.length from rfl, List.getElem?_concat_length] at h
          cases h; rfl
        have hw : GR.win f gap.toNat (c - 1 + i) = 0 ↔ gap < (c : Int) + (i : Nat) - l := by
          rw [nlast]
          constructor
          · rintro (h | h)
            · rw [e0, List.concat_eq_append] at h; simp at h
            · have := h l (by rw [e0, List.concat_eq_append, List.length_append, show as.length + [l].length - 1 = as.length from rfl, List.getElem?_concat_length])
              omega
          · intro h
            exact .inr fun l' hl' => by rw [hl l' hl']; omega
        have eL : List.map trI (GR.ngh f (c - 1 + i)) = as.map trI ++ [trI l] := by rw [e0, List.concat_eq_append, List.map_append]; rfl
        rw [eL]
        have la : (as.map trI ++ [trI l]).length ≤ 60 := by rw [← eL, List.length_map]; omega
        keq_rows
        · rename_i hg hr
          rw [ek] at hr
          refine wkM (by kx_w2) ⟨_, rfl, ?_⟩
          rw [fin true ⟨fun _ => ⟨hr, hw.mpr hg⟩, fun _ => rfl⟩, List.map_append, eL]
          rfl
        · rename_i hg hr
          rw [ek] at hr
          refine wkM (by kx_w2) ⟨_, rfl, ?_⟩
          rw [fin false ⟨fun h => (by cases h), fun h => absurd h.1 hr⟩, List.map_append, eL]
          exact (List.append_nil _).symm
        · rename_i hg
          refine wkM (by kx_w2) ⟨_, rfl, ?_⟩
          rw [fin false ⟨fun h => (by cases h), fun h => absurd (hw.mp h.2) hg⟩, List.map_append, eL]
          exact (List.append_nil _).symm
    · obtain ⟨_, rfl, rfl⟩ := hz
      have nl := GR.ngh_le f (c - 1 + (days.length + 1 - c))
      keq_rows
      rw [show c - 1 + (days.length + 1 - c) = days.length by omega]
      exact q
end
end K14v

set_option maxRecDepth 100000
set_option maxHeartbeats 8000000
namespace K14v
open PySem PySem.Spec PyProof.Rows L2 VL K14
section
variable {w : World} {K : PySem.W.Frag} {mg : Str → Option Value} {base : Heap}
/-- how often each person watches -/
def countsI (rows : List (List Int)) (n : Nat) : List Int := (List.range n).map fun e : Nat => ((nightsOf rows e).length : Int)
abbrev trLL (rows : List (List Int)) : Tr := .lst (rows.map trLI)
def pLawCounts : Pv := fun ts PP _ => ∃ (rows : List (List Int)) (n : Int), ts = [trLL rows, trI n] ∧ rows.length ≤ 1000 ∧ 0 ≤ n ∧ n ≤ 1000 ∧ PP (.l ((countsI rows n.toNat).map trI))
theorem ok_law_counts (T : Tx K mg) : Ok PG w K mg base CX0 2 (a_law_counts K) p_law_counts (spV K (pLawCounts)) := by
  refine Ok.of 1 T.f_law_counts sc_law_counts bi_law_counts (by decide) (fun vs H Q E h => ?_) (fun cdv A outer s H vs Q E hr h => ?_)
  · obtain ⟨_, _, _, _, _, rq, ⟨_, _, rfl, _⟩, _⟩ := h
    exact rq.1
  · have T0 := T
    have nd := sc_law_counts.nd
    refine ⟨_, pss_one (ps_ret (pe_lc (own := [("person", 2)]) (g := gName 2) (tt := tYes) rfl nd (pi_range1 rfl T.m_range (pa_cons (pv 1) pa_nil)) (blkOk_by (N := n_law_counts) (sc := defScope s_law_counts) (by decide +kernel)) (fun _ _ _ _ _ => pg_name (i := 2) nd rfl (Or.inr rfl)) (fun _ _ _ _ _ => pts_nil) (fun _ _ _ _ _ => pe_callB (r := rLenQ K) (k_call_len_seq K rfl) (by rfl) T.m_len PySem.boot_len (pa_cons (pe_lc (own := [("night", 3)]) (g := gName 3) rfl nd (pi_range1 rfl T.m_range (pa_cons (pe_callB (r := rLenQ K) (k_call_len_seq K rfl) (by rfl) T.m_len PySem.boot_len (pa_cons (pv 0) pa_nil)) pa_nil)) (blkOk_by (N := n_law_counts) (by kernel_rfl)) (fun _ _ _ _ _ => pg_name (i := 3) nd rfl (Or.inl rfl)) (fun _ _ _ _ _ => pts_one (pt_cmpR (k_op_in_seq K rfl) (pv 2) (pe_ix (r := rIxL K) (ta := tVar 0) (tb := tVar 3) (k_ix_list K rfl) (pv 0) (pv 3) (fun _ _ => rfl)) (by rfl))) (fun _ _ _ _ _ => pv 3)) pa_nil)))), ?_⟩
    try dsimp only [cxOf]
    refine run_V0 (by repeat' kbo_bools) h fun ts PP G hp _ => ?_
    obtain ⟨rows, n, rfl, lr, n0, n1, q⟩ := hp
    have se : ∀ t0 t1 : Tr, startE n_law_counts [t0, t1] = [some (.p t0), some (.p t1), none, none] := fun _ _ => rfl
    rw [se]; clear se h hr
    have ln : (List.range n.toNat).length = n.toNat := List.length_range
    have lrr : (List.range rows.length).length = rows.length := List.length_range
    keq_rows
    refine lc_map (List.range n.toNat) _ (fun e => trI ((nightsOf rows (e : Nat)).length : Nat)) rfl (sidL (by omega)) (fun e he acc Kp Ks hk => ?_) ?_
    · keq_rows
      refine lc_detP (List.range rows.length) _ (fun i => (e : Int) ∈ rows.getD i []) (fun i => trI (i : Nat)) rfl (sidL (by omega)) (fun i hi acc Kp Ks hk hs => ?_) ?_
      · have hi := List.mem_range.mp hi
        keq_rows
        · exact hk (by assumption)
        · exact hs (by assumption)
      · keq_rows
        rw [nightsOf, List.length_map] at hk
        exact hk
    · keq_rows
      unfold countsI at q
      rw [List.map_map] at q
      exact q
def pLawWorld : Pd := fun ts PP => ∃ (a b c : Int), ts = [trI a, trI b, trI c] ∧ 0 < a ∧ a ≤ 60 ∧ 0 < b ∧ b ≤ 30 ∧ 0 ≤ c ∧ c ≤ 60 ∧ ∀ (starts : List Int) (gap : Int) (rows : List (List Int)), starts.length ≤ 30 → rows.length ≤ 60 → 0 ≤ gap → gap ≤ 60 → (∀ x ∈ starts, 1 ≤ x ∧ x ≤ rows.length + 1) → RowsOk starts gap rows → (∀ r ∈ rows, r.Pairwise (· < ·) ∧ r.length ≤ starts.length) →
  PP (.l [trLI (rows.map fun r => (r.length : Int)), trLI starts, trI gap, trLI (countsI rows starts.length), trLL rows])
theorem ok_law_world (T : Tx K mg) : Ok PG w K mg base CX0 4 (a_law_world K) p_law_world (spD K (pLawWorld)) := by
  refine Ok.of 3 T.f_law_world sc_law_world bi_law_world (by decide) (fun vs H Q E h => ?_) (fun cdv A outer s H vs Q E hr h => ?_)
  · obtain ⟨_, _, _, _, _, _, rfl, _, _, _, _, rq, ⟨_, _, _, rfl, _⟩, _⟩ := h
    exact congrArg Nat.succ rq.1
  · have T0 := T
    have nd := sc_law_world.nd
    refine ⟨_, pss_cons (ps_set (i := 4) nd rfl (.inl rfl) (pc (ok_law_size T) hr T.g_law_size pass0 (pa_cons (pv 0) (pa_cons (pv 1) pa_nil))))
      (pss_cons (ps_set (i := 5) nd rfl (.inl rfl) (pc (ok_law_size T) hr T.g_law_size pass0 (pa_cons (pv 0) (pa_cons (pv 2) pa_nil))))
      (pss_cons (ps_set (i := 6) nd rfl (.inl rfl) (pc (ok_law_draw T) (hr.mono (by decide)) T.g_law_draw pass0 (pa_cons (pv 0) (pa_cons (pe_op op_add (pv 3) pe_int) pa_nil))))
      (pss_cons (ps_set (i := 7) nd rfl (.inl rfl) (pc (ok_law_comings T) hr T.g_law_comings pass0 (pa_cons (pv 0) (pa_cons (pv 5) (pa_cons (pv 4) pa_nil)))))
      (pss_cons (ps_set (i := 8) nd rfl (.inl rfl) (pc (ok_law_rows T) hr T.g_law_rows pass0 (pa_cons (pv 0) (pa_cons (pv 4) (pa_cons (pv 7) (pa_cons (pv 6) (pa_cons (pe_op op_add pe_int (pc (ok_law_draw T) (hr.mono (by decide)) T.g_law_draw pass0 (pa_cons (pv 0) (pa_cons pe_int pa_nil)))) pa_nil)))))))
      (pss_cons (ps_setLc (i := 9) (own := [("row", 10)]) (g := gName 10) (tt := tYes) rfl nd rfl rfl (sw_true rfl rfl rfl (by decide +kernel)) (k_pi_list K rfl (pv 8)) (blkOk_by (N := n_law_world) (sc := defScope s_law_world) (by decide +kernel)) (fun _ _ _ _ _ => pg_name (i := 10) nd rfl (Or.inl rfl)) (fun _ _ _ _ _ => pts_nil) (fun _ _ _ _ _ => pe_callB (r := rLenQ K) (k_call_len_seq K rfl) (by rfl) T.m_len PySem.boot_len (pa_cons (pv 10) pa_nil)))
      (pss_one (ps_ret (pe_lst (pa_cons (pv 9) (pa_cons (pv 7) (pa_cons (pv 6) (pa_cons (pc (ok_law_counts T) (hr.mono (by decide)) T.g_law_counts pass0 (pa_cons (pv 8) (pa_cons (pv 5) pa_nil))) (pa_cons (pv 8) pa_nil))))))))))))), ?_⟩
    try dsimp only [cxOf]
    refine run_D2 (E := E0) (by decide) (by repeat' kbo_bools) h fun ts PP hp _ => ?_
    obtain ⟨a, b, c, rfl, a0, a1, b0, b1, c0, c1, hp⟩ := hp
    have se : ∀ t0 t1 t2 : Tr, startE n_law_world.tail [t0, t1, t2] = [some (.p t0), some (.p t1), some (.p t2), none, none, none, none, none, none, none] := fun _ _ _ => rfl
    rw [se]; clear se h hr
    keq_rows
    rename_i n hn1 hn2 m hm1 hm2 gap hg1 hg2 starts hs1 hs2 k hk1 hk2 rows hr1 hr2 hr3
    refine lc_map rows trLI (fun r => trI (r.length : Nat)) rfl (sidL (by omega)) (fun r hr acc Kp Ks hk => ?_) ?_
    · keq_rows
      exact hk
    · keq_rows
      have := hp starts gap rows (by omega) (by omega) (by omega) (by omega) (by rw [hr1]; intro x hx; have := hs2 x hx; omega) hr2 hr3
      rw [show trLI (rows.map fun r => (r.length : Int)) = .lst (rows.map fun r => trI (r.length : Nat)) by show Tr.lst (List.map trI (List.map _ rows)) = _; rw [List.map_map]; rfl, hs1] at this
      exact this
end
end K14v

set_option maxRecDepth 100000
set_option maxHeartbeats 4000000
/-! # list(a), a an own instance whose __iter__ says: return iter(self.field), the field a tuple, and that has a __len__ -/
namespace L2
open PySem PySem.Spec PyProof.Rows PySem.W
section
variable {X : Cx} {CX : CXT} {C f g : Addr} {ps : List Str} {sp : Sp} {k : Nat} {pins : List (Addr × Obj)} {σ : St} {H : Hp} {s : Shared} {a dx : Addr} {fs : List (Str × V)}
theorem hint_own {A : Around} {E : Value → Shared → Prop} {Q : Bool → Shared → Prop} {n : Nat} (O : Ok X.prog X.w X.K X.mg X.base CX0 k g ps sp) (W : findIn X.K (.ref C) "__len__" = some (some (.ref g)) ∧ isFn X.K (.ref g) = true) (hr : Room k A.in1)
    (e0 : Env0 X.prog X.w X.K X.mg X.base A.in1 X.stack s H) (I : Inv X pins σ H s) (ha : H a = some (.ins C dx fs)) (hsp : sp [.ref a] H (fun v H' => v = .int (n : Nat) ∧ H' = H) (fun _ _ _ => False)) (hn : n ≤ 2 ^ 24)
    (hQ : ∀ s', Inv X pins σ H s' → Q ((n : Int) != 0) s') : wpAny (model X.prog X.w) A (Builtin.List.listLengthHint (.ref a)) Q E s := by
  obtain ⟨fd, F, hb, _⟩ := O.ex
  obtain ⟨od, J⟩ := inst_of I.hok ha
  obtain ⟨m, hF⟩ := I.fr
  have Xh := I.kIn
  unfold Builtin.List.listLengthHint
  refine wpAny_bind (wpAny_bind (J.type.here ((looks_findIn Xh W.1).here ?_)))
  refine wpAny_ite_split (fun hab => Bool.noConfusion hab) (fun _ => ?_)
  refine wpAny_ite_split (fun _ => ?_) (fun hab => absurd rfl hab)
  refine wpAny_bind (wpAny_rule ?_)
  have I' : Inv (X.wish fun e s' => False) pins σ H s := I.wish _
  refine wpAny_bind (wpAny_attempt (PySem.W.len_K hF I.ok.mod.kin J W.1 W.2 (wpAny_mono (run_fnA (X := X.wish fun e s' => False) F hb hr e0 (E := fun _ _ _ => False) pass0 I' (us := [.ref a]) (vs := [.ref a]) (.cons rfl .nil) hsp) (fun v s' q => ?_) fun _ _ z => z.elim)))
  obtain ⟨x, H', I2, rx, rfl, rfl⟩ := q
  obtain ⟨t, rfl⟩ := rx
  refine ⟨⟨by omega, by omega⟩, ?_⟩
  have htl : Builtin.List.listTooLong ((n : Int).toNat) = false := by simp [Builtin.List.listTooLong, sizeLine]; omega
  refine wpAny_bind (m := asInt? _) (wpAny_pure ?_)
  exact wpAny_ite_split (fun hab => absurd hab (by rw [htl]; decide)) (fun _ => wpAny_pure (hQ _ (I2.unwish.tok _)))
theorem extend_own {R : Result → Shared → Prop} {fld : Str} {t S : Addr} {xs : List V} {n : Nat} (hc : X.calm = true) (Oi : OwnIt X.K X.mg C f fld) (O : Ok X.prog X.w X.K X.mg X.base CX0 k g ps sp) (W : findIn X.K (.ref C) "__len__" = some (some (.ref g)) ∧ isFn X.K (.ref g) = true)
    (hri : Room k X.A.in1.in1) (hr : Room k X.A.in1.in1.in1) (I : Inv X pins σ H s) (ha : H a = some (.ins C dx fs)) (hl : fs.lookup fld = some (.ref t)) (hx : SqT X.K H t xs)
    (hsp : sp [.ref a] H (fun v H' => v = .int (n : Nat) ∧ H' = H) (fun _ _ _ => False)) (hn : n ≤ 2 ^ 24) (res : Value) (c₀ : Nat) (hS : s.heap.get? S = some { cls := .type "list", data := .seq #[] c₀ }) (hfS : FpOk X pins H S)
    (hR : ∀ s', Inv X pins σ (upd H S (.lst xs)) s' → R (.ok (.ret res)) s') :
    wpAny (model X.prog X.w) X.A.in1.in1 (Builtin.List.listExtendWith (.ref S) (.ref a) res)
      (fun fin s' => match fin with | .done f => R (.ok f) s' | .again c' => c'.quiet = true ∧ codeAny (model X.prog X.w) X.A.in1 c' R s') (fun e s' => R (.error e) s') s := by
  obtain ⟨od, J⟩ := inst_of I.hok ha
  have hSa : S ≠ a := fun e => by rw [e] at hfS; rw [hfS.1] at ha; cases ha
  unfold Builtin.List.listExtendWith
  refine wpAny_bind (J.type.here ?_)
  have h1 : Builtin.List.listSameRef (.ref S) (.ref a) = false := by simp [Builtin.List.listSameRef, hSa]
  have h2 : (Value.ref C == Value.type "list") = false := rfl
  have h3 : (Value.ref C == Value.type "tuple") = false := rfl
  simp only [h1, h2, h3, Bool.or_false, Bool.false_eq_true, if_false]
  refine wpAny_bind (own_iterA Oi hri I ha hl hx fun h1 tk1 it hk1 hit1 ho1 => ?_)
  have I1 : Inv X pins σ H { s with heap := h1, toks := tk1 } := I.kept (t' := tk1) hk1
  have hfI : FpOk X pins H it := I.fpOk hit1 (I.hok.fresh hit1)
  have hS1 := hk1 _ _ hS
  have hSI : S ≠ it := fun e => by
    rw [e, ho1] at hS1
    exact absurd (show Value.type "tuple_iterator" = Value.type "list" from congrArg Obj.cls (Option.some.inj hS1)) (by decide)
  have IP := I1.pinned (fp := [S, it]) (fun b hb => by
    rcases List.mem_cons.mp hb with rfl | hb
    · exact hfS
    · rw [List.mem_singleton.mp hb]; exact hfI) (fun b hb => by
    rcases List.mem_cons.mp hb with rfl | hb
    · exact ⟨_, hS1, fun v e => by cases e⟩
    · rw [List.mem_singleton.mp hb]; exact ⟨_, ho1, fun v e => by cases e⟩)
  have inS : (S, ({ cls := .type "list", data := .seq #[] c₀ } : Obj)) ∈ pins ++ pinsAt [S, it] h1 := by
    refine List.mem_append_right _ ?_
    unfold pinsAt
    refine List.mem_filterMap.mpr ⟨S, by simp, ?_⟩
    rw [hS1]; rfl
  have inI : (it, tupIt t) ∈ pins ++ pinsAt [S, it] h1 := by
    refine List.mem_append_right _ ?_
    unfold pinsAt
    refine List.mem_filterMap.mpr ⟨it, by simp, ?_⟩
    rw [ho1]; rfl
  refine wpAny_bind (wpAny_holding (hint_own (n := n) O W hr IP.env0.in1.in1.in1 IP ha hsp hn fun s2 I2 => ?_))
  have gS : s2.heap.get? S = some { cls := .type "list", data := .seq #[] c₀ } := (I2.pin _ (List.mem_append_right _ inS)).1
  have gI : s2.heap.get? it = some (tupIt t) := (I2.pin _ (List.mem_append_right _ inI)).1
  have I3 : Inv X pins σ H s2 := I2.unpinned
  obtain ⟨its, rv, hT, hz⟩ := I3.tuple hx
  have hT' : s2.heap.IsTuple t its.toArray := hT
  have hne : t ≠ it := fun e => by
    obtain ⟨o, ho, hcls, _⟩ := hT'
    rw [e, gI] at ho
    cases ho
    exact absurd (show Value.type "tuple_iterator" = Value.type "tuple" from hcls) (by decide)
  have hSf : S ∉ [it, t] := fun hm => by
    rcases List.mem_cons.mp hm with e | hm
    · exact hSI e
    · obtain ⟨o, ho, hcls, _⟩ := hT'
      rw [← List.mem_singleton.mp hm, gS] at ho
      cases ho
      exact absurd (show Value.type "list" = Value.type "tuple" from hcls) (by decide)
  have Wk := (Walks.tuple (prog := X.prog) (w := X.w) (A := X.A.in1.in1) (I.ok.hd hc) it t hne its.toArray).toS
  have key : ∀ (h : Heap) (c₁ tk : Nat), (h.IsTupleIter it t 0 ∧ h.IsTuple t its.toArray) → (∀ b o, b ≠ S → s2.heap.get? b = some o → h.get? b = some o) →
      h.get? S = some { cls := .type "list", data := .seq #[] c₁ } → codeAny (model X.prog X.w) X.A.in1 (.builtin "list.extend.loop" ⟨[.ref S, .ref it, res], []⟩) R { s2 with heap := h, toks := tk } := by
    intro h c₁ tk hit hk hS₁
    refine codeAny_extend_loopS Wk (by rw [List.size_toArray, ← rv.length]; exact hz) S hSf res _ 0 _ #[] c₁ rfl (Nat.zero_le _) hit hS₁ (ItemsOf.nil _) fun s' acc' c' hm hS' hacc => ?_
    have eq := Moved.eq_with hm
    rw [eq]
    have k2 : ∀ b o, b ∉ [S, it] → s2.heap.get? b = some o → s'.heap.get? b = some o := fun b o hb e => hm.heap b o (fun hmem => hb (by
      rcases List.mem_cons.mp hmem with e' | hmem
      · simp [e']
      · simp [List.mem_singleton.mp hmem])) (hk b o (fun z => hb (by simp [z])) e)
    have I4 : Inv X pins σ H { s2 with heap := s'.heap, toks := s'.toks } := I3.turnedL (t' := s'.toks) (ch := [S, it]) k2 (fun b hb => by
      rcases List.mem_cons.mp hb with rfl | hb
      · exact hfS
      · rw [List.mem_singleton.mp hb]; exact hfI)
    refine hR _ (I4.take (h' := s'.heap) (t' := s'.toks) (fun b ob _ e => e) hfS ⟨hz, its, c', rv, ?_⟩)
    have ea : acc' = its.toArray := by
      refine Array.ext_getElem? fun i => ?_
      by_cases hi : i < acc'.size
      · have e1 : acc'[i]? = some acc'[i] := Array.getElem?_eq_getElem hi
        rw [e1]
        exact (hacc.2 i _ e1).symm
      · rw [Array.getElem?_eq_none (by omega), Array.getElem?_eq_none (by rw [← hacc.1]; omega)]
    rw [← ea]
    exact hS'
  have hit₁ : s2.heap.IsTupleIter it t 0 ∧ s2.heap.IsTuple t its.toArray := ⟨⟨_, gI, rfl, rfl⟩, hT'⟩
  refine wpAny_ite_split (fun _ => ?_) (fun _ => wpAny_pure ⟨plainId_quiet F.plain_extend_loop _, key _ c₀ _ hit₁ (fun b o _ e => e) gS⟩)
  refine wpAny_bind (wpAny_rule ?_)
  refine wpAny_bind ?_
  show wpAny _ _ (updateSeq S (·.push .none) >>= fun _ => updateSeq S (·.pop)) _ _ _
  refine wpAny_bind (wpAny_updateSeq gS rfl ?_)
  have hS₂ := Heap.get?_update_self (Obj.mapSeq (·.push Value.none)) gS rfl
  refine wpAny_updateSeq (hz := by seq_fits) hS₂ rfl ?_
  have hS₃ := Heap.get?_update_self (Obj.mapSeq (·.pop)) hS₂ rfl
  refine wpAny_pure ⟨plainId_quiet F.plain_extend_loop _, key _ _ _ ?_ (fun b o hb e => ?_) hS₃⟩
  · obtain ⟨o1, g1, g2, g3⟩ := hT'
    refine ⟨⟨_, (Heap.get?_update_other _ _ hSI).trans ((Heap.get?_update_other _ _ hSI).trans gI), rfl, rfl⟩, o1, ?_, g2, g3⟩
    have hSt : S ≠ t := fun e => hSf (by simp [e])
    exact (Heap.get?_update_other _ _ hSt).trans ((Heap.get?_update_other _ _ hSt).trans g1)
  · exact (Heap.get?_update_other _ _ (Ne.symm hb)).trans ((Heap.get?_update_other _ _ (Ne.symm hb)).trans e)
/-- list(a) -/
def rListO (K : Frag) (C : Addr) (fld : Str) (sp : Sp) : List V → Hp → VK → Prop := fun vs H Q => ∃ (a dx : Addr) (fs : List (Str × V)) (t : Addr) (xs : List V) (n : Nat), vs = [V.ref a] ∧ H a = some (.ins C dx fs) ∧ fs.lookup fld = some (.ref t) ∧ SqT K H t xs ∧ n ≤ 2 ^ 24 ∧
  sp [.ref a] H (fun v H' => v = .int (n : Nat) ∧ H' = H) (fun _ _ _ => False) ∧ ∀ l, H l = none → Q (.ref l) (upd H l (.lst xs))
theorem cr_listO {fld : Str} (hc : X.calm = true) (Oi : OwnIt X.K X.mg C f fld) (O : Ok X.prog X.w X.K X.mg X.base CX0 k g ps sp) (W : findIn X.K (.ref C) "__len__" = some (some (.ref g)) ∧ isFn X.K (.ref g) = true) (hr : Room (k + 3) X.A) : CallR X (.type "list") (rListO X.K C fld sp) := by
  intro pins s σ H vs us Q I r h
  obtain ⟨a, dx, fs, t, xs, n, rfl, ha, hl, hx, hn, hsp, q⟩ := h
  cases r with
  | cons r rr =>
  cases rr
  cases r
  refine callType_codes (Q₁ := fun obj s₁ => obj = .ref s.heap.objs.size ∧ s₁ = { s with heap := s.heap.push { cls := .type "list", data := .seq #[] } }) F.called_list (F.typeCall_list_1 _) F.entry_list_init
    (code_list_new _ ⟨rfl, rfl⟩) fun obj s₁ h₁ => ?_
  obtain ⟨rfl, rfl⟩ := h₁
  have hS : (s.heap.push { cls := .type "list", data := .seq #[] }).get? s.heap.objs.size = some { cls := .type "list", data := .seq #[] } := Heap.get?_push_size _ rfl
  have hfS : FpOk X pins H s.heap.objs.size := I.fpOk (Nat.le_refl _) (I.hok.fresh (Nat.le_refl _))
  refine ⟨⟨_, hS, rfl⟩, F.args_list_init_2 _ _, ?_⟩
  generalize s.heap.objs.size = S at hS hfS ⊢
  have I1 : Inv X pins σ H { s with heap := s.heap.push { cls := .type "list", data := .seq #[] } } := I.kept (t' := s.toks) fun b o e => Heap.get?_push_of_some _ e
  show wpAny _ _ (do let old ← Builtin.List.listItems (.ref S); Builtin.List.listUpdate (.ref S) (fun _ => #[]); letGo old.toList.reverse; Builtin.List.listExtendWith (.ref S) (.ref a) .none) _ _ _
  refine wpAny_bind ?_
  unfold Builtin.List.listItems
  refine wpAny_bind (wpAny_seqItems hS rfl (wpAny_pure ?_))
  show wpAny _ _ (updateSeq S (fun _ => #[]) >>= fun _ => letGo (#[] : Array Value).toList.reverse >>= fun _ => Builtin.List.listExtendWith (.ref S) (.ref a) .none) _ _ _
  refine wpAny_bind (wpAny_updateSeq hS rfl ?_)
  have hS₂ := Heap.get?_update_self (Obj.mapSeq (fun _ => (#[] : Array Value))) hS rfl
  refine wpAny_bind (wpAny_letGo ?_)
  have I2 := I1.turnedL (t' := s.toks) (h' := (s.heap.push { cls := .type "list", data := .seq #[] }).update S (Obj.mapSeq (fun _ => (#[] : Array Value)))) (ch := [S]) (fun b o hb e => (Heap.get?_update_other _ _ (fun z => hb (by simp [z]))).trans e) (fun b hb => by rw [List.mem_singleton.mp hb]; exact hfS)
  exact extend_own (R := _) (n := n) hc Oi O W (hr.in1.in1.mono (by omega)) hr.in1.in1.in1 I2 ha hl hx hsp hn .none _ hS₂ hfS fun s' I3 => ⟨rfl, .ref S, _, I3, rfl, q S hfS.1⟩
end
end L2

set_option maxRecDepth 100000
set_option maxHeartbeats 4000000
/-! # xs[i] op= e; list(own) -/
namespace VL
open PySem PySem.Spec PyProof.Rows L2
section
variable {K : PySem.W.Frag} {E : XK} {B F F' H : Hp} {α : List Addr} {z : Z} {σ : L2.St}
def fAugS (i : Nat) (fi fx : VE) (g : Int → Int → Int) : VS := fun G D z => ∃ k, z.e[i]? = some (some (.c k)) ∧ fi G z fun r z1 => ∃ n : Int, r = .p (trI n) ∧ ∃ (ts1 : List Tr) (a : Int), z1.c[k]? = some (.lst ts1) ∧ ts1[n.toNat]? = some (trI a) ∧ 0 ≤ n ∧ fx G z1 fun r2 z2 => ∃ b : Int, r2 = .p (trI b) ∧ ∃ (ts : List Tr) (j : Nat), z2.c[k]? = some (.lst ts) ∧ ixN ts.length n = some j ∧ D.nx (z2.put k (ts.set j (trI (g a b))))
theorem rs_augS {i : Nat} {ti te : TE} {fi fx : VE} {g : Int → Int → Int} (h1 : RE K E ti fi) (h2 : RE K E te fx) : RS K E (tAugS (tVar i) ti te (L2.gIxL K) (ipI g) rSetL) (fAugS i fi fx g) := by
  intro B F α z σ H G Dv D er hf C eo
  obtain ⟨k, e1, hf⟩ := hf
  obtain ⟨v, g1, p, ep, rfl⟩ := C.env i _ e1
  refine ⟨_, g1, ?_⟩
  refine h1 B F α z σ H G _ _ er hf C fun F1 α1 z1 r w H1 q1 x1 C1 r1 => ?_
  obtain ⟨n, rfl, ts1, a, ec, ea, n0, q1⟩ := q1
  have ew := Rp.atom r1
  subst ew
  obtain ⟨hF, hB, xs, hx, hq⟩ := C1.cell k p _ (x1.get ep) ec
  obtain ⟨u, u1, u2⟩ := hq.get ea
  have eu := Rp.atom u2
  subst eu
  refine ⟨p, xs, n.toNat, _, rfl, by rw [Int.toNat_of_nonneg n0], .of hx, u1, ?_⟩
  refine h2 B F1 α1 z1 σ H1 G _ _ er q1 C1 fun F2 α2 z2 r2 w2 H2 q2 x2 C2 r3 => ?_
  obtain ⟨b, rfl, ts, j, ec2, ej, q⟩ := q2
  obtain ⟨hF2, hB2, ys, hy, hq2⟩ := C2.cell k p _ ((x1.trans x2).get ep) ec2
  refine ⟨a, b, rfl, Rp.atom r3, p, ys, n, j, rfl, rfl, hy, by rw [hq2.1]; exact ej, ?_⟩
  exact eo.nx _ _ _ _ _ q (x1.trans x2) (C2.upc ((x1.trans x2).get ep) ec2 (hq2.set (.a _) j))
def fListO (C : Addr) (fld : Str) (fa : VA) : VC := fun G z Q => fa G z fun rs z1 => ∃ ts : List Tr, rs = [.p (.ins C [(fld, .tup ts)])] ∧ ts.length ≤ 1000000 ∧ Q ts z1
theorem rc_listO {C : Addr} {fld : Str} {sp : Sp} {ta : TA} {fa : VA} (hsp : ∀ (p dx t : Addr) (xs : List V) (H : Hp) (Q : VK) (E : XK), H p = some (.ins C dx [(fld, .ref t)]) → SqT K H t xs → xs.length ≤ 1000000 → Q (.int (xs.length : Nat)) H → sp [.ref p] H Q E) (h : RA K E ta fa) : RC K E (tCB (rListO K C fld sp) ta) (fListO C fld fa) := by
  intro B F α z σ H G Qv Q er hf C1 k
  refine h B F α z σ H G _ _ er hf C1 fun F1 α1 z1 rs vs H1 q1 x1 C1 r1 => ?_
  obtain ⟨ts, rfl, l, q⟩ := q1
  obtain ⟨v, rfl, h1⟩ := r1.one
  obtain ⟨p, dx, ws, rfl, g1, g2⟩ := Rp.inv_ins h1
  obtain ⟨u, r, rfl, h2, h3⟩ := g2.inv'
  obtain rfl := h3.nil'
  obtain ⟨t, xs, rfl, h4, h5, h6⟩ := h2.inv_tup
  have hT := C1.same.seqT h4
  have hl : ([(fld, V.ref t)] : List (Str × V)).lookup fld = some (.ref t) := by simp [List.lookup]
  exact ⟨p, dx, _, t, xs, xs.length, rfl, C1.same _ _ g1, hl, hT, by have := h6.1; omega, hsp p dx t xs H1 _ _ (C1.same _ _ g1) hT (by rw [h6.1]; exact l) ⟨rfl, rfl⟩, fun l hl => k F1 α1 z1 ts xs l H1 q x1 C1 h6 hl h5⟩
end
end VL
local macro_rules | `(tactic| kbo_bools) => `(tactic| (with_reducible refine' VL.rs_augS ?_ ?_))

set_option maxRecDepth 100000
set_option maxHeartbeats 8000000
namespace K14v
open PySem PySem.Spec PyProof.Rows L2 VL K14
section
variable {w : World} {K : PySem.W.Frag} {mg : Str → Option Value} {base : Heap}
theorem pureI {ns : List Int} : ∀ u ∈ ns.map trI, Pure u := fun u hu => by
  obtain ⟨n, _, rfl⟩ := List.mem_map.mp hu
  exact .a _
theorem okG2 {days starts : List Int} {gap : Int} {rm : List Int} {n : Int} {K : PySem.W.Frag} (h : rm.length ≤ 1000000) : okGs [hT K days starts gap, trLI rm, trI n] := ⟨okG_ins, okG_I h, okG_a, trivial⟩
theorem ngh_nodup (f : Nat → Int) (n : Nat) : (GR.ngh f n).Nodup := by
  unfold GR.ngh List.Nodup
  rw [List.pairwise_map]
  exact (List.nodup_range.filter _).imp fun h q => h (by omega)
theorem notin_take {xs : List Int} {m : Nat} {x : Int} (h : xs.Nodup) (e : xs[m]? = some x) : x ∉ xs.take m := fun hm => by
  obtain ⟨hm1, hm2⟩ := List.getElem?_eq_some_iff.mp e
  obtain ⟨i, hi⟩ := List.getElem?_of_mem hm
  rw [List.getElem?_take] at hi
  split at hi
  · obtain ⟨hi1, hi2⟩ := List.getElem?_eq_some_iff.mp hi
    have := nd_inj h hi1 hm1 (hi2.trans hm2.symm)
    omega
  · cases hi
local macro_rules | `(tactic| keq_hits) => `(tactic| first | exact pureI | (refine okG2 ?_; omega))
local macro_rules | `(tactic| kbo_bools) => `(tactic| first | (with_reducible refine' VL.rs_asgG (s := 2) (by with_reducible assumption) ?_ ?_ ?_ ?_) | (with_reducible exact VL.rs_appAt (i := 2)) | (with_reducible exact VL.ri_grid (i := 2)))
def pOrder (K : PySem.W.Frag) : Pv := fun ts PP G => ∃ (days starts : List Int) (gap : Int) (ps : List Int), ts = [hT K days starts gap, trLI ps] ∧ ps.length ≤ 10000 ∧ (∀ e, badP starts.length [] ps = some (false, e) → G (c_NoPerson K) (.xd [("person", .int e)])) ∧ (∀ e, badP starts.length [] ps = some (true, e) → G (c_NamedTwice K) (.xd [("person", .int e)])) ∧ (badP starts.length [] ps = none → ps.length ≠ starts.length → G (c_WrongLength K) (.xd [("wanted", .int starts.length), ("found", .int ps.length)])) ∧ (badP starts.length [] ps = none → ps.length = starts.length → PP (.t trN))
theorem ok_check_order (T : Tx K mg) : Ok PG w K mg base (L2.CX PG w) 6 (a_check_order K) p_check_order (spV K (pOrder K)) := by
  refine Ok.of 5 T.f_check_order sc_check_order bi_check_order (by decide) (fun vs H Q E h => ?_) (fun cdv A outer s H vs Q E hr h => ?_)
  · obtain ⟨_, _, _, _, _, rq, ⟨_, _, _, _, rfl, _⟩, _⟩ := h
    exact rq.1
  · have T0 := T
    have nd := sc_check_order.nd
    refine ⟨_, pss_cons (ps_expr (pc (ok_check_people T) hr T.g_check_people px (pa_cons (pv 0) (pa_cons (pv 1) pa_nil))))
      (pss_one (ps_if (pt_cmpR op_ne (pe_callB (k_call_len_seq K rfl) (by rfl) T.m_len PySem.boot_len (pa_cons (pv 1) pa_nil)) (pprop (ok_House_people T) (pv 0) T.cHouse T.wHouse_people (hr.mono (by decide)) pass0) (nomark _)) (pss_one (ps_raiseX rfl T.e_WrongLength (by decide) (by decide) hr (takes_of rfl rfl rfl rfl) rfl (pa_cons (pe_callB (k_call_len_seq K rfl) (by rfl) T.m_len PySem.boot_len (pa_cons (pv 1) pa_nil)) (pa_cons (pprop (ok_House_people T) (pv 0) T.cHouse T.wHouse_people (hr.mono (by decide)) pass0) pa_nil)))) pss_nil)), ?_⟩
    try dsimp only [cxOf]
    refine run_V (by repeat' kbo_bools) h fun ts PP G hp _ => ?_
    obtain ⟨days, starts, gap, ps, rfl, lp, h1, h2, h3, h4⟩ := hp
    have se : ∀ t0 t1 : Tr, startE n_check_order [t0, t1] = [some (.p t0), some (.p t1)] := fun _ _ => rfl
    rw [se]; clear se h hr
    keq_rows
    all_goals first | exact h1 _ (by assumption) | exact h2 _ (by assumption) | exact h4 (by assumption) (by omega) | exact h3 (by assumption) (by omega) | skip
def spLenH (K : PySem.W.Frag) : Sp := fun vs H Q _ => ∃ (p dx t : Addr) (xs : List V), vs = [.ref p] ∧ H p = some (.ins (c_Wants K) dx [("numbers", .ref t)]) ∧ SqT K H t xs ∧ Q (.int (xs.length : Nat)) H
theorem okH_Wants_len (T : Tx K mg) : Ok PG w K mg base CX0 2 (a_Wants_len K) p_Wants_len (spLenH K) := by
  refine Ok.of 1 T.f_Wants_len sc_Wants_len bi_Wants_len (by decide) (fun vs H Q E h => ?_) (fun cdv A outer s H vs Q E hr h => ?_)
  · obtain ⟨_, _, _, _, rfl, _⟩ := h
    rfl
  · obtain ⟨p, dx, t, xs, rfl, hp, hT, q⟩ := h
    have nd := sc_Wants_len.nd
    refine ⟨_, pss_one (ps_ret (pe_callB call_len_seq (by rfl) T.m_len PySem.boot_len (pa_cons (pe_fld (pv 0) rfl) pa_nil))), ?_⟩
    exact ⟨_, rfl, p, _, dx, _, _, rfl, hp, T.cWants, T.nWants_numbers, rfl, t, _, rfl, .inr hT, q⟩
theorem lenH {K : PySem.W.Frag} : ∀ (p dx t : Addr) (xs : List V) (H : Hp) (Q : VK) (E : XK), H p = some (.ins (c_Wants K) dx [("numbers", .ref t)]) → SqT K H t xs → xs.length ≤ 1000000 → Q (.int (xs.length : Nat)) H → spLenH K [.ref p] H Q E := fun p dx t xs H Q E h1 h2 _ q => ⟨p, dx, t, xs, rfl, h1, h2, q⟩
local macro_rules | `(tactic| kbo_bools) => `(tactic| first | (with_reducible refine' VL.rs_asgC (by with_reducible assumption) (VL.rc_listO lenH ?_)) | (with_reducible refine' VL.re_fz (VL.rc_listO lenH ?_)))
open Classical in
/-- whom the nights have, in order -/
noncomputable def onR (gap : Int) (days starts ps : List Int) : List (List Int) := (List.range days.length).map fun k => ((List.range starts.length).map fun e : Nat => (e : Int)).filter fun e => decide (OnW gap days starts ps k e)
theorem onR_len {gap : Int} {days starts ps : List Int} : (onR gap days starts ps).length = days.length := by unfold onR; rw [List.length_map, List.length_range]
theorem rangeI_lt (n : Nat) : ((List.range n).map fun e : Nat => (e : Int)).Pairwise (· < ·) := by
  rw [List.pairwise_map]
  exact List.pairwise_lt_range.imp fun h => by omega
theorem strict_ext : ∀ {xs ys : List Int}, xs.Pairwise (· < ·) → ys.Pairwise (· < ·) → (∀ e, e ∈ xs ↔ e ∈ ys) → xs = ys
  | [], [], _, _, _ => rfl
  | [], y :: ys, _, _, h => absurd ((h y).mpr (List.mem_cons_self ..)) (by simp)
  | x :: xs, [], _, _, h => absurd ((h x).mp (List.mem_cons_self ..)) (by simp)
  | x :: xs, y :: ys, hx, hy, h => by
    rw [List.pairwise_cons] at hx hy
    have e : x = y := by
      rcases List.mem_cons.mp ((h x).mp (List.mem_cons_self ..)) with a | a
      · exact a
      · rcases List.mem_cons.mp ((h y).mpr (List.mem_cons_self ..)) with b | b
        · exact b.symm
        · have := hy.1 x a
          have := hx.1 y b
          omega
    subst e
    rw [strict_ext hx.2 hy.2 fun e => ?_]
    constructor
    · intro he
      rcases List.mem_cons.mp ((h e).mp (List.mem_cons_of_mem _ he)) with a | a
      · have := hx.1 e he; omega
      · exact a
    · intro he
      rcases List.mem_cons.mp ((h e).mpr (List.mem_cons_of_mem _ he)) with a | a
      · have := hy.1 e he; omega
      · exact a
theorem strict_of {xs : List Int} (h : xs.Pairwise (· ≤ ·)) (n : xs.Nodup) : xs.Pairwise (· < ·) := by
  refine (h.and n).imp fun {a b} q => ?_
  have := q.1
  have := q.2
  omega
open Classical in
theorem onR_get {gap : Int} {days starts ps : List Int} {k : Nat} (hk : k < days.length) (hp : ∀ p ∈ ps, 0 ≤ p ∧ p < starts.length) : ((onR gap days starts ps).getD k []).Pairwise (· < ·) ∧ ∀ e, e ∈ (onR gap days starts ps).getD k [] ↔ OnW gap days starts ps k e := by
  unfold onR
  rw [List.getD_eq_getElem?_getD, List.getElem?_map, List.getElem?_range hk]
  refine ⟨(rangeI_lt _).sublist List.filter_sublist, fun e => ?_⟩
  show e ∈ List.filter _ _ ↔ _
  rw [List.mem_filter]
  constructor
  · exact fun h => of_decide_eq_true h.2
  · intro h
    refine ⟨?_, decide_eq_true h⟩
    obtain ⟨s, h1, h2, _⟩ := h
    have := hp e (by rw [← h2]; exact getD_memI h1)
    exact List.mem_map.mpr ⟨e.toNat, List.mem_range.mpr (by omega), by omega⟩
theorem onR_is {gap : Int} {days starts ps : List Int} {rows : List (List Int)} (hp : ∀ p ∈ ps, 0 ≤ p ∧ p < starts.length) (l : rows.length = days.length) (h1 : ∀ k, k < days.length → (rows.getD k []).Pairwise (· < ·)) (h2 : ∀ k, k < days.length → ∀ e, e ∈ rows.getD k [] ↔ OnW gap days starts ps k e) : rows = onR gap days starts ps := by
  refine List.ext_getElem? fun k => ?_
  by_cases hk : k < days.length
  · obtain ⟨a, b⟩ := onR_get (gap := gap) hk hp
    have := strict_ext (h1 k hk) a fun e => (h2 k hk e).trans (b e).symm
    rw [List.getD_eq_getElem?_getD, List.getD_eq_getElem?_getD, List.getElem?_eq_getElem (by omega), List.getElem?_eq_getElem (by rw [onR_len]; exact hk)] at this
    rw [List.getElem?_eq_getElem (by omega), List.getElem?_eq_getElem (by rw [onR_len]; exact hk)]
    exact congrArg some this
  · rw [List.getElem?_eq_none (by omega), List.getElem?_eq_none (by rw [onR_len]; omega)]
def pOAA (K : PySem.W.Frag) : Pv := fun ts PP G => ∃ (days starts : List Int) (gap : Int) (ps : List Int), ts = [hT K days starts gap, trLI ps] ∧ days.length ≤ 60 ∧ starts.length ≤ 30 ∧ 0 ≤ gap ∧ gap ≤ 60 ∧ (∀ x ∈ days, 0 ≤ x) ∧ (∀ x ∈ starts, 1 ≤ x ∧ x ≤ (days.length : Int) + 1) ∧ ps.length ≤ 10000 ∧ (∀ e, badP starts.length [] ps = some (false, e) → G (c_NoPerson K) (.xd [("person", .int e)])) ∧ (∀ e, badP starts.length [] ps = some (true, e) → G (c_NamedTwice K) (.xd [("person", .int e)])) ∧ (badP starts.length [] ps = none → ps.length ≠ starts.length → G (c_WrongLength K) (.xd [("wanted", .int starts.length), ("found", .int ps.length)])) ∧ (badP starts.length [] ps = none → ps.length = starts.length → PP (.t (pT K (onR gap days starts ps))))
theorem ok_one_after_another (T : Tx K mg) : Ok PG w K mg base (L2.CX PG w) 7 (a_one_after_another K) p_one_after_another (spV K (pOAA K)) := by
  refine Ok.of 6 T.f_one_after_another sc_one_after_another bi_one_after_another (by decide) (fun vs H Q E h => ?_) (fun cdv A outer s H vs Q E hr h => ?_)
  · obtain ⟨_, _, _, _, _, rq, ⟨_, _, _, _, rfl, _⟩, _⟩ := h
    exact rq.1
  · have T0 := T
    have fc_House := T.cHouse
    have fn_House_wants := T.nHouse_wants
    have mt2 : Mt 2 := trivial
    have mt4 : Mt 4 := trivial
    have nd := sc_one_after_another.nd
    refine ⟨_, pss_cons (ps_expr (pc (ok_check_order T) hr T.g_check_order px (pa_cons (pv 0) (pa_cons (pv 1) pa_nil))))
      (pss_cons (ps_setLc (i := 2) (own := [("_", 3)]) (g := gName 3) (tt := tYes) rfl nd rfl rfl (sw_true rfl rfl rfl (by decide +kernel)) (pi_range1 rfl T.m_range (pa_cons (pprop (ok_House_nights T) (pv 0) T.cHouse T.wHouse_nights (hr.mono (by decide)) pass0) pa_nil)) (blkOk_by (N := n_one_after_another) (sc := defScope s_one_after_another) (by decide +kernel)) (fun _ _ _ _ _ => pg_name (i := 3) nd rfl (Or.inl rfl)) (fun _ _ _ _ _ => pts_nil) (fun _ _ _ _ _ => pe_lst pa_nil))
      (pss_cons (ps_set (i := 4) nd rfl (.inl rfl) (pe_callTy (cr_listO rfl (it_Wants T) (okH_Wants_len T) T.wWants_len (hr.mono (by decide))) (by rfl) T.m_list (by decide +kernel) (pa_cons (k_pe_fld K rfl (pv 0) rfl) pa_nil)))
      (pss_cons (ps_for (passX rfl) rfl (k_pi_list K rfl (pv 1)) (pg_name (i := 5) nd rfl (.inl rfl))
        (pss_cons (ps_set (i := 6) nd rfl (.inl rfl) (pc (ok_nights_with_room T) hr T.g_nights_with_room pass0 (pa_cons (pv 0) (pa_cons (pv 4) (pa_cons (pv 5) pa_nil)))))
          (pss_one (ps_for (passX rfl) rfl (k_pi_list K rfl (pv 6)) (pg_name (i := 7) nd rfl (.inl rfl))
            (pss_cons (ps_expr (pe_bm PySem.F.plainAttrs_list PySem.F.slot_list_append PySem.F.type_list_append mt_append (pe_ix (k_ix_list K rfl) (pv 2) (pe_op op_sub (pv 7) pe_int) (fun _ _ => rfl)) (pa_cons (pv 5) pa_nil)))
              (pss_one (ps_augS (pv 4) (pe_op op_sub (pv 7) pe_int) get_list pe_int ip_sub set_list)))))))
      (pss_one (ps_ret (pmk (ok_Plan_init T) T.kPlan (hr.mono (by decide)) T.gPlan pass0 (pa_cons (pe_lc (own := [("row", 8)]) (g := gName 8) (tt := tYes) rfl nd (k_pi_list K rfl (pv 2)) (blkOk_by (N := n_one_after_another) (sc := defScope s_one_after_another) (by decide +kernel)) (fun _ _ _ _ _ => pg_name (i := 8) nd rfl (Or.inl rfl)) (fun _ _ _ _ _ => pts_nil) (fun _ _ _ _ _ => pe_callB (k_cr_sorted K rfl) (by rfl) T.m_sorted (by decide +kernel) (pa_cons (pv 8) pa_nil))) pa_nil))))))), ?_⟩
    try dsimp only [cxOf]
    refine run_V (by repeat' kbo_bools) h fun ts PP G hp _ => ?_
    obtain ⟨days, starts, gap, ps, rfl, ld, ls, g0, g1, hd, hs, lps, q1, q2, q3, q4⟩ := hp
    have se : ∀ t0 t1 : Tr, startE n_one_after_another [t0, t1] = [some (.p t0), some (.p t1), none, none, none, none, none, none, none] := fun _ _ => rfl
    rw [se]; clear se h hr
    keq_rows
    rename_i hb hl
    have q := q4 hb hl
    clear q1 q2 q3 q4
    have hp := (badP_none.mp hb).1
    have hn := (badP_none.mp hb).2.1
    have hst : ∀ p ∈ ps, 1 ≤ starts.getD p.toNat 0 ∧ starts.getD p.toNat 0 ≤ (days.length : Int) + 1 := fun p hpm => by
      have := hp p hpm
      refine hs _ ?_
      rw [List.getD_eq_getElem?_getD, List.getElem?_eq_getElem (by omega)]
      exact List.getElem_mem _
    have hst0 : ∀ p ∈ ps, 0 ≤ starts.getD p.toNat 0 := fun p hpm => by have := hst p hpm; omega
    refine lcG_map (List.range days.length) (fun i : Nat => trI i) (fun _ => []) (by rw [Int.toNat_natCast]) (sidL (by rw [List.length_range]; omega)) (fun r hr acc Kp hk => ?_) ?_
    · keq_rows
      exact hk
    · keq_rows
      refine forT ps trI rfl (fun t z => ∃ (rs : List (List Int)) (rm : List Int) (R : List (List Tr)) (M : List Tr), z = ⟨[some (.p (hT K days starts gap)), some (.p (trLI ps)), some (.c 0), none, some (.c 1), none, none, none, none], [.grid R, .lst M]⟩ ∧ R = (rs.map fun r => r.map trI) ∧ M = rm.map trI ∧ rs.length = days.length ∧ (∀ r ∈ rs, r.length ≤ t ∧ r.Nodup) ∧ rm.length = days.length ∧ (∀ k, k < days.length → rm.getD k 0 = dN days k - xF gap days starts (ps.take t) k) ∧ ∀ k, k < days.length → ∀ e, e ∈ rs.getD k [] ↔ OnW gap days starts (ps.take t) k e)
        (wkM (by kx_w2) ⟨(List.range days.length).map fun _ => [], days, _, _, rfl, by rw [List.map_map]; rfl, rfl, by rw [List.length_map, List.length_range], ?_, rfl, ?_, ?_⟩) (fun t x z ex hz => ?_) (fun z hz => ?_)
      · intro r hr
        obtain ⟨_, _, rfl⟩ := List.mem_map.mp hr
        exact ⟨Nat.zero_le _, List.nodup_nil⟩
      · intro k hk
        rw [List.take_zero, xF_nil hd hk]
        show days.getD k 0 = days.getD k 0 - 0
        omega
      · intro k hk e
        rw [List.getD_eq_getElem?_getD, List.getElem?_map, List.getElem?_range hk]
        refine ⟨fun h => (by cases h), fun h => ?_⟩
        obtain ⟨s, a, _⟩ := h
        simp at a
      · obtain ⟨rs, rm, _, _, rfl, rfl, rfl, l1, l2, l3, h4, h5⟩ := hz
        have ht : t < ps.length := (List.getElem?_eq_some_iff.mp ex).1
        have gx : ps.getD t 0 = x := by rw [List.getD_eq_getElem?_getD, ex]; rfl
        have hx := hp x (List.mem_of_getElem? ex)
        have hx2 := hst x (List.mem_of_getElem? ex)
        have pu := pureI (ns := nwL gap days.length starts rm x)
        keq_rows
        obtain ⟨ns, ens⟩ : ∃ ns, ns = nwL gap days.length starts rm x := ⟨_, rfl⟩
        have nsn : ns.Nodup := by rw [ens]; exact ngh_nodup _ _
        have nsm : ∀ y ∈ ns, 1 ≤ y ∧ y ≤ (days.length : Int) := fun y hy => by
          rw [ens] at hy
          obtain ⟨j, hj, _, rfl⟩ := GR.ngh_mem.mp hy
          omega
        have nsl : ns.length ≤ 60 := by rw [ens]; exact Nat.le_trans (GR.ngh_le _ _) ld
        rw [← ens]
        refine forT ns trI rfl (fun m z => ∃ (rs' : List (List Int)) (rm' : List Int) (R : List (List Tr)) (M : List Tr), z = ⟨[some (.p (hT K days starts gap)), some (.p (trLI ps)), some (.c 0), none, some (.c 1), some (.p (trI x)), some (.p (trLI (ns))), none, none], [.grid R, .lst M]⟩ ∧ R = (rs'.map fun r => r.map trI) ∧ M = rm'.map trI ∧ rs'.length = days.length ∧ (∀ k : Nat, k < days.length → ((rs'.getD k []).length ≤ t + if ((k : Int) + 1) ∈ ns.take m then 1 else 0) ∧ (rs'.getD k []).Nodup) ∧ rm'.length = days.length ∧ (∀ k, k < days.length → rm'.getD k 0 = rm.getD k 0 - if ((k : Int) + 1) ∈ ns.take m then 1 else 0) ∧ ∀ k, k < days.length → ∀ e, e ∈ rs'.getD k [] ↔ e ∈ rs.getD k [] ∨ (e = x ∧ ((k : Int) + 1) ∈ ns.take m))
          (wkM (by kx_w2) ⟨rs, rm, _, _, rfl, rfl, rfl, l1, fun k hk => ?_, l3, fun k _ => by simp, fun k _ e => by simp⟩) (fun m y z ey hz => ?_) (fun z hz => ?_)
        · have := l2 (rs.getD k []) (by rw [List.getD_eq_getElem?_getD, List.getElem?_eq_getElem (by omega)]; exact List.getElem_mem _)
          exact ⟨by simpa using this.1, this.2⟩
        · obtain ⟨rs', rm', _, _, rfl, rfl, rfl, a1, a2, a3, a4, a5⟩ := hz
          have hy := nsm y (List.mem_of_getElem? ey)
          have hmn : m < ns.length := (List.getElem?_eq_some_iff.mp ey).1
          have nty := notin_take nsn ey
          obtain ⟨j, ej⟩ : ∃ j : Nat, y = (j : Int) + 1 := ⟨(y - 1).toNat, by omega⟩
          subst ej
          have hj : j < days.length := by omega
          have er : rs'[j]? = some (rs'.getD j []) := by rw [List.getD_eq_getElem?_getD, List.getElem?_eq_getElem (by omega)]; rfl
          have em : rm'[j]? = some (rm'.getD j 0) := by rw [List.getD_eq_getElem?_getD, List.getElem?_eq_getElem (by omega)]; rfl
          have lrj : (rs'.getD j []).length ≤ t := by
            have := (a2 j hj).1
            rw [if_neg nty] at this
            exact this
          have xnr : x ∉ rs'.getD j [] := fun hm => by
            rcases (a5 j hj x).mp hm with h | h
            · obtain ⟨s, b1, b2, _⟩ := (h5 j hj x).mp h
              have : x ∈ ps.take t := by rw [← b2]; exact getD_memI b1
              exact notin_take hn ex this
            · exact nty h.2
          have ejj : ((j : Int) + 1 - 1).toNat = j := by omega
          have er2 : (rs'.map fun r => r.map trI)[((j : Int) + 1 - 1).toNat]? = some ((rs'.getD j []).map trI) := by rw [ejj, List.getElem?_map, er]; rfl
          have em2 : (rm'.map trI)[((j : Int) + 1 - 1).toNat]? = some (trI (rm'.getD j 0)) := by rw [ejj, List.getElem?_map, em]; rfl
          have lrj2 : ((rs'.getD j []).map trI).length < sizeLine := by rw [List.length_map]; exact sidLt (by omega)
          keq_rows
          rw [ejj]
          have tk : ns.take (m + 1) = ns.take m ++ [(j : Int) + 1] := by rw [List.take_succ, ey]; rfl
          have mem : ∀ k : Nat, ((k : Int) + 1 ∈ ns.take (m + 1)) ↔ ((k : Int) + 1 ∈ ns.take m ∨ k = j) := fun k => by
            rw [tk, List.mem_append, List.mem_singleton]
            constructor
            · rintro (h | h)
              · exact .inl h
              · exact .inr (by omega)
            · rintro (h | h)
              · exact .inl h
              · exact .inr (by omega)
          have gs : ∀ k : Nat, (rs'.set j (rs'.getD j [] ++ [x])).getD k [] = if k = j then rs'.getD j [] ++ [x] else rs'.getD k [] := fun k => by
            rw [List.getD_eq_getElem?_getD, List.getElem?_set]
            by_cases c : j = k
            · rw [if_pos c, if_pos (by omega), if_pos c.symm]; rfl
            · rw [if_neg c, if_neg (fun q => c q.symm), ← List.getD_eq_getElem?_getD]
          have gm : ∀ k : Nat, (rm'.set j (rm'.getD j 0 - 1)).getD k 0 = if k = j then rm'.getD j 0 - 1 else rm'.getD k 0 := fun k => by
            rw [List.getD_eq_getElem?_getD, List.getElem?_set]
            by_cases c : j = k
            · rw [if_pos c, if_pos (by omega), if_pos c.symm]; rfl
            · rw [if_neg c, if_neg (fun q => c q.symm), ← List.getD_eq_getElem?_getD]
          refine wkM (by kx_w2) ⟨rs'.set j (rs'.getD j [] ++ [x]), rm'.set j (rm'.getD j 0 - 1), _, _, rfl, by rw [List.map_set, List.map_append]; rfl, by rw [List.map_set], by rw [List.length_set]; exact a1, fun k hk => ?_, by rw [List.length_set]; exact a3, fun k hk => ?_, fun k hk e => ?_⟩
          · rw [gs]
            by_cases c : k = j
            · subst c
              rw [if_pos rfl, if_pos ((mem k).mpr (.inr rfl)), List.length_append]
              refine ⟨?_, ?_⟩
              · show _ + 1 ≤ _
                omega
              · refine List.nodup_append.mpr ⟨(a2 k hj).2, by simp, fun a ha b hb' e => ?_⟩
                rw [List.mem_singleton.mp hb'] at e
                rw [e] at ha
                exact xnr ha
            · have := (a2 k hk).1
              have nd2 := (a2 k hk).2
              rw [if_neg c]
              refine ⟨?_, nd2⟩
              by_cases d : (k : Int) + 1 ∈ ns.take m
              · rw [if_pos ((mem k).mpr (.inl d))]; rw [if_pos d] at this; exact this
              · rw [if_neg (fun q => ((mem k).mp q).elim d c)]; rw [if_neg d] at this; exact this
          · rw [gm]
            by_cases c : k = j
            · subst c
              have := a4 k hk
              rw [if_neg nty] at this
              rw [if_pos rfl, if_pos ((mem k).mpr (.inr rfl))]
              omega
            · have := a4 k hk
              rw [if_neg c]
              by_cases d : (k : Int) + 1 ∈ ns.take m
              · rw [if_pos ((mem k).mpr (.inl d))]; rw [if_pos d] at this; exact this
              · rw [if_neg (fun q => ((mem k).mp q).elim d c)]; rw [if_neg d] at this; exact this
          · rw [gs, mem]
            have := a5 k hk e
            by_cases c : k = j
            · subst c
              rw [if_pos rfl, List.mem_append, List.mem_singleton, this]
              constructor
              · rintro ((h | h) | h)
                · exact .inl h
                · exact .inr ⟨h.1, .inr rfl⟩
                · exact .inr ⟨h, .inr rfl⟩
              · rintro (h | h)
                · exact .inl (.inl h)
                · exact .inr h.1
            · rw [if_neg c, this]
              constructor
              · rintro (h | h)
                · exact .inl h
                · exact .inr ⟨h.1, .inl h.2⟩
              · rintro (h | h)
                · exact .inl h
                · exact .inr ⟨h.1, h.2.resolve_right c⟩
        · obtain ⟨rs', rm', _, _, rfl, rfl, rfl, a1, a2, a3, a4, a5⟩ := hz
          rw [List.take_length] at a2 a4 a5
          have inn : ∀ k : Nat, k < days.length → (((k : Int) + 1 ∈ ns) ↔ flg gap days starts (ps.take t) x k = 1) := fun k hk => by
            rw [ens]
            unfold nwL
            rw [GR.ngh_mem]
            have e1 : GR.grx gap.toNat (comN starts x) (dN rm) (fun _ => 0) k = flg gap days starts (ps.take t) x k := grx_room (n := days.length) (fun j hj => h4 j hj) hk
            constructor
            · rintro ⟨j, hj, hf, e⟩
              have : j = k := by omega
              subst this
              rw [← e1]; exact hf
            · intro h
              exact ⟨k, hk, by rw [e1]; exact h, rfl⟩
          have fb := (flg_is gap days starts (ps.take t) x).bit
          have tks : ps.take (t + 1) = ps.take t ++ [x] := by rw [take_snoc ht, gx]
          keq_rows
          refine wkM (by kx_w2) ⟨rs', rm', _, _, rfl, rfl, rfl, a1, fun r hr => ?_, a3, fun k hk => ?_, fun k hk e => ?_⟩
          · obtain ⟨k, hk, rfl⟩ := mem_getD hr
            obtain ⟨this, nd2⟩ := a2 k (by omega)
            refine ⟨?_, nd2⟩
            split at this <;> omega
          · rw [a4 k hk, h4 k hk, tks, xF_snoc (by omega)]
            by_cases c : (k : Int) + 1 ∈ ns
            · rw [if_pos c, (inn k hk).mp c]; omega
            · have : flg gap days starts (ps.take t) x k = 0 := (fb k).resolve_right fun q => c ((inn k hk).mpr q)
              rw [if_neg c, this]; omega
          · rw [a5 k hk e, h5 k hk e, on_take ht, gx]
            constructor
            · rintro (h | ⟨rfl, h⟩)
              · exact .inl h
              · exact .inr ⟨rfl, (inn k hk).mp h⟩
            · rintro (h | ⟨rfl, h⟩)
              · exact .inl h
              · exact .inr ⟨rfl, (inn k hk).mpr h⟩
      · obtain ⟨rs, rm, _, _, rfl, rfl, rfl, l1, l2, l3, h4, h5⟩ := hz
        rw [List.take_length] at h4 h5
        have hsz : ∀ r ∈ (rs.map fun r => r.map trI), r.length ≤ sizeLine := fun r hr => by
          obtain ⟨u, hu, rfl⟩ := List.mem_map.mp hr
          rw [List.length_map]
          exact sidL (by have := (l2 u hu).1; omega)
        keq_rows
        refine lc_rel rs trLI (fun _ => true) trLI (fun r y => y.Perm r ∧ y.Pairwise (· ≤ ·)) (by rw [List.map_map]; rfl) (sidL (by omega)) (fun r hr acc Kp Ks hk hs => ?_) (fun ys hly hy => ?_)
        · have := (l2 r hr).1
          keq_rows
          exact hk _ rfl ⟨by assumption, by assumption⟩
        · rw [List.filter_eq_self.mpr (fun _ _ => rfl)] at hly hy
          have hy2 : ∀ k : Nat, (ys.getD k []).Perm (rs.getD k []) ∧ (ys.getD k []).Pairwise (· ≤ ·) := fun k => by
            rw [List.getD_eq_getElem?_getD, List.getD_eq_getElem?_getD]
            by_cases c : k < rs.length
            · have e1 : rs[k]? = some rs[k] := List.getElem?_eq_getElem c
              have e2 : ys[k]? = some (ys[k]'(by omega)) := List.getElem?_eq_getElem (by omega)
              rw [e1, e2]
              exact hy k _ _ e1 e2
            · rw [List.getElem?_eq_none (by omega), List.getElem?_eq_none (by omega)]
              exact ⟨.refl _, .nil⟩
          have gm : ∀ k : Nat, k < days.length → rs.getD k [] ∈ rs := fun k hk => by rw [List.getD_eq_getElem?_getD, List.getElem?_eq_getElem (by omega)]; exact List.getElem_mem _
          have ly : ∀ r ∈ ys, r.length ≤ 30 := fun r hr => by
            obtain ⟨k, hk, rfl⟩ := mem_getD hr
            rw [(hy2 k).1.length_eq]
            have := (l2 _ (gm k (by omega))).1
            omega
          have ey : ys = onR gap days starts ps := onR_is hp (by omega) (fun k hk => strict_of (hy2 k).2 ((hy2 k).1.nodup_iff.mpr (l2 _ (gm k hk)).2)) (fun k hk e => by rw [(hy2 k).1.mem_iff]; exact h5 k hk e)
          rw [← ey] at q
          keq_rows
          · exact ⟨trLI, rfl, .inr rfl, .inl rfl, by omega, fun r hr => Nat.le_trans (ly r hr) (by decide), q⟩
end
end K14v

set_option maxRecDepth 100000
set_option maxHeartbeats 8000000
namespace K14v
open PySem PySem.Spec PyProof.Rows L2 VL K14
section
variable {w : World} {K : PySem.W.Frag} {mg : Str → Option Value} {base : Heap}
def pOC (K : PySem.W.Frag) : Pv := fun ts PP G => ∃ (days starts : List Int) (gap : Int) (ps : List Int), ts = [hT K days starts gap, trLI ps] ∧ days.length ≤ 60 ∧ starts.length ≤ 30 ∧ 0 ≤ gap ∧ gap ≤ 60 ∧ (∀ x ∈ days, 0 ≤ x) ∧ (∀ x ∈ starts, 1 ≤ x ∧ x ≤ (days.length : Int) + 1) ∧ ps.length ≤ 10000 ∧ (∀ e, badP starts.length [] ps = some (false, e) → G (c_NoPerson K) (.xd [("person", .int e)])) ∧ (∀ e, badP starts.length [] ps = some (true, e) → G (c_NamedTwice K) (.xd [("person", .int e)])) ∧ (badP starts.length [] ps = none → ps.length ≠ starts.length → G (c_WrongLength K) (.xd [("wanted", .int starts.length), ("found", .int ps.length)])) ∧ (badP starts.length [] ps = none → ps.length = starts.length → PP (.l ((countsI (onR gap days starts ps) starts.length).map trI)))
local macro_rules | `(tactic| kbo_bools) => `(tactic| (with_reducible refine' VL.rs_retC (VL.rc_call ?_ ?_)))
theorem ok_order_counts (T : Tx K mg) : Ok PG w K mg base (L2.CX PG w) 8 (a_order_counts K) p_order_counts (spV K (pOC K)) := by
  refine Ok.of 7 T.f_order_counts sc_order_counts bi_order_counts (by decide) (fun vs H Q E h => ?_) (fun cdv A outer s H vs Q E hr h => ?_)
  · obtain ⟨_, _, _, _, _, rq, ⟨_, _, _, _, rfl, _⟩, _⟩ := h
    exact rq.1
  · have T0 := T
    have nd := sc_order_counts.nd
    refine ⟨_, pss_one (ps_ret (pc (ok_counts_of T) (hr.mono (by decide)) T.g_counts_of pass0 (pa_cons (pv 0) (pa_cons (pc (ok_one_after_another T) hr T.g_one_after_another px (pa_cons (pv 0) (pa_cons (pv 1) pa_nil))) pa_nil)))), ?_⟩
    try dsimp only [cxOf]
    refine run_V (by repeat' kbo_bools) h fun ts PP G hp _ => ?_
    obtain ⟨days, starts, gap, ps, rfl, ld, ls, g0, g1, hd, hs, lps, q1, q2, q3, q4⟩ := hp
    have se : ∀ t0 t1 : Tr, startE n_order_counts [t0, t1] = [some (.p t0), some (.p t1)] := fun _ _ => rfl
    rw [se]; clear se h hr
    have lr := onR_len (gap := gap) (days := days) (starts := starts) (ps := ps)
    keq_rows
    exact q4 (by assumption) (by assumption)
def pInt : Pv := fun ts PP _ => ∃ (n : Int), ts = [trI n] ∧ PP (.t (trB true))
theorem ok_law_int (T : Tx K mg) : Ok PG w K mg base CX0 2 (a_law_int K) p_law_int (spV K pInt) := (K14.ok_law_int T).imp fun vs H Q E h => by
  obtain ⟨F, ts, PP, GG, s, rq, ⟨n, rfl, hp⟩, er, q⟩ := h
  obtain ⟨v, r, rfl, h1, h2⟩ := rq.inv'
  obtain rfl := h2.nil'
  obtain rfl := h1.atom
  exact ⟨n, rfl, q _ _ F H hp (.refl _) .refl s (.refl _) (.a _)⟩
def pInts : Pv := fun ts PP _ => ∃ (ns : List Int), ts = [trTI ns] ∧ ns.length ≤ 1000 ∧ PP (.t (trB true))
theorem ok_law_ints (T : Tx K mg) : Ok PG w K mg base CX0 3 (a_law_ints K) p_law_ints (spV K (pInts)) := by
  refine Ok.of 2 T.f_law_ints sc_law_ints bi_law_ints (by decide) (fun vs H Q E h => ?_) (fun cdv A outer s H vs Q E hr h => ?_)
  · obtain ⟨_, _, _, _, _, rq, ⟨_, rfl, _⟩, _⟩ := h
    exact rq.1
  · have T0 := T
    have nd := sc_law_ints.nd
    refine ⟨_, pss_cons (ps_for (passX rfl) rfl (k_pi_tup K rfl (pv 0)) (pg_name (i := 1) nd rfl (.inl rfl))
        (pss_one (ps_if (pt_not (pt_val (pc (ok_law_int T) hr T.g_law_int pass0 (pa_cons (pv 1) pa_nil)))) (pss_one (ps_ret pe_bl)) pss_nil)))
      (pss_one (ps_ret pe_bl)), ?_⟩
    try dsimp only [cxOf]
    refine run_V0 (by repeat' kbo_bools) h fun ts PP G hp _ => ?_
    obtain ⟨ns, rfl, ln, q⟩ := hp
    have se : ∀ t0 : Tr, startE n_law_ints [t0] = [some (.p t0), none] := fun _ => rfl
    rw [se]; clear se h hr
    keq_rows
    refine forT ns trI rfl (fun i z => z = ⟨[some (.p (trTI ns)), none], []⟩) (wkM (by kx_w2) rfl) (fun i x z ex hz => ?_) (fun z hz => ?_)
    · subst hz
      keq_rows
      exact wkM (by kx_w2) rfl
    · subst hz
      keq_rows
      exact q
end
end K14v

set_option maxRecDepth 100000
set_option maxHeartbeats 4000000
/-! # enumerate(a), sum(a), a an own instance whose __iter__ says: return iter(self.field), the field a tuple -/
namespace L2
open PySem PySem.Spec PyProof.Rows PySem.W
abbrev eoZ (h : Heap) (it : Addr) : Heap := h.push { cls := .type "enumerate", data := .fields #[.none, .bool false, .ref it, rawInt 0, .none, .none] }
theorem meets_enum_q {prog : Program} {w : World} {v : Value} :
    MeetsIn prog w (Builtin.«enumerate.__new__» ⟨[.type "enumerate", v], []⟩) (fun A R s => IterTo prog w A.in1 v s fun it s1 => R (.ok (.ret (.ref s1.heap.objs.size))) { s1 with heap := eoZ s1.heap it }) :=
  .of_wp fun A R s h => by
    have hsub := sub_enumerate
    have q1 : ∀ {E : Value → Shared → Prop} {Q : Value → Shared → Prop}, (∀ it s1, R (.ok (.ret (.ref s1.heap.objs.size))) { s1 with heap := eoZ s1.heap it } → Q (.ref it) s1) → wpAny (model prog w) A.in1 (pyIter v) Q E s := fun q => h _ _ q
    wp_walk using q1
    refine wpAny_stack_any fun st => wpAny_pure ?_
    split
    · rename_i c _ _ _ _ _
      cases (c == Value.type "enumerate")
      · wp_walk using q1
        intro it s1 g
        obtain ⟨hp, gg, d, tk, os⟩ := s1
        wp_walk
        exact ⟨_, rfl, g⟩
      · wp_walk using q1
        intro it s1 g
        obtain ⟨hp, gg, d, tk, os⟩ := s1
        wp_walk
        exact ⟨_, rfl, g⟩
    · wp_walk using q1
      intro it s1 g
      obtain ⟨hp, gg, d, tk, os⟩ := s1
      wp_walk
      exact ⟨_, rfl, g⟩
theorem enum_q {prog : Program} {w : World} {A : Around} {E : Value → Shared → Prop} {s : Shared} {v : Value} {Q : Value → Shared → Prop}
    (h : IterTo prog w A.in1.in1 v s fun i1 s1 => ∀ h', IsEnum h' s1.heap.objs.size i1 0 .none → (∀ c o, s1.heap.get? c = some o → h'.get? c = some o) → Q (.ref s1.heap.objs.size) { s1 with heap := h' }) :
    wpAny (model prog w) A (call (.type "enumerate") [v]) Q E s := by
  refine callType_newIn F.called_enumerate (by decide) (F.typeCall_enumerate_1 _) (F.newCall_enumerate_1 _) (fun obj => F.args_object_init_2 obj _) F.entry_enumerate_new meets_enum_q ?_
  refine fun Q1 E1 k1 => h Q1 E1 fun i1 s1 h1 => k1 i1 s1 ?_
  have gZ : (eoZ s1.heap i1).get? s1.heap.objs.size = some { cls := .type "enumerate", data := .fields #[.none, .bool false, .ref i1, rawInt 0, .none, .none] } := Heap.get?_push_size _ rfl
  exact ⟨⟨_, gZ, rfl⟩, h1 _ gZ fun c o e => Heap.get?_push_of_some _ e⟩
/-- xs in a list, a tuple or an own instance's field -/
def SqO (K : Frag) (C : Addr) (fld : Str) (H : Hp) (a : Addr) (xs : List V) : Prop := SqA K H a xs ∨ ∃ dx fs t, H a = some (.ins C dx fs) ∧ fs.lookup fld = some (.ref t) ∧ SqT K H t xs
theorem Same.seqO {K : Frag} {C : Addr} {fld : Str} {H H' : Hp} {a : Addr} {xs : List V} (s : Same H H') (h : SqO K C fld H a xs) : SqO K C fld H' a xs := by
  rcases h with h | ⟨dx, fs, t, h1, h2, h3⟩
  · exact .inl (s.seqA h)
  · exact .inr ⟨dx, fs, t, s _ _ h1, h2, s.seqT h3⟩
def iEnumO (K : Frag) (C : Addr) (fld : Str) (ta : TA) : TI := fun σ H R => ta σ H fun vs H1 => ∃ a xs, vs = [.ref a] ∧ SqO K C fld H1 a xs ∧ ∀ (J : It) (G : Hp → Prop), (∀ H', Same H1 H' → G H') → Walk J xs.length G (YPair (fun i => some (.int (i : Nat))) (fun i => xs[i]?)) → R J H1
theorem pi_enumO {X : Cx} {e : Expr} {ta : TA} {p pos tpos : Pos} {elts : List Expr} {kk : Nat} {C f : Addr} {fld : Str} {k : Nat} (O : OwnIt X.K X.mg C f fld) (hr : Room (k + 2) X.A) (hg : Gl X "enumerate") (hm : X.mg "enumerate" = none) (ha : PA X [e] ta) (hs : starEach [e] X.env = [(false, eval e X.env)] := by rfl) :
    PI X (.Tuple elts kk tpos) (.Call (.Name "enumerate" p) [e] [] pos) (iEnumO X.K C fld ta) := by
  refine ⟨fun pins s σ H R I h => ?_⟩
  refine Call_ (ld_blt I hg hm boot_enumerate (PyProof.Rows.callWith_type1 (thn (ha.run pos pins s σ H _ I h) fun us s1 ⟨vs, H1, I1, r1, q1⟩ => ?_) hs rfl))
  obtain ⟨a, xs, ex, hO, q2⟩ := q1
  subst ex
  cases r1 with
  | cons r rr =>
    cases rr
    cases r
    have fresh2 : ∀ b, b ∈ [s1.heap.objs.size + 1, s1.heap.objs.size] → FpOk X pins H1 b := fun b hb => by
      have e' : b = s1.heap.objs.size + 1 ∨ b = s1.heap.objs.size := by simpa using hb
      have hle : s1.heap.objs.size ≤ b := by
        rcases e' with z | z
        · rw [z]; exact Nat.le_add_right _ _
        · rw [z]; exact Nat.le_refl _
      exact I1.fpOk hle (I1.hok.fresh hle)
    rcases hO with hA | ⟨dx, fs, t, hin, hl, hx⟩
    · rcases enumA_of hA q2 with ⟨hq, q⟩ | ⟨hq, q⟩
      · obtain ⟨its, rv, p', hz⟩ := I1.list hq
        refine call_enumerate_list p'.isList fun h' he hit hsz hk => wpAny_pyIter_enum he ?_
        have I2 : Inv X pins σ H1 { s1 with heap := h' } := I1.kept (t' := s1.toks) hk
        exact ⟨s1.heap.objs.size + 1, [s1.heap.objs.size + 1, s1.heap.objs.size], _, _, H1, rfl, I2, turn_enum a (s1.heap.objs.size + 1) s1.heap.objs.size, ⟨⟨.none, he⟩, hit, Nat.succ_ne_self _⟩, fresh2, q⟩
      · obtain ⟨its, rv, p', hz⟩ := I1.tuple hq
        refine EN.begins1 (begins_tuple a its.toArray) p' (fun h' he hit hsz hk => wpAny_pyIter_enum he ?_) (F.typeCall_enumerate_1 _) (F.newCall_enumerate_1 _) (fun obj => F.args_object_init_2 obj _)
        have I2 : Inv X pins σ H1 { s1 with heap := h' } := I1.kept (t' := s1.toks) hk
        exact ⟨s1.heap.objs.size + 1, [s1.heap.objs.size + 1, s1.heap.objs.size], _, _, H1, rfl, I2, turn_enumT 0 a (s1.heap.objs.size + 1) s1.heap.objs.size (Nat.succ_ne_self _), ⟨⟨.none, he⟩, ⟨_, hit, rfl, rfl⟩⟩, fresh2, q⟩
    · refine enum_q fun Q1 E1 k1 => own_iterA O hr.in1.in1 I1 hin hl hx fun h1 tk1 it1 hk1 hit1 ho1 => k1 it1 _ ?_
      dsimp only
      intro h' he hk
      refine wpAny_pyIter_enum he ?_
      have I2 : Inv X pins σ H1 { s1 with heap := h1, toks := tk1 } := I1.kept (t' := tk1) hk1
      have I3 : Inv X pins σ H1 { s1 with heap := h', toks := tk1 } := I2.kept (t' := tk1) hk
      have l1 : it1 < h1.objs.size := Heap.lt_size ho1
      have ne : h1.objs.size ≠ it1 := Nat.ne_of_gt l1
      refine ⟨h1.objs.size, [h1.objs.size, it1], _, _, H1, rfl, I3, turn_enumT 0 t h1.objs.size it1 ne, ⟨⟨.none, he⟩, ⟨_, hk _ _ ho1, rfl, rfl⟩⟩, fun b hb => ?_, q2 _ _ (fun _ s => s.seqT hx) ((walk_enumT (k := 0)).mono (fun _ h => h) fun i H x H' _ _ y => by
        obtain ⟨T', x', y', z⟩ := y
        exact ⟨T', x', y', by simpa using z⟩)⟩
      have e' : b = h1.objs.size ∨ b = it1 := by simpa using hb
      have hle : s1.heap.objs.size ≤ b := by
        rcases e' with z | z
        · rw [z]; exact Nat.le_of_lt (Nat.lt_of_le_of_lt hit1 l1)
        · rw [z]; exact hit1
      exact I1.fpOk hle (I1.hok.fresh hle)
end L2
namespace L2
open PySem PySem.Spec PyProof.Rows PySem.W
section
variable {X : Cx}
def rSumO (K : Frag) (C : Addr) (fld : Str) : List V → Hp → VK → Prop := fun vs H Q => ∃ (a : Addr) (ns : List Int), vs = [V.ref a] ∧ SqO K C fld H a (ns.map V.int) ∧ Q (.int ns.sum) H
theorem cr_sumO {C f : Addr} {fld : Str} {k : Nat} (O : OwnIt X.K X.mg C f fld) (hr : Room (k + 1) X.A) (hc : X.calm = true) : CallR X (.builtin "sum") (rSumO X.K C fld) := by
  intro pins s σ H xs us Q I r h
  obtain ⟨a, ns, rfl, hq, q⟩ := h
  rcases hq with hq | ⟨dx, fs, t, hin, hl, hx⟩
  · exact cr_sumA hc pins s σ H _ us Q I r ⟨a, ns, rfl, hq, q⟩
  cases r with
  | cons r rr =>
  cases rr
  cases r
  refine PySem.call_sum_walkAnyS (own_iterA O hr.in1 I hin hl hx fun h1 tk1 it hk1 hit1 ho1 => ?_)
  have I2 : Inv X pins σ H { s with heap := h1, toks := tk1 } := I.kept (t' := tk1) hk1
  obtain ⟨its, rv, hT, hz⟩ := I2.tuple hx
  have hi := intsAre_of rv
  obtain ⟨ys, hys⟩ := hi.allInts.items
  have hn : numsOf its.toArray.toList = ns := by rw [show its.toArray.toList = its from rfl, hi.numsOf]
  have hT' : h1.IsTuple t its.toArray := let ⟨o, h1, h2, h3⟩ := hT; ⟨o, h1, h2, h3⟩
  rw [hys] at hT' hn
  rw [nums_intItems] at hn
  have hne : t ≠ it := fun e => by
    obtain ⟨o, h1', h2', h3'⟩ := hT'
    rw [e, ho1] at h1'
    cases h1'
    exact absurd (show Value.type "tuple_iterator" = Value.type "tuple" from h2') (by decide)
  have hsz : (intItems ys).size = ys.size := by simp [intItems]
  have W := (Walks.tuple (prog := X.prog) (w := X.w) (A := X.A.in1) (I.ok.hd hc) it t hne (intItems ys)).toS
  rw [hsz] at W
  have lt : it < h1.objs.size := Heap.lt_size ho1
  refine ⟨it, _, _, _, _, _, _, numAt ys, rfl, W, ⟨⟨_, ho1, rfl, rfl⟩, hT'⟩, fun b hb => ?_, fun i v hP => intItems_at hP, fun s' t' hm => ?_⟩
  · rcases List.mem_cons.mp hb with rfl | hb
    · exact lt
    · obtain rfl := List.mem_singleton.mp hb
      obtain ⟨o, ho, _⟩ := hT'
      exact Heap.lt_size ho
  · obtain ⟨h', g', d', tk', os'⟩ := s'
    have e1 : g' = s.gens := hm.gens
    have e2 : d' = s.drawn := hm.drawn
    have e3 : os' = s.os := hm.os
    subst e1 e2 e3
    rw [preSum_eq, List.take_of_length_le (by simp), hn]
    refine ⟨.int ns.sum, H, I.kept (t' := tk') fun b o e => hm.heap b o (fun hb => ?_) (hk1 _ _ e), ⟨t', rfl⟩, q⟩
    obtain rfl := List.mem_singleton.mp hb
    exact absurd (Heap.lt_size e) (Nat.not_lt_of_le hit1)
/-! ## unions -/
theorem cr_or {n : Value} {r1 r2 r : List V → Hp → VK → Prop} (h1 : CallR X n r1) (h2 : CallR X n r2) (h : ∀ vs H Q, r vs H Q → r1 vs H Q ∨ r2 vs H Q) : CallR X n r := by
  intro pins s σ H xs us Q I rr q
  rcases h _ _ _ q with q | q
  · exact h1 pins s σ H xs us Q I rr q
  · exact h2 pins s σ H xs us Q I rr q
theorem pe_or2 {e : Expr} {t1 t2 t : TE} (h1 : PE X e t1) (h2 : PE X e t2) (h : ∀ σ H Q, t σ H Q → t1 σ H Q ∨ t2 σ H Q) : PE X e t := ⟨fun pins s σ H Q I q => by
  rcases h _ _ _ q with q | q
  · exact h1.run pins s σ H Q I q
  · exact h2.run pins s σ H Q I q⟩
end
end L2

set_option maxRecDepth 100000
set_option maxHeartbeats 4000000
/-! # try with several clauses, where nothing that may change stands before -/
namespace VL
open PySem PySem.Spec PyProof.Rows L2
section
variable {K : PySem.W.Frag} {E : XK} {B F F' H : Hp} {α : List Addr} {z : Z} {σ : L2.St}
/-! ### what stands in a body, at one state -/
def AtE (K : PySem.W.Frag) (σ : L2.St) (E : XK) (t : TE) (f : VE) : Prop := ∀ (B F : Hp) (α : List Addr) (z : Z) (H : Hp) (G : Gx) (Qv : Sv → Z → Prop) (Q : VK), ErOk B E G → f G z Qv → Cor K B F α z σ H →
  (∀ F' α' z' r v H', Qv r z' → XTE B F α F' α' → Cor K B F' α' z' σ H' → Rv K F' α' v r → Q v H') → t σ H Q
def AtS (K : PySem.W.Frag) (σ : L2.St) (E : XK) (t : TS) (f : VS) : Prop := ∀ (B F : Hp) (α : List Addr) (z : Z) (H : Hp) (G : Gx) (Dv : VEnds) (D : Ends), ErOk B E G → f G Dv z → Cor K B F α z σ H → EndOk K B F α Dv D → t D σ H
theorem at_of {t : TS} {f : VS} (h : RS K E t f) : AtS K σ E t f := fun B F α z H G Dv D er hf C eo => h B F α z σ H G Dv D er hf C eo
theorem at_drop {t : TE} {f : VE} (h : AtE K σ E t f) : AtS K σ E (tDrop t) (fDrop f) := by
  intro B F α z H G Dv D er hf C eo
  exact h B F α z H G _ _ er hf C fun F1 α1 z1 r v H1 q x C1 _ => eo.nx F1 α1 z1 σ H1 q x C1
theorem at_ret {t : TE} {f : VE} (h : AtE K σ E t f) : AtS K σ E (tRet t) (fRet f) := by
  intro B F α z H G Dv D er hf C eo
  exact h B F α z H G _ _ er hf C fun F1 α1 z1 r v H1 q x C1 r1 => eo.rt F1 α1 z1 σ H1 r v q x C1 r1
theorem at_asg {t : TE} {f : VE} {g : TG} {fg : VG} (h : AtE K σ E t f) (hg : RG K g fg) : AtS K σ E (tAsg t g) (fAsg f fg) := by
  intro B F α z H G Dv D er hf C eo
  refine h B F α z H G _ _ er hf C fun F1 α1 z1 r v H1 q x C1 r1 => ?_
  obtain ⟨F2, t, z2, q2, x2, C2, r2⟩ := frz_ok q C1 r1
  exact hg B F2 α1 z2 σ H1 v t _ _ q2 C2 r2 fun F3 α3 z3 σ3 H3 q3 x3 C3 => eo.nx F3 α3 z3 σ3 H3 q3 ((x.trans x2).trans x3) C3
theorem at_if {tc : TT} {t u : TS} {c : VT} {f g : VS} (hc : RT K E tc c) (h1 : AtS K σ E t f) (h2 : AtS K σ E u g) : AtS K σ E (tIfS tc t u) (fIfS c f g) := by
  intro B F α z H G Dv D er h C eo
  refine hc B F α z σ H G _ _ er h C fun F1 α1 z1 b H1 q1 x1 C1 => ?_
  cases b with
  | true => exact iteT (h1 B F1 α1 z1 H1 G Dv D er (q1.1 rfl) C1 (eo.ext x1))
  | false => exact iteF (h2 B F1 α1 z1 H1 G Dv D er (q1.2 rfl) C1 (eo.ext x1))
theorem at_callS {W : L2.St → XK} {P : Pv} {ta : TA} {fa : VA} (h : RA K (W σ) ta fa) : AtE K σ (W σ) (tCallS (spV K P) W ta) (fCall (fun G => G) P fa) := by
  intro B F α z H G Qv Q er hf C k
  have := re_call (K := K) (E := W σ) (P := P) .same h B F α z σ H G Qv Q er hf C k
  unfold tCall at this
  rw [show (tCallS (spV K P) W ta) σ H Q = ta σ H fun vs H1 => spV K P vs H1 Q (W σ) from rfl]
  have e : (fun vs H1 => spV K P (vs ++ []) H1 Q (W σ)) = fun vs H1 => spV K P vs H1 Q (W σ) := by funext vs H1; rw [List.append_nil]
  rw [← e]
  exact this
/-! ### a suite: slot i holds the error, whose class is C and whose fields are o -/
abbrev HTE := Addr → Value → Option Addr → TE
abbrev HTS := Addr → Value → Option Addr → TS
abbrev HTA := Addr → Value → Option Addr → TA
def HE (K : PySem.W.Frag) (E : XK) (i : Nat) (t : HTE) (f : Addr → HO → VE) : Prop := ∀ (a C d : Addr) (o : HO) (B F : Hp) (α : List Addr) (z : Z) (σ : L2.St) (H : Hp) (G : Gx) (Qv : Sv → Z → Prop) (Q : VK), F d = some o → σ[i]? = some (some (.ref a)) → ErOk B E G → f C o G z Qv → Cor K B F α z σ H →
  (∀ F' α' z' r v H', Qv r z' → XTE B F α F' α' → Cor K B F' α' z' σ H' → Rv K F' α' v r → Q v H') → t a (.ref C) (some d) σ H Q
def HA (K : PySem.W.Frag) (E : XK) (i : Nat) (t : HTA) (f : Addr → HO → VA) : Prop := ∀ (a C d : Addr) (o : HO) (B F : Hp) (α : List Addr) (z : Z) (σ : L2.St) (H : Hp) (G : Gx) (Qv : List Sv → Z → Prop) (Q : List V → Hp → Prop), F d = some o → σ[i]? = some (some (.ref a)) → ErOk B E G → f C o G z Qv → Cor K B F α z σ H →
  (∀ F' α' z' rs vs H', Qv rs z' → XTE B F α F' α' → Cor K B F' α' z' σ H' → Rvs K F' α' vs rs → Q vs H') → t a (.ref C) (some d) σ H Q
def HS (K : PySem.W.Frag) (E : XK) (i : Nat) (t : HTS) (f : Addr → HO → VS) : Prop := ∀ (a C d : Addr) (o : HO) (B F : Hp) (α : List Addr) (z : Z) (σ : L2.St) (H : Hp) (G : Gx) (Dv : VEnds) (D : Ends), F d = some o → σ[i]? = some (some (.ref a)) → ErOk B E G → f C o G Dv z → Cor K B F α z σ H → EndOk K B F α Dv D → t a (.ref C) (some d) D σ H
theorem he_of {i : Nat} {t : TE} {f : VE} (h : RE K E t f) : HE K E i (fun _ _ _ => t) (fun _ _ => f) := fun a C d o B F α z σ H G Qv Q _ _ er hf C1 k => h B F α z σ H G Qv Q er hf C1 k
/-- e.f -/
def hfXf (C0 : Addr) (nm : Str) : Addr → HO → VE := fun C o _ z Q => C = C0 ∧ match o with
  | .xd fs => match fs.lookup nm with
    | some v => Q (.p (.a v)) z
    | none => False
  | _ => False
theorem he_xf {i : Nat} {C0 : Addr} {nm : Str} : HE K E i (fun a cls d => tXf a cls d C0 nm (tVar i)) (hfXf C0 nm) := by
  intro a C d o B F α z σ H G Qv Q hd hi er hf C1 k
  obtain ⟨rfl, hf⟩ := hf
  split at hf
  · rename_i fs
    split at hf
    · rename_i v hl
      exact ⟨_, hi, rfl, rfl, d, fs, v, rfl, C1.same _ _ hd, hl, k F α z _ v H hf .refl C1 (.a _)⟩
    · exact hf.elim
  · exact hf.elim
def valC : V → Option Value
  | .ref a => some (.ref a)
  | .ty s => some (.type s)
  | _ => none
theorem valC_ok {c : V} {cv : Value} (h : valC c = some cv) : ∀ u, RelV c u → u = cv := by
  intro u r
  cases c <;> cases h <;> exact r
/-- isinstance(e, c) -/
def hfIs (K : PySem.W.Frag) (ok : Addr → Prop) (c : V) : Addr → HO → VE := fun C o _ z Q => ok C ∧ match o with
  | .xd _ => match valC c with
    | some cv => ∃ b : Bool, PySem.W.kitOne K (.ref C) cv = some b ∧ Q (.p (trB b)) z
    | none => False
  | _ => False
theorem hfIs_at {ok : Addr → Prop} {c : V} {C : Addr} {o : HO} {G : Gx} {Q : Sv → Z → Prop} (h : hfIs K ok c C o G z Q) : ok C ∧ ∃ (fs : List (Str × V)) (cv : Value) (b : Bool), o = .xd fs ∧ (∀ u, RelV c u → u = cv) ∧ PySem.W.kitOne K (.ref C) cv = some b ∧ Q (.p (trB b)) z := by
  obtain ⟨h0, h⟩ := h
  split at h
  · rename_i fs
    split at h
    · rename_i cv hv
      obtain ⟨b, h2, h3⟩ := h
      exact ⟨h0, fs, cv, b, rfl, valC_ok hv, h2, h3⟩
    · exact h.elim
  · exact h.elim
theorem he_isD {i : Nat} {D : Addr} {c : V} : HE K E i (fun a cls d => tCB (fun xs H Q => cls = .ref D ∧ rIsD K D a d xs H Q) (tCons (tVar i) (tCons (tC c) tNil))) (hfIs K (fun C => C = D) c) := by
  intro a C d o B F α z σ H G Qv Q hd hi er hf C1 k
  obtain ⟨rfl, fs, cv, b, rfl, hc, hk, q⟩ := hfIs_at hf
  exact ⟨_, hi, rfl, c, cv, b, d, fs, rfl, hc, rfl, C1.same _ _ hd, hk, k F α z _ _ H q .refl C1 (.a _)⟩
theorem he_isD2 {i : Nat} {D1 D2 : Addr} {c : V} : HE K E i (fun a cls d => tCB (fun xs H Q => (cls = .ref D1 ∧ rIsD K D1 a d xs H Q) ∨ (cls = .ref D2 ∧ rIsD K D2 a d xs H Q)) (tCons (tVar i) (tCons (tC c) tNil))) (hfIs K (fun C => C = D1 ∨ C = D2) c) := by
  intro a C d o B F α z σ H G Qv Q hd hi er hf C1 k
  obtain ⟨rfl | rfl, fs, cv, b, rfl, hc, hk, q⟩ := hfIs_at hf
  · exact ⟨_, hi, .inl ⟨rfl, c, cv, b, d, fs, rfl, hc, rfl, C1.same _ _ hd, hk, k F α z _ _ H q .refl C1 (.a _)⟩⟩
  · exact ⟨_, hi, .inr ⟨rfl, c, cv, b, d, fs, rfl, hc, rfl, C1.same _ _ hd, hk, k F α z _ _ H q .refl C1 (.a _)⟩⟩
theorem he_isD3 {i : Nat} {D1 D2 D3 : Addr} {c : V} : HE K E i (fun a cls d => tCB (fun xs H Q => (cls = .ref D1 ∧ rIsD K D1 a d xs H Q) ∨ (cls = .ref D2 ∧ rIsD K D2 a d xs H Q) ∨ (cls = .ref D3 ∧ rIsD K D3 a d xs H Q)) (tCons (tVar i) (tCons (tC c) tNil))) (hfIs K (fun C => C = D1 ∨ C = D2 ∨ C = D3) c) := by
  intro a C d o B F α z σ H G Qv Q hd hi er hf C1 k
  obtain ⟨rfl | rfl | rfl, fs, cv, b, rfl, hc, hk, q⟩ := hfIs_at hf
  · exact ⟨_, hi, .inl ⟨rfl, c, cv, b, d, fs, rfl, hc, rfl, C1.same _ _ hd, hk, k F α z _ _ H q .refl C1 (.a _)⟩⟩
  · exact ⟨_, hi, .inr (.inl ⟨rfl, c, cv, b, d, fs, rfl, hc, rfl, C1.same _ _ hd, hk, k F α z _ _ H q .refl C1 (.a _)⟩)⟩
  · exact ⟨_, hi, .inr (.inr ⟨rfl, c, cv, b, d, fs, rfl, hc, rfl, C1.same _ _ hd, hk, k F α z _ _ H q .refl C1 (.a _)⟩)⟩
/-- and, or -/
def hfAnd (f g : Addr → HO → VE) : Addr → HO → VE := fun C o => fAndV (f C o) (g C o)
def hfOr (f g : Addr → HO → VE) : Addr → HO → VE := fun C o => fOrV (f C o) (g C o)
theorem he_and {i : Nat} {t u : HTE} {f g : Addr → HO → VE} (h1 : HE K E i t f) (h2 : HE K E i u g) : HE K E i (fun a cls d => tAndV (t a cls d) (u a cls d)) (hfAnd f g) := by
  intro a C d o B F α z σ H G Qv Q hd hi er h C1 k
  refine h1 a C d o B F α z σ H G _ _ hd hi er h C1 fun F1 α1 z1 r v H1 q1 x1 C1 r1 => ?_
  obtain ⟨b, rfl, qt, qf⟩ := q1
  refine ⟨b, Rp.atom r1, ?_⟩
  cases b with
  | true => exact iteT (h2 a C d o B F1 α1 z1 σ H1 G Qv Q (x1.1 _ _ hd) hi er (qt rfl) C1 fun F2 α2 z2 r v H2 q2 x2 C2 r2 => k F2 α2 z2 r v H2 q2 (x1.trans x2) C2 r2)
  | false => exact iteF (k F1 α1 z1 _ _ H1 (qf rfl) x1 C1 (.a _))
theorem he_or {i : Nat} {t u : HTE} {f g : Addr → HO → VE} (h1 : HE K E i t f) (h2 : HE K E i u g) : HE K E i (fun a cls d => tOrV (t a cls d) (u a cls d)) (hfOr f g) := by
  intro a C d o B F α z σ H G Qv Q hd hi er h C1 k
  refine h1 a C d o B F α z σ H G _ _ hd hi er h C1 fun F1 α1 z1 r v H1 q1 x1 C1 r1 => ?_
  obtain ⟨b, rfl, qt, qf⟩ := q1
  refine ⟨b, Rp.atom r1, ?_⟩
  cases b with
  | true => exact iteT (k F1 α1 z1 _ _ H1 (qt rfl) x1 C1 (.a _))
  | false => exact iteF (h2 a C d o B F1 α1 z1 σ H1 G Qv Q (x1.1 _ _ hd) hi er (qf rfl) C1 fun F2 α2 z2 r v H2 q2 x2 C2 r2 => k F2 α2 z2 r v H2 q2 (x1.trans x2) C2 r2)
theorem ha_nil {i : Nat} : HA K E i (fun _ _ _ => tNil) (fun _ _ => fNil) := fun a C d o B F α z σ H G Qv Q _ _ er hf C1 k => ra_nil B F α z σ H G Qv Q er hf C1 k
def hfCons (f : Addr → HO → VE) (g : Addr → HO → VA) : Addr → HO → VA := fun C o => fCons (f C o) (g C o)
theorem ha_cons {i : Nat} {t : HTE} {tr : HTA} {f : Addr → HO → VE} {g : Addr → HO → VA} (h1 : HE K E i t f) (h2 : HA K E i tr g) : HA K E i (fun a cls d => tCons (t a cls d) (tr a cls d)) (hfCons f g) := by
  intro a C d o B F α z σ H G Qv Q hd hi er h C1 k
  refine h1 a C d o B F α z σ H G _ _ hd hi er h C1 fun F1 α1 z1 r v H1 q1 x1 C1 r1 => ?_
  refine h2 a C d o B F1 α1 z1 σ H1 G _ _ (x1.1 _ _ hd) hi er q1 C1 fun F2 α2 z2 rs vs H2 q2 x2 C2 r2 => ?_
  exact k F2 α2 z2 _ _ H2 q2 (x1.trans x2) C2 (.cons (r1.ext x2) r2)
def hfTup (f : Addr → HO → VA) : Addr → HO → VE := fun C o => fTup (f C o)
theorem he_tup {i : Nat} {t : HTA} {f : Addr → HO → VA} (h : HA K E i t f) : HE K E i (fun a cls d => tTup (t a cls d)) (hfTup f) := by
  intro a C d o B F α z σ H G Qv Q hd hi er hf C1 k
  refine h a C d o B F α z σ H G _ _ hd hi er hf C1 fun F1 α1 z1 rs vs H1 q1 x1 C1 r1 => ?_
  obtain ⟨l, q1⟩ := q1
  obtain ⟨F2, ts, z2, q2, x2, C2, r2⟩ := frzs_ok q1 C1 r1
  refine ⟨by rw [r1.length]; exact l, fun p hp => ?_⟩
  obtain ⟨C3, x3⟩ := C2.fz (.tup vs) hp
  have r3 := r2.same x3.1
  exact k _ _ z2 _ _ _ q2 ((x1.trans x2).trans x3) C3 (Rp.tup (.of upd_same) (by rw [r1.length]; exact l) r3.1 r3.2)
theorem hs_of {i : Nat} {t : TS} {f : VS} (h : RS K E t f) : HS K E i (fun _ _ _ => t) (fun _ _ => f) := fun a C d o B F α z σ H G Dv D _ _ er hf C1 eo => h B F α z σ H G Dv D er hf C1 eo
def hfAsg (f : Addr → HO → VE) (s : Nat) : Addr → HO → VS := fun C o => fAsg (f C o) (fgName s)
theorem hs_asg {i s : Nat} {t : HTE} {f : Addr → HO → VE} (h : HE K E i t f) : HS K E i (fun a cls d => tAsg (t a cls d) (gName s)) (hfAsg f s) := by
  intro a C d o B F α z σ H G Dv D hd hi er hf C1 eo
  refine h a C d o B F α z σ H G _ _ hd hi er hf C1 fun F1 α1 z1 r v H1 q x C1 r1 => ?_
  obtain ⟨F2, t, z2, q2, x2, C2, r2⟩ := frz_ok q C1 r1
  exact eo.nx F2 α1 _ _ H1 q2 (x.trans x2) (C2.slot s r2)
def hfRet (f : Addr → HO → VE) : Addr → HO → VS := fun C o => fRet (f C o)
theorem hs_ret {i : Nat} {t : HTE} {f : Addr → HO → VE} (h : HE K E i t f) : HS K E i (fun a cls d => tRet (t a cls d)) (hfRet f) := by
  intro a C d o B F α z σ H G Dv D hd hi er hf C1 eo
  exact h a C d o B F α z σ H G _ _ hd hi er hf C1 fun F1 α1 z1 r v H1 q x C1 r1 => eo.rt F1 α1 z1 σ H1 r v q x C1 r1
/-- x = e, and then the rest -/
def hfSeq (f : Addr → HO → VE) (s i : Nat) (g : Addr → HO → VS) : Addr → HO → VS := fun C o G D z => s ≠ i ∧ f C o G z fun r z1 => frz r z1 fun t z2 => g C o G D (z2.set s (.p t))
theorem hs_seq {i s : Nat} {t : HTE} {u : HTS} {f : Addr → HO → VE} {g : Addr → HO → VS} (h : HE K E i t f) (h2 : HS K E i u g) : HS K E i (fun a cls d => tSeq (tAsg (t a cls d) (gName s)) (u a cls d)) (hfSeq f s i g) := by
  intro a C d o B F α z σ H G Dv D hd hi er hf C1 eo
  obtain ⟨ne, hf⟩ := hf
  refine h a C d o B F α z σ H G _ _ hd hi er hf C1 fun F1 α1 z1 r v H1 q x C1 r1 => ?_
  obtain ⟨F2, t, z2, q2, x2, C2, r2⟩ := frz_ok q C1 r1
  exact h2 a C d o B F2 α1 _ _ H1 G Dv D ((x.trans x2).1 _ _ hd) (by rw [List.getElem?_set_ne ne]; exact hi) er q2 (C2.slot s r2) (eo.ext (x.trans x2))
/-! ### the clauses -/
def Z.gone (z : Z) (i : Nat) : Z := ⟨z.e.set i none, z.c⟩
theorem Cor.gone (C : Cor K B F α z σ H) (i : Nat) {v : Option V} : Cor K B F α (z.gone i) (σ.set i v) H := by
  refine ⟨C.keep, C.same, C.len, C.nd, C.cell, by rw [List.length_set, C.elen]; exact (List.length_set ..).symm, fun j s e => ?_⟩
  have e : (z.e.set i none)[j]? = some (some s) := e
  by_cases q : i = j
  · subst q
    by_cases hi : i < z.e.length
    · rw [List.getElem?_set_self hi] at e; cases e
    · rw [List.getElem?_eq_none (by rw [List.length_set]; omega)] at e; cases e
  · rw [List.getElem?_set_ne q] at e
    obtain ⟨u, e1, e2⟩ := C.env j s e
    exact ⟨u, by rw [List.getElem?_set_ne q]; exact e1, e2⟩
def VEnds.gone (D : VEnds) (i : Nat) : VEnds := { nx := fun z => D.nx (z.gone i), rt := D.rt, bk := fun z => D.bk (z.gone i), ct := fun z => D.ct (z.gone i) }
abbrev VH := Gx → VEnds → Z → Gx
def Cls (K : PySem.W.Frag) (E : XK) (l : List Cls3) (g : VH) : Prop := ∀ (C d : Addr) (o : HO) (B F : Hp) (α : List Addr) (z : Z) (σ : L2.St) (H : Hp) (G : Gx) (Dv : VEnds) (D : Ends), F d = some o → ErOk B E G → g G Dv z C o → Cor K B F α z σ H → EndOk K B F α Dv D → wAny K (fun _ _ _ _ => False) D l (.ref C) (some d) σ H
def vhNil : VH := fun _ _ _ _ _ => False
def vhAs (K : PySem.W.Frag) (c : Value) (i : Nat) (h : Addr → HO → VS) (g : VH) : VH := fun G D z C o => i < z.e.length ∧ ∃ b, PySem.W.exmOne K (.ref C) c = some b ∧ (b = true → h C o G (D.gone i) (z.gone i)) ∧ (b = false → g G D z C o)
def vhNo (K : PySem.W.Frag) (c : Value) (h : VS) (g : VH) : VH := fun G D z C o => ∃ b, PySem.W.exmOne K (.ref C) c = some b ∧ (b = true → h G D z) ∧ (b = false → g G D z C o)
theorem cls_nil : Cls K E [] vhNil := fun C d o B F α z σ H G Dv D _ _ q _ _ => q
theorem cls_as {c : Value} {i : Nat} {ts : HTS} {h : Addr → HO → VS} {l : List Cls3} {g : VH} (h1 : HS K E i ts h) (h2 : Cls K E l g) : Cls K E ((c, some i, ts) :: l) (vhAs K c i h g) := by
  intro C d o B F α z σ H G Dv D hd er ⟨hi, b, hb, qt, qf⟩ C1 eo
  refine ⟨b, hb, fun e a _ => ?_, fun e => h2 C d o B F α z σ H G Dv D hd er (qf e) C1 eo⟩
  refine h1 a C d o B F α _ _ H G (Dv.gone i) _ hd (by rw [List.getElem?_set_self (by rw [C1.elen]; exact hi)]) er (qt e) (C1.gone i) ?_
  exact ⟨fun F' α' z' σ' H' q x C' => eo.nx F' α' _ _ H' q x (C'.gone i), fun F' α' z' σ' H' r v q x C' => eo.rt F' α' z' σ' H' r v q x C', fun F' α' z' σ' H' q x C' => eo.bk F' α' _ _ H' q x (C'.gone i), fun F' α' z' σ' H' q x C' => eo.ct F' α' _ _ H' q x (C'.gone i)⟩
theorem cls_no {c : Value} {ts : TS} {h : VS} {l : List Cls3} {g : VH} (h1 : RS K E ts h) (h2 : Cls K E l g) : Cls K E ((c, none, fun _ _ _ => ts) :: l) (vhNo K c h g) := by
  intro C d o B F α z σ H G Dv D hd er ⟨b, hb, qt, qf⟩ C1 eo
  exact ⟨b, hb, fun e a _ => h1 B F α z σ H G Dv D er (qt e) C1 eo, fun e => h2 C d o B F α z σ H G Dv D hd er (qf e) C1 eo⟩
/-! ### the whole -/
theorem CellOk.base {B' : Hp} {a : Addr} {c : Cell} (s : Same B B') (h : CellOk K α B' F H a c) : CellOk K α B F H a c := by
  cases c with
  | lst ts => exact ⟨h.1, s.free h.2.1, h.2.2⟩
  | obj C ts => exact ⟨h.1, s.free h.2.1, h.2.2⟩
  | pool => exact ⟨h.1, s.free h.2.1, h.2.2⟩
  | dead => exact h
  | grid rs =>
    obtain ⟨h1, h2, bs, h3, h4, h5, h6⟩ := h
    exact ⟨h1, s.free h2, bs, h3, h4, h5, fun i b r e1 e2 => by
      obtain ⟨g1, g2, g3⟩ := h6 i b r e1 e2
      exact ⟨g1, s.free g2, g3⟩⟩
  | nest ts =>
    obtain ⟨xs, h1, h2, h3, h4⟩ := h
    exact ⟨xs, h1, h2, h3, fun i v t e1 e2 => by
      rcases h4 i v t e1 e2 with g | ⟨b, us, ys, g1, g2, g3, g4, g5⟩
      · exact .inl g
      · exact .inr ⟨b, us, ys, g1, g2, g3, s.free g4, g5⟩⟩
theorem Cor.base {B' : Hp} (C : Cor K B' F α z σ H) (s : Same B B') : Cor K B F α z σ H :=
  ⟨s.trans C.keep, C.same, C.len, C.nd, fun k a c e f => (C.cell k a c e f).base s, C.elen, C.env⟩
theorem XTE.base {B' : Hp} {α' : List Addr} (x : XTE B' F α F' α') (s : Same B B') : XTE B F α F' α' := ⟨x.1, x.2.1, fun a o m e => (x.2.2 a o m e).imp id fun q => s.free q⟩
def fTry (f : VS) (g : VH) : VS := fun G D z => z.c = [] ∧ f (g G D z) D z
theorem rs_try {tb : WX → TS} {l : List Cls3} {f : VS} {g : VH} {tt : Ends → WX} (et : ∀ D, tt D = wAny K (fun _ _ _ _ => False) D l) (hb : ∀ (W : WX) (σ : L2.St), AtS K σ (fun cls d H => W cls d σ H) (tb W) f) (hh : Cls K E l g) : RS K E (fun D σ H => tb (tt D) D σ H) (fTry f g) := by
  intro B F α z σ H G Dv D er ⟨hc, hf⟩ C eo
  rw [et]
  have ea : α = [] := List.length_eq_zero_iff.mp (by rw [C.len, hc]; rfl)
  subst ea
  have C0 : Cor K H F [] z σ H := ⟨.refl _, C.same, C.len, C.nd, fun k a c e _ => (by simp at e), C.elen, C.env⟩
  refine hb _ σ H F [] z H (g G Dv z) Dv D (fun C1 o q H' d s hd => ?_) hf C0 ⟨fun F' α' z' σ' H' q x C' => eo.nx F' α' z' σ' H' q (x.base C.keep) (C'.base C.keep), fun F' α' z' σ' H' r v q x C' => eo.rt F' α' z' σ' H' r v q (x.base C.keep) (C'.base C.keep), fun F' α' z' σ' H' q x C' => eo.bk F' α' z' σ' H' q (x.base C.keep) (C'.base C.keep), fun F' α' z' σ' H' q x C' => eo.ct F' α' z' σ' H' q (x.base C.keep) (C'.base C.keep)⟩
  obtain ⟨C3, x3⟩ := (C.grow s).fz o hd
  exact hh C1 d o B _ [] z σ _ G Dv D upd_same er q C3 (eo.ext x3)
theorem rs_tryDrop {l : List Cls3} {P : Pv} {ta : TA} {fa : VA} {g : VH} (h : ∀ E', RA K E' ta fa) (hh : Cls K E l g) : RS K E (fun D σ H => tDrop (tCallS (spV K P) (WE (wAny K (fun _ _ _ _ => False) D l)) ta) D σ H) (fTry (fDrop (fCall (fun G => G) P fa)) g) :=
  rs_try (tb := fun W => tDrop (tCallS (spV K P) (WE W) ta)) (fun _ => rfl) (fun W σ => at_drop (at_callS (W := WE W) (h _))) hh
theorem rs_tryAsg {l : List Cls3} {P : Pv} {ta : TA} {fa : VA} {g : VH} {s : Nat} (h : ∀ E', RA K E' ta fa) (hh : Cls K E l g) : RS K E (fun D σ H => tAsg (tCallS (spV K P) (WE (wAny K (fun _ _ _ _ => False) D l)) ta) (gName s) D σ H) (fTry (fAsg (fCall (fun G => G) P fa) (fgName s)) g) :=
  rs_try (tb := fun W => tAsg (tCallS (spV K P) (WE W) ta) (gName s)) (fun _ => rfl) (fun W σ => at_asg (at_callS (W := WE W) (h _)) rg_name) hh
theorem rs_tryRet {l : List Cls3} {P : Pv} {ta : TA} {fa : VA} {g : VH} (h : ∀ E', RA K E' ta fa) (hh : Cls K E l g) : RS K E (fun D σ H => tRet (tCallS (spV K P) (WE (wAny K (fun _ _ _ _ => False) D l)) ta) D σ H) (fTry (fRet (fCall (fun G => G) P fa)) g) :=
  rs_try (tb := fun W => tRet (tCallS (spV K P) (WE W) ta)) (fun _ => rfl) (fun W σ => at_ret (at_callS (W := WE W) (h _))) hh
theorem cr_or2 {X : Cx} {n : Value} {r1 r2 : List V → Hp → VK → Prop} (h1 : CallR X n r1) (h2 : CallR X n r2) : CallR X n (fun vs H Q => r1 vs H Q ∨ r2 vs H Q) := cr_or h1 h2 fun _ _ _ h => h
theorem ok31 {A B C : Addr} : (fun X => X = A ∨ X = B ∨ X = C) A := .inl rfl
theorem ok32 {A B C : Addr} : (fun X => X = A ∨ X = B ∨ X = C) B := .inr (.inl rfl)
theorem ok33 {A B C : Addr} : (fun X => X = A ∨ X = B ∨ X = C) C := .inr (.inr rfl)
theorem ok21 {A B : Addr} : (fun X => X = A ∨ X = B) A := .inl rfl
theorem ok22 {A B : Addr} : (fun X => X = A ∨ X = B) B := .inr rfl
theorem relRef {c : V} {cv : Value} (h : ∀ u, RelV c u → u = cv) : ∀ u, RelV c u → u = cv := h
end
end VL
local macro_rules | `(tactic| kbo_bools) => `(tactic| first
  | (with_reducible refine' VL.rs_tryDrop (fun _ => ?_) ?_) | (with_reducible refine' VL.rs_tryAsg (fun _ => ?_) ?_) | (with_reducible refine' VL.rs_tryRet (fun _ => ?_) ?_)
  | (with_reducible refine' VL.cls_as ?_ ?_) | (with_reducible refine' VL.cls_no ?_ ?_) | with_reducible exact VL.cls_nil
  | (with_reducible refine' VL.hs_seq ?_ ?_) | (with_reducible refine' VL.hs_asg ?_) | (with_reducible refine' VL.hs_ret ?_) | (with_reducible refine' VL.hs_of ?_)
  | (with_reducible refine' VL.he_tup ?_) | with_reducible exact VL.he_xf | with_reducible exact VL.he_isD3 | with_reducible exact VL.he_isD2 | with_reducible exact VL.he_isD | (with_reducible refine' VL.he_and ?_ ?_) | (with_reducible refine' VL.he_or ?_ ?_)
  | with_reducible exact VL.ha_nil | (with_reducible refine' VL.ha_cons ?_ ?_) | (with_reducible refine' VL.he_of ?_))
local macro_rules | `(tactic| keq_hits) => `(tactic| first | exact Nat.le_of_ble_eq_true rfl | with_reducible exact VL.ok31 | with_reducible exact VL.ok32 | with_reducible exact VL.ok33 | with_reducible exact VL.ok21 | with_reducible exact VL.ok22)

set_option maxRecDepth 100000
set_option maxHeartbeats 8000000
namespace K14v
open PySem PySem.Spec PyProof.Rows L2 VL K14
section
variable {w : World} {K : PySem.W.Frag} {mg : Str → Option Value} {base : Heap}
def fauT (n : Nat) (ps : List Int) : Tr := match badP n [] ps with
  | some (false, e) => .tup [trS (Str.ofString "NoPerson"), trI e, trB true, trB false]
  | some (true, e) => .tup [trS (Str.ofString "NamedTwice"), trI e, trB true, trB false]
  | none => if ps.length ≠ n then .tup [trS (Str.ofString "WrongLength"), trI ps.length, trI n, trB true, trB false] else .tup [trS (Str.ofString "made")]
def pTryP (K : PySem.W.Frag) : Pv := fun ts PP _ => ∃ (days starts : List Int) (gap : Int) (ps : List Int), ts = [hT K days starts gap, trLI ps] ∧ days.length ≤ 60 ∧ starts.length ≤ 30 ∧ 0 ≤ gap ∧ gap ≤ 60 ∧ (∀ x ∈ days, 0 ≤ x) ∧ (∀ x ∈ starts, 1 ≤ x ∧ x ≤ (days.length : Int) + 1) ∧ ps.length ≤ 10000 ∧ PP (.t (fauT starts.length ps))
theorem ok_law_try_plan (T : Tx K mg) : Ok PG w K mg base CX0 8 (a_law_try_plan K) p_law_try_plan (spV K (pTryP K)) := by
  refine Ok.of 7 T.f_law_try_plan sc_law_try_plan bi_law_try_plan (by decide) (fun vs H Q E h => ?_) (fun cdv A outer s H vs Q E hr h => ?_)
  · obtain ⟨_, _, _, _, _, rq, ⟨_, _, _, _, rfl, _⟩, _⟩ := h
    exact rq.1
  · have T0 := T
    have ex_mNoPerson_NoPerson := T.mNoPerson_NoPerson
    have ex_mNoPerson_NamedTwice := T.mNoPerson_NamedTwice
    have ex_kNoPerson_NamedTwice := T.kNoPerson_NamedTwice
    have ex_mNoPerson_WrongLength := T.mNoPerson_WrongLength
    have ex_kNoPerson_WrongLength := T.kNoPerson_WrongLength
    have ex_mNoPerson_NightsError := T.mNoPerson_NightsError
    have ex_kNoPerson_NightsError := T.kNoPerson_NightsError
    have ex_kNoPerson_ValueError := T.kNoPerson_ValueError
    have ex_mNamedTwice_NoPerson := T.mNamedTwice_NoPerson
    have ex_kNamedTwice_NoPerson := T.kNamedTwice_NoPerson
    have ex_mNamedTwice_NamedTwice := T.mNamedTwice_NamedTwice
    have ex_mNamedTwice_WrongLength := T.mNamedTwice_WrongLength
    have ex_kNamedTwice_WrongLength := T.kNamedTwice_WrongLength
    have ex_mNamedTwice_NightsError := T.mNamedTwice_NightsError
    have ex_kNamedTwice_NightsError := T.kNamedTwice_NightsError
    have ex_kNamedTwice_ValueError := T.kNamedTwice_ValueError
    have ex_mWrongLength_NoPerson := T.mWrongLength_NoPerson
    have ex_kWrongLength_NoPerson := T.kWrongLength_NoPerson
    have ex_mWrongLength_NamedTwice := T.mWrongLength_NamedTwice
    have ex_kWrongLength_NamedTwice := T.kWrongLength_NamedTwice
    have ex_mWrongLength_WrongLength := T.mWrongLength_WrongLength
    have ex_mWrongLength_NightsError := T.mWrongLength_NightsError
    have ex_kWrongLength_NightsError := T.kWrongLength_NightsError
    have ex_kWrongLength_ValueError := T.kWrongLength_ValueError
    have ex_kPlan_Plan := T.kPlan_Plan
    have nd := sc_law_try_plan.nd
    refine ⟨_, pss_cons (ps_set (i := 2) nd rfl (.inl rfl) (pe_tup (pa_cons pe_str pa_nil)))
      (pss_cons (ps_try_any rfl rfl nd takes0
          (fun W pn xe tk _ => (pss_one (ps_expr (pcS (ok_one_after_another T) (hr.mono (by decide)) T.g_one_after_another (fun σ => passAt tk σ) (pa_cons (pv 0) (pa_cons (pv 1) pa_nil))))))
          (.as (i := 3) ⟨rfl, by decide, .inl T.e_NoPerson.gC⟩ rfl rfl (fun a oe cls d pn hz hf => (pss_one (ps_set (i := 2) nd rfl (.inl rfl) (pe_tup (pa_cons pe_str (pa_cons (pe_xf T.xNoPerson.1 T.nNoPerson_person hz hf (pv 3)) (pa_cons (pe_callB (call_isD T.xNoPerson.2 hz hf) (by rfl) T.m_isinstance (by decide +kernel) (pa_cons (pv 3) (pa_cons (pgC T.gNightsError) pa_nil))) (pa_cons (pe_callB (call_isD T.xNoPerson.2 hz hf) (by rfl) T.m_isinstance (by decide +kernel) (pa_cons (pv 3) (pa_cons (pgC T.e_NamedTwice.gC) pa_nil))) pa_nil))))))))
          (.as (i := 3) ⟨rfl, by decide, .inl T.e_NamedTwice.gC⟩ rfl rfl (fun a oe cls d pn hz hf => (pss_one (ps_set (i := 2) nd rfl (.inl rfl) (pe_tup (pa_cons pe_str (pa_cons (pe_xf T.xNamedTwice.1 T.nNamedTwice_person hz hf (pv 3)) (pa_cons (pe_callB (call_isD T.xNamedTwice.2 hz hf) (by rfl) T.m_isinstance (by decide +kernel) (pa_cons (pv 3) (pa_cons (pgC T.gNightsError) pa_nil))) (pa_cons (pe_callB (call_isD T.xNamedTwice.2 hz hf) (by rfl) T.m_isinstance (by decide +kernel) (pa_cons (pv 3) (pa_cons (pgC T.e_WrongLength.gC) pa_nil))) pa_nil))))))))
          (.as (i := 3) ⟨rfl, by decide, .inl T.e_WrongLength.gC⟩ rfl rfl (fun a oe cls d pn hz hf => (pss_one (ps_set (i := 2) nd rfl (.inl rfl) (pe_tup (pa_cons pe_str (pa_cons (pe_xf T.xWrongLength.1 T.nWrongLength_found hz hf (pv 3)) (pa_cons (pe_xf T.xWrongLength.1 T.nWrongLength_wanted hz hf (pv 3)) (pa_cons (pe_callB (call_isD T.xWrongLength.2 hz hf) (by rfl) T.m_isinstance (by decide +kernel) (pa_cons (pv 3) (pa_cons (pgC T.gNightsError) pa_nil))) (pa_cons (pe_callB (call_isD T.xWrongLength.2 hz hf) (by rfl) T.m_isinstance (by decide +kernel) (pa_cons (pv 3) (pa_cons (pgC T.e_NoPerson.gC) pa_nil))) pa_nil)))))))))
          .nil))))
      (pss_one (ps_ret (pv 2)))), ?_⟩
    try dsimp only [cxOf]
    refine run_V0 (by repeat' kbo_bools) h fun ts PP G hp _ => ?_
    obtain ⟨days, starts, gap, ps, rfl, ld, ls, g0, g1, hd, hs, lps, q⟩ := hp
    have se : ∀ t0 t1 : Tr, startE n_law_try_plan [t0, t1] = [some (.p t0), some (.p t1), none, none] := fun _ _ => rfl
    rw [se]; clear se h hr
    have f0 : ∀ e, badP starts.length [] ps = some (false, e) → fauT starts.length ps = .tup [trS (Str.ofString "NoPerson"), trI e, trB true, trB false] := fun e h => by unfold fauT; rw [h]
    have f1 : ∀ e, badP starts.length [] ps = some (true, e) → fauT starts.length ps = .tup [trS (Str.ofString "NamedTwice"), trI e, trB true, trB false] := fun e h => by unfold fauT; rw [h]
    have f2 : badP starts.length [] ps = none → ps.length ≠ starts.length → fauT starts.length ps = .tup [trS (Str.ofString "WrongLength"), trI ps.length, trI starts.length, trB true, trB false] := fun h c => by unfold fauT; rw [h]; exact if_pos c
    have f3 : badP starts.length [] ps = none → ps.length = starts.length → fauT starts.length ps = .tup [trS (Str.ofString "made")] := fun h c => by unfold fauT; rw [h]; exact if_neg (fun k => k c)
    keq_rows
    all_goals first | (rw [f0 _ (by assumption)] at q; exact q) | (rw [f1 _ (by assumption)] at q; exact q) | (rw [f2 (by assumption) (by assumption)] at q; exact q) | (rw [f3 (by assumption) (by assumption)] at q; exact q) | skip
theorem ok_law_try_counts (T : Tx K mg) : Ok PG w K mg base CX0 9 (a_law_try_counts K) p_law_try_counts (spV K (pTryP K)) := by
  refine Ok.of 8 T.f_law_try_counts sc_law_try_counts bi_law_try_counts (by decide) (fun vs H Q E h => ?_) (fun cdv A outer s H vs Q E hr h => ?_)
  · obtain ⟨_, _, _, _, _, rq, ⟨_, _, _, _, rfl, _⟩, _⟩ := h
    exact rq.1
  · have T0 := T
    have ex_mNoPerson_NoPerson := T.mNoPerson_NoPerson
    have ex_mNoPerson_NamedTwice := T.mNoPerson_NamedTwice
    have ex_kNoPerson_NamedTwice := T.kNoPerson_NamedTwice
    have ex_mNoPerson_WrongLength := T.mNoPerson_WrongLength
    have ex_kNoPerson_WrongLength := T.kNoPerson_WrongLength
    have ex_mNoPerson_NightsError := T.mNoPerson_NightsError
    have ex_kNoPerson_NightsError := T.kNoPerson_NightsError
    have ex_kNoPerson_ValueError := T.kNoPerson_ValueError
    have ex_mNamedTwice_NoPerson := T.mNamedTwice_NoPerson
    have ex_kNamedTwice_NoPerson := T.kNamedTwice_NoPerson
    have ex_mNamedTwice_NamedTwice := T.mNamedTwice_NamedTwice
    have ex_mNamedTwice_WrongLength := T.mNamedTwice_WrongLength
    have ex_kNamedTwice_WrongLength := T.kNamedTwice_WrongLength
    have ex_mNamedTwice_NightsError := T.mNamedTwice_NightsError
    have ex_kNamedTwice_NightsError := T.kNamedTwice_NightsError
    have ex_kNamedTwice_ValueError := T.kNamedTwice_ValueError
    have ex_mWrongLength_NoPerson := T.mWrongLength_NoPerson
    have ex_kWrongLength_NoPerson := T.kWrongLength_NoPerson
    have ex_mWrongLength_NamedTwice := T.mWrongLength_NamedTwice
    have ex_kWrongLength_NamedTwice := T.kWrongLength_NamedTwice
    have ex_mWrongLength_WrongLength := T.mWrongLength_WrongLength
    have ex_mWrongLength_NightsError := T.mWrongLength_NightsError
    have ex_kWrongLength_NightsError := T.kWrongLength_NightsError
    have ex_kWrongLength_ValueError := T.kWrongLength_ValueError
    have ex_kPlan_Plan := T.kPlan_Plan
    have nd := sc_law_try_counts.nd
    refine ⟨_, pss_cons (ps_set (i := 2) nd rfl (.inl rfl) (pe_tup (pa_cons pe_str pa_nil)))
      (pss_cons (ps_try_any rfl rfl nd takes0
          (fun W pn xe tk _ => (pss_one (ps_expr (pcS (ok_order_counts T) (hr.mono (by decide)) T.g_order_counts (fun σ => passAt tk σ) (pa_cons (pv 0) (pa_cons (pv 1) pa_nil))))))
          (.as (i := 3) ⟨rfl, by decide, .inl T.e_NoPerson.gC⟩ rfl rfl (fun a oe cls d pn hz hf => (pss_one (ps_set (i := 2) nd rfl (.inl rfl) (pe_tup (pa_cons pe_str (pa_cons (pe_xf T.xNoPerson.1 T.nNoPerson_person hz hf (pv 3)) (pa_cons (pe_callB (call_isD T.xNoPerson.2 hz hf) (by rfl) T.m_isinstance (by decide +kernel) (pa_cons (pv 3) (pa_cons (pgC T.gNightsError) pa_nil))) (pa_cons (pe_callB (call_isD T.xNoPerson.2 hz hf) (by rfl) T.m_isinstance (by decide +kernel) (pa_cons (pv 3) (pa_cons (pgC T.e_WrongLength.gC) pa_nil))) pa_nil))))))))
          (.as (i := 3) ⟨rfl, by decide, .inl T.e_NamedTwice.gC⟩ rfl rfl (fun a oe cls d pn hz hf => (pss_one (ps_set (i := 2) nd rfl (.inl rfl) (pe_tup (pa_cons pe_str (pa_cons (pe_xf T.xNamedTwice.1 T.nNamedTwice_person hz hf (pv 3)) (pa_cons (pe_callB (call_isD T.xNamedTwice.2 hz hf) (by rfl) T.m_isinstance (by decide +kernel) (pa_cons (pv 3) (pa_cons (pgC T.gNightsError) pa_nil))) (pa_cons (pe_callB (call_isD T.xNamedTwice.2 hz hf) (by rfl) T.m_isinstance (by decide +kernel) (pa_cons (pv 3) (pa_cons (pgC T.e_NoPerson.gC) pa_nil))) pa_nil))))))))
          (.as (i := 3) ⟨rfl, by decide, .inl T.e_WrongLength.gC⟩ rfl rfl (fun a oe cls d pn hz hf => (pss_one (ps_set (i := 2) nd rfl (.inl rfl) (pe_tup (pa_cons pe_str (pa_cons (pe_xf T.xWrongLength.1 T.nWrongLength_found hz hf (pv 3)) (pa_cons (pe_xf T.xWrongLength.1 T.nWrongLength_wanted hz hf (pv 3)) (pa_cons (pe_callB (call_isD T.xWrongLength.2 hz hf) (by rfl) T.m_isinstance (by decide +kernel) (pa_cons (pv 3) (pa_cons (pgC T.gNightsError) pa_nil))) (pa_cons (pe_callB (call_isD T.xWrongLength.2 hz hf) (by rfl) T.m_isinstance (by decide +kernel) (pa_cons (pv 3) (pa_cons (pgC T.e_NamedTwice.gC) pa_nil))) pa_nil)))))))))
          .nil))))
      (pss_one (ps_ret (pv 2)))), ?_⟩
    try dsimp only [cxOf]
    refine run_V0 (by repeat' kbo_bools) h fun ts PP G hp _ => ?_
    obtain ⟨days, starts, gap, ps, rfl, ld, ls, g0, g1, hd, hs, lps, q⟩ := hp
    have se : ∀ t0 t1 : Tr, startE n_law_try_counts [t0, t1] = [some (.p t0), some (.p t1), none, none] := fun _ _ => rfl
    rw [se]; clear se h hr
    have f0 : ∀ e, badP starts.length [] ps = some (false, e) → fauT starts.length ps = .tup [trS (Str.ofString "NoPerson"), trI e, trB true, trB false] := fun e h => by unfold fauT; rw [h]
    have f1 : ∀ e, badP starts.length [] ps = some (true, e) → fauT starts.length ps = .tup [trS (Str.ofString "NamedTwice"), trI e, trB true, trB false] := fun e h => by unfold fauT; rw [h]
    have f2 : badP starts.length [] ps = none → ps.length ≠ starts.length → fauT starts.length ps = .tup [trS (Str.ofString "WrongLength"), trI ps.length, trI starts.length, trB true, trB false] := fun h c => by unfold fauT; rw [h]; exact if_pos c
    have f3 : badP starts.length [] ps = none → ps.length = starts.length → fauT starts.length ps = .tup [trS (Str.ofString "made")] := fun h c => by unfold fauT; rw [h]; exact if_neg (fun k => k c)
    keq_rows
    all_goals first | (rw [f0 _ (by assumption)] at q; exact q) | (rw [f1 _ (by assumption)] at q; exact q) | (rw [f2 (by assumption) (by assumption)] at q; exact q) | (rw [f3 (by assumption) (by assumption)] at q; exact q) | skip
def pBase (K : PySem.W.Frag) : Pv := fun ts PP _ => ∃ (days starts : List Int) (gap : Int) (ps : List Int), ts = [hT K days starts gap, trLI ps] ∧ days.length ≤ 60 ∧ starts.length ≤ 30 ∧ 0 ≤ gap ∧ gap ≤ 60 ∧ (∀ x ∈ days, 0 ≤ x) ∧ (∀ x ∈ starts, 1 ≤ x ∧ x ≤ (days.length : Int) + 1) ∧ ps.length ≤ 10000 ∧ (badP starts.length [] ps = none → ps.length ≠ starts.length) ∧ PP (.t (trB true))
theorem ok_law_base (T : Tx K mg) : Ok PG w K mg base CX0 8 (a_law_base K) p_law_base (spV K (pBase K)) := by
  refine Ok.of 7 T.f_law_base sc_law_base bi_law_base (by decide) (fun vs H Q E h => ?_) (fun cdv A outer s H vs Q E hr h => ?_)
  · obtain ⟨_, _, _, _, _, rq, ⟨_, _, _, _, rfl, _⟩, _⟩ := h
    exact rq.1
  · have T0 := T
    have ex_mNoPerson_NoPerson := T.mNoPerson_NoPerson
    have ex_mNoPerson_NamedTwice := T.mNoPerson_NamedTwice
    have ex_kNoPerson_NamedTwice := T.kNoPerson_NamedTwice
    have ex_mNoPerson_WrongLength := T.mNoPerson_WrongLength
    have ex_kNoPerson_WrongLength := T.kNoPerson_WrongLength
    have ex_mNoPerson_NightsError := T.mNoPerson_NightsError
    have ex_kNoPerson_NightsError := T.kNoPerson_NightsError
    have ex_kNoPerson_ValueError := T.kNoPerson_ValueError
    have ex_mNamedTwice_NoPerson := T.mNamedTwice_NoPerson
    have ex_kNamedTwice_NoPerson := T.kNamedTwice_NoPerson
    have ex_mNamedTwice_NamedTwice := T.mNamedTwice_NamedTwice
    have ex_mNamedTwice_WrongLength := T.mNamedTwice_WrongLength
    have ex_kNamedTwice_WrongLength := T.kNamedTwice_WrongLength
    have ex_mNamedTwice_NightsError := T.mNamedTwice_NightsError
    have ex_kNamedTwice_NightsError := T.kNamedTwice_NightsError
    have ex_kNamedTwice_ValueError := T.kNamedTwice_ValueError
    have ex_mWrongLength_NoPerson := T.mWrongLength_NoPerson
    have ex_kWrongLength_NoPerson := T.kWrongLength_NoPerson
    have ex_mWrongLength_NamedTwice := T.mWrongLength_NamedTwice
    have ex_kWrongLength_NamedTwice := T.kWrongLength_NamedTwice
    have ex_mWrongLength_WrongLength := T.mWrongLength_WrongLength
    have ex_mWrongLength_NightsError := T.mWrongLength_NightsError
    have ex_kWrongLength_NightsError := T.kWrongLength_NightsError
    have ex_kWrongLength_ValueError := T.kWrongLength_ValueError
    have ex_kPlan_Plan := T.kPlan_Plan
    have nd := sc_law_base.nd
    refine ⟨_, pss_cons (ps_set (i := 2) nd rfl (.inl rfl) pe_bl)
      (pss_cons (ps_try_any rfl rfl nd takes0
          (fun W pn xe tk _ => (pss_one (ps_expr (pcS (ok_one_after_another T) (hr.mono (by decide)) T.g_one_after_another (fun σ => passAt tk σ) (pa_cons (pv 0) (pa_cons (pv 1) pa_nil))))))
          (.as (i := 3) ⟨rfl, by decide, .inl T.gNightsError⟩ rfl rfl (fun a oe cls d pn hz hf => (pss_one (ps_set (i := 2) nd rfl (.inl rfl) (pe_callB (cr_or2 (call_isD T.xNoPerson.2 hz hf) (cr_or2 (call_isD T.xNamedTwice.2 hz hf) (call_isD T.xWrongLength.2 hz hf))) (by rfl) T.m_isinstance (by decide +kernel) (pa_cons (pv 3) (pa_cons (pe_bltn (v := .ty "ValueError") (by rfl) T.m_ValueError (by decide +kernel) rfl) pa_nil))))))
          .nil))
      (pss_one (ps_ret (pv 2)))), ?_⟩
    try dsimp only [cxOf]
    refine run_V0 (by repeat' kbo_bools) h fun ts PP G hp _ => ?_
    obtain ⟨days, starts, gap, ps, rfl, ld, ls, g0, g1, hd, hs, lps, hb, q⟩ := hp
    have se : ∀ t0 t1 : Tr, startE n_law_base [t0, t1] = [some (.p t0), some (.p t1), none, none] := fun _ _ => rfl
    rw [se]; clear se h hr
    keq_rows
    all_goals first | exact q | exact absurd (by assumption) (hb (by assumption)) | skip
end
end K14v

set_option maxRecDepth 100000
set_option maxHeartbeats 4000000
/-! # xs.insert(i, x) -/
namespace VL
open PySem PySem.Spec PyProof.Rows L2
section
variable {K : PySem.W.Frag} {E : XK} {B F F' H : Hp} {α : List Addr} {z : Z} {σ : L2.St}
def insA {α : Type} (i : Int) (x : α) (xs : List α) : List α := xs.take i.toNat ++ [x] ++ xs.drop i.toNat
def gIns : Sv → List Sv → Z → (Sv → Z → Prop) → Prop := fun a rs z Q => ∃ (i : Int) (r : Sv), rs = [.p (trI i), r] ∧ 0 ≤ i ∧ i < 1000000 ∧ frz r z fun t z1 => ∃ k ts, a = .c k ∧ z1.c[k]? = some (.lst ts) ∧ ts.length < sizeLine ∧ Q (.p trN) (z1.put k (insA i t ts))
theorem rmt_ins : RMt K (fun x vs H Q => ∃ (l : Addr) (xs : List V) (i : Int) (y : V), x = .ref l ∧ vs = [.int i, y] ∧ H l = some (.lst xs) ∧ xs.length < sizeLine ∧ 0 ≤ i ∧ i < 2 ^ 63 ∧
    Q .non (upd H l (.lst (xs.take i.toNat ++ [y] ++ xs.drop i.toNat)))) gIns := by
  rintro B F α z σ H x vs a rs Q Q' ⟨i, r, rfl, h0, h63, h⟩ C h1 h2 kk
  cases h2 with
  | cons g1 g2 =>
  cases g2 with
  | cons g2 g3 =>
  cases g3
  have e1 := Rp.atom g1
  subst e1
  obtain ⟨F2, t, z2, q2, x2, C2, r2⟩ := frz_ok h C g2
  obtain ⟨k, ts, rfl, ec, l, q⟩ := q2
  obtain ⟨b, eb, rfl⟩ := h1
  obtain ⟨hF, hB, xs, hx, hq⟩ := C2.cell k b _ eb ec
  exact ⟨b, xs, i, _, rfl, rfl, hx, by rw [hq.1]; exact l, h0, by omega, kk F2 α _ _ _ _ q x2 (C2.upc eb ec (((hq.take _).append (.cons r2 .nil)).append (hq.drop _))) (.a _)⟩
theorem insA_len {α : Type} {i : Int} {x : α} {xs : List α} : (insA i x xs).length = xs.length + 1 := by
  unfold insA
  rw [List.length_append, List.length_append, List.length_take, List.length_drop, List.length_singleton]; omega
theorem insA_map {α β : Type} {f : α → β} {i : Int} {x : α} {xs : List α} : insA i (f x) (xs.map f) = (insA i x xs).map f := by
  unfold insA
  rw [List.map_append, List.map_append, List.map_take, List.map_drop]; rfl
theorem insA_mem {α : Type} {i : Int} {x : α} {xs : List α} : x ∈ insA i x xs := by
  unfold insA
  simp
theorem insA_dup {α : Type} {i : Int} {x : α} {xs : List α} (h : x ∈ xs) : ¬ (insA i x xs).Nodup := by
  unfold insA
  intro hn
  have h2 := h
  rw [← List.take_append_drop i.toNat xs] at h2
  rw [List.append_assoc] at hn
  obtain ⟨_, n2, n3⟩ := List.nodup_append.mp hn
  rcases List.mem_append.mp h2 with a | a
  · exact n3 _ a _ (List.mem_append_left _ (List.mem_singleton.mpr rfl)) rfl
  · obtain ⟨_, _, n4⟩ := List.nodup_append.mp n2
    exact n4 _ (List.mem_singleton.mpr rfl) _ a rfl
theorem sidIns {α : Type} {i : Int} {x : α} {xs : List α} (h : xs.length < 1000) : (insA i x xs).length ≤ sizeLine := by
  rw [insA_len]; exact sidL (by omega)
end
end VL
local macro_rules | `(tactic| kbo_bools) => `(tactic| (with_reducible refine' VL.re_bm VL.rmt_ins ?_ ?_))

set_option maxRecDepth 100000
set_option maxHeartbeats 8000000
namespace K14v
open PySem PySem.Spec PyProof.Rows L2 VL K14
section
variable {w : World} {K : PySem.W.Frag} {mg : Str → Option Value} {base : Heap}
def pOrderFault : Pv := fun ts PP _ => ∃ (ps : List Int) (n : Nat), ts = [trLI ps, trI n] ∧ ps.length ≤ 1000 ∧ PP (.t (fauT n ps))
theorem ok_law_order_fault (T : Tx K mg) : Ok PG w K mg base CX0 2 (a_law_order_fault K) p_law_order_fault (spV K (pOrderFault)) := by
  refine Ok.of 1 T.f_law_order_fault sc_law_order_fault bi_law_order_fault (by decide) (fun vs H Q E h => ?_) (fun cdv A outer s H vs Q E hr h => ?_)
  · obtain ⟨_, _, _, _, _, rq, ⟨_, _, rfl, _⟩, _⟩ := h
    exact rq.1
  · have T0 := T
    have nd := sc_law_order_fault.nd
    refine ⟨_, pss_cons (ps_for (passX rfl) rfl (pi_range1 rfl T.m_range (pa_cons (pe_callB (k_call_len_seq K rfl) (by rfl) T.m_len PySem.boot_len (pa_cons (pv 0) pa_nil)) pa_nil)) (pg_name (i := 2) nd rfl (.inl rfl))
        (pss_cons (ps_if (pt_not (pt_chain op_le op_lt pe_int (pe_ix (k_ix_list K rfl) (pv 0) (pv 2) (fun _ _ => rfl)) (pv 1))) (pss_one (ps_ret (pe_tup (pa_cons pe_str (pa_cons (pe_ix (k_ix_list K rfl) (pv 0) (pv 2) (fun _ _ => rfl)) (pa_cons pe_bl (pa_cons pe_bl pa_nil))))))) pss_nil)
          (pss_one (ps_if (pt_cmpR (k_op_in_seq K rfl) (pe_ix (k_ix_list K rfl) (pv 0) (pv 2) (fun _ _ => rfl)) (pe_slice (k_sl_list K rfl) (pv 0) po_none (po_some (pv 2))) (by rfl)) (pss_one (ps_ret (pe_tup (pa_cons pe_str (pa_cons (pe_ix (k_ix_list K rfl) (pv 0) (pv 2) (fun _ _ => rfl)) (pa_cons pe_bl (pa_cons pe_bl pa_nil))))))) pss_nil))))
      (pss_cons (ps_if (pt_cmpR op_ne (pe_callB (k_call_len_seq K rfl) (by rfl) T.m_len PySem.boot_len (pa_cons (pv 0) pa_nil)) (pv 1) (nomark _)) (pss_one (ps_ret (pe_tup (pa_cons pe_str (pa_cons (pe_callB (k_call_len_seq K rfl) (by rfl) T.m_len PySem.boot_len (pa_cons (pv 0) pa_nil)) (pa_cons (pv 1) (pa_cons pe_bl (pa_cons pe_bl pa_nil)))))))) pss_nil)
      (pss_one (ps_ret (pe_tup (pa_cons pe_str pa_nil))))), ?_⟩
    try dsimp only [cxOf]
    refine run_V0 (by repeat' kbo_bools) h fun ts PP G hp _ => ?_
    obtain ⟨ps, n, rfl, lp, q⟩ := hp
    have se : ∀ t0 t1 : Tr, startE n_law_order_fault [t0, t1] = [some (.p t0), some (.p t1), none] := fun _ _ => rfl
    rw [se]; clear se h hr
    have f0 : ∀ e, badP n [] ps = some (false, e) → fauT n ps = .tup [trS (Str.ofString "NoPerson"), trI e, trB true, trB false] := fun e h => by unfold fauT; rw [h]
    have f1 : ∀ e, badP n [] ps = some (true, e) → fauT n ps = .tup [trS (Str.ofString "NamedTwice"), trI e, trB true, trB false] := fun e h => by unfold fauT; rw [h]
    have f2 : badP n [] ps = none → ps.length ≠ n → fauT n ps = .tup [trS (Str.ofString "WrongLength"), trI ps.length, trI n, trB true, trB false] := fun h c => by unfold fauT; rw [h]; exact if_pos c
    have f3 : badP n [] ps = none → ps.length = n → fauT n ps = .tup [trS (Str.ofString "made")] := fun h c => by unfold fauT; rw [h]; exact if_neg (fun k => k c)
    keq_rows
    refine forR0 ps.length rfl (fun i z => z = ⟨[some (.p (trLI ps)), some (.p (trI n)), none], []⟩ ∧ badP n (ps.take i) (ps.drop i) = badP n [] ps) (wkM (by kx_w2) ⟨rfl, rfl⟩) (fun i z hi hz => ?_) (fun z hz => ?_)
    · obtain ⟨rfl, hb⟩ := hz
      have ex : ps[i]? = some (ps.getD i 0) := by rw [List.getD_eq_getElem?_getD, List.getElem?_eq_getElem hi]; rfl
      obtain ⟨b1, b2, b3⟩ := badP_step hb ex
      keq_rows
      all_goals simp only [Int.toNat_natCast] at *
      · rename_i c1 c2
        rw [f0 _ (b1 (fun c => c2 c.2))] at q
        exact q
      · rename_i c1 c2 c3
        rw [cutA_to (by omega) (by omega), Int.toNat_natCast] at c3
        rw [f1 _ (b2 ⟨c1, c2⟩ c3)] at q
        exact q
      · rename_i c1 c2 c3
        rw [cutA_to (by omega) (by omega), Int.toNat_natCast] at c3
        exact wkM (by kx_w2) ⟨rfl, b3 ⟨c1, c2⟩ c3⟩
      · rename_i c1
        rw [f0 _ (b1 (fun c => c1 c.1))] at q
        exact q
    · obtain ⟨rfl, hb⟩ := hz
      have hb2 := badP_end hb
      keq_rows
      all_goals first | (rw [f2 (by assumption) (by omega)] at q; exact q) | (rw [f3 (by assumption) (by omega)] at q; exact q)
/-- the place before, the last one before the first -/
def prevN (n : Nat) (p : Int) : Nat := if p = 0 then n - 1 else (p - 1).toNat
theorem atI_prev {ps : List Int} {p : Int} (h0 : 0 ≤ p) (h1 : p < ps.length) : atI (ps.map trI) (p - 1) = some (trI (ps.getD (prevN ps.length p) 0)) := by
  have hl : 0 < ps.length := by omega
  have key : ∀ k : Nat, k < ps.length → (ps.map trI)[k]? = some (trI (ps.getD k 0)) := fun k hk => by rw [List.getElem?_map, List.getD_eq_getElem?_getD, List.getElem?_eq_getElem hk]; rfl
  unfold atI
  by_cases c : p = 0
  · subst c
    unfold prevN ixN
    rw [if_pos rfl, if_neg (by decide), if_pos (by rw [List.length_map]; omega)]
    show (ps.map trI)[(0 - 1 + (((ps.map trI).length : Nat) : Int)).toNat]? = _
    rw [List.length_map, show ((0 : Int) - 1 + ((ps.length : Nat) : Int)).toNat = ps.length - 1 by omega]
    exact key _ (by omega)
  · unfold prevN ixN
    rw [if_neg c, if_pos (by omega), if_pos (by rw [List.length_map]; omega)]
    exact key _ (by omega)
theorem bad_in {n : Nat} {bs : List Int} {e : Int} (he : e ∈ bs) (hn : ¬ (0 ≤ e ∧ e < n)) : badP n [] bs = none → bs.length ≠ n := fun h => absurd ((badP_none.mp h).1 e he) hn
theorem bad_dup {n : Nat} {bs : List Int} (hn : ¬ bs.Nodup) : badP n [] bs = none → bs.length ≠ n := fun h => absurd (badP_none.mp h).2.1 hn
theorem set_dup {xs : List Int} {i j : Nat} (hi : i < xs.length) (hj : j < xs.length) (ne : i ≠ j) : ¬ (xs.set i (xs.getD j 0)).Nodup := fun hn => by
  obtain ⟨v, ev⟩ : ∃ v, v = xs.getD j 0 := ⟨_, rfl⟩
  rw [← ev] at hn
  have e1 : (xs.set i v)[i]? = some v := List.getElem?_set_self hi
  have e2 : (xs.set i v)[j]? = some v := by rw [List.getElem?_set_ne ne, ev, List.getD_eq_getElem?_getD, List.getElem?_eq_getElem hj]; rfl
  obtain ⟨h1, h2⟩ := List.getElem?_eq_some_iff.mp e1
  obtain ⟨h3, h4⟩ := List.getElem?_eq_some_iff.mp e2
  exact ne (nd_inj hn h1 h3 (h2.trans h4.symm))
local macro_rules | `(tactic| keq_hits) => `(tactic| first | ((with_reducible refine VL.sidIns ?_); (rw [List.length_map]); omega) | (with_reducible refine atI_prev ?_ ?_ <;> omega))
def pSpoiled : Pd := fun ts PP => ∃ (ps : List Int) (n : Nat), ts = [trLI ps, trI n] ∧ ps.length = n ∧ n ≤ 30 ∧ badP n [] ps = none ∧ ∀ bs : List Int, bs.length ≤ 40 → (badP n [] bs = none → bs.length ≠ n) → PP (.l (bs.map trI))
theorem ok_law_spoiled (T : Tx K mg) : Ok PG w K mg base CX0 3 (a_law_spoiled K) p_law_spoiled (spD K (pSpoiled)) := by
  refine Ok.of 2 T.f_law_spoiled sc_law_spoiled bi_law_spoiled (by decide) (fun vs H Q E h => ?_) (fun cdv A outer s H vs Q E hr h => ?_)
  · obtain ⟨_, _, _, _, _, _, rfl, _, _, _, _, rq, ⟨_, _, rfl, _⟩, _⟩ := h
    exact congrArg Nat.succ rq.1
  · have T0 := T
    have mt4 : Mt 4 := trivial
    have nd := sc_law_spoiled.nd
    refine ⟨_, pss_cons (ps_set (i := 3) nd rfl (.inl rfl) (pc (ok_law_draw T) hr T.g_law_draw pass0 (pa_cons (pv 0) (pa_cons pe_int pa_nil))))
      (pss_cons (ps_set (i := 4) nd rfl (.inl rfl) (pe_callTy (k_call_list_of K rfl) (by rfl) T.m_list (by decide +kernel) (pa_cons (pv 1) pa_nil)))
      (pss_cons (ps_if (PW.pt (pw_or (pt_cmpR op_eq (pv 3) pe_int (nomark _)) (pw_or1 (pt_cmpR op_eq (pv 2) pe_int (nomark _))))) (pss_cons (ps_set (i := 5) nd rfl (.inl rfl) (pe_ix (k_ix_list K rfl) (pe_lst (pa_cons (pe_op op_sub pe_int pe_int) (pa_cons (pv 2) (pa_cons (pe_op op_pow pe_int pe_int) (pa_cons (pe_op op_sub (pe_op op_sub pe_int (pv 2)) pe_int) pa_nil))))) (pc (ok_law_draw T) hr T.g_law_draw pass0 (pa_cons (pv 0) (pa_cons pe_int pa_nil))) (fun _ _ => rfl)))
        (pss_cons (ps_expr (pe_bm PySem.F.plainAttrs_list PySem.F.slot_list_insert PySem.F.type_list_insert mt_insert (pv 4) (pa_cons (pc (ok_law_draw T) hr T.g_law_draw pass0 (pa_cons (pv 0) (pa_cons (pe_op op_add (pv 2) pe_int) pa_nil))) (pa_cons (pv 5) pa_nil))))
        (pss_one (ps_ret (pv 4))))) pss_nil)
      (pss_cons (ps_set (i := 6) nd rfl (.inl rfl) (pc (ok_law_draw T) hr T.g_law_draw pass0 (pa_cons (pv 0) (pa_cons (pv 2) pa_nil))))
      (pss_cons (ps_if (pt_cmpR op_eq (pv 3) pe_int (nomark _)) (pss_cons (ps_expr (pe_bm PySem.F.plainAttrs_list PySem.F.slot_list_insert PySem.F.type_list_insert mt_insert (pv 4) (pa_cons (pc (ok_law_draw T) hr T.g_law_draw pass0 (pa_cons (pv 0) (pa_cons (pe_op op_add (pv 2) pe_int) pa_nil))) (pa_cons (pe_ix (k_ix_list K rfl) (pv 1) (pv 6) (fun _ _ => rfl)) pa_nil))))
        (pss_one (ps_ret (pv 4)))) pss_nil)
      (pss_cons (ps_if (PW.pt (pw_and (pt_cmpR op_eq (pv 3) pe_int (nomark _)) (pw_and1 (pt_cmpR op_gt (pv 2) pe_int (nomark _))))) (pss_cons (ps_asg (pe_ix (k_ix_list K rfl) (pv 4) (pe_op op_sub (pv 6) pe_int) (fun _ _ => rfl)) (pg_sub (pv 4) (pv 6) set_list))
        (pss_one (ps_ret (pv 4)))) pss_nil)
      (pss_one (ps_ret (pe_op op_cat (pe_slice (k_sl_list K rfl) (pv 4) po_none (po_some (pv 6))) (pe_slice (k_sl_list K rfl) (pv 4) (po_some (pe_op op_add (pv 6) pe_int)) po_none))))))))), ?_⟩
    try dsimp only [cxOf]
    refine run_D2 (E := E0) (by decide) (by repeat' kbo_bools) h fun ts PP hp _ => ?_
    obtain ⟨ps, n, rfl, lp, ln, hb, q⟩ := hp
    have se : ∀ t0 t1 : Tr, startE n_law_spoiled.tail [t0, t1] = [some (.p t0), some (.p t1), none, none, none, none] := fun _ _ => rfl
    rw [se]; clear se h hr
    keq_rows
    · rename_i w w0 w1 x x0 x1 y y0 y1
      rw [insA_map]
      have e9 : (10 : Int) ^ Int.toNat 9 = 1000000000 := by decide
      refine q _ (by rw [insA_len]; omega) (bad_in insA_mem ?_)
      split
      · omega
      · split
        · omega
        · split
          · rw [e9]; omega
          · omega
    · rename_i w w0 w1 x x0 x1 y y0 y1
      rw [insA_map]
      have e9 : (10 : Int) ^ Int.toNat 9 = 1000000000 := by decide
      refine q _ (by rw [insA_len]; omega) (bad_in insA_mem ?_)
      split
      · omega
      · split
        · omega
        · split
          · rw [e9]; omega
          · omega
    · rename_i p p0 p1 c y y0 y1
      rw [insA_map]
      refine q _ (by rw [insA_len]; omega) (bad_dup (insA_dup ?_))
      rw [List.getD_eq_getElem?_getD, List.getElem?_eq_getElem (by omega)]
      exact List.getElem_mem _
    · rename_i p p0 p1 c2 c3 c4
      rw [← List.map_set]
      have hne : p.toNat ≠ prevN ps.length p := by unfold prevN; split <;> omega
      have hlt : prevN ps.length p < ps.length := by unfold prevN; split <;> omega
      exact q _ (by rw [List.length_set]; omega) (bad_dup (set_dup (by omega) hlt hne))
    · rename_i p p0 p1 c2 c3 c4
      rw [← List.map_append, cutA_to (by omega) (by omega), cutA_from (by omega) (by omega)]
      have hl : (ps.take p.toNat ++ ps.drop (p + 1).toNat).length ≠ n := by rw [List.length_append, List.length_take, List.length_drop]; omega
      have hl2 : (ps.take p.toNat ++ ps.drop (p + 1).toNat).length ≤ 40 := by rw [List.length_append, List.length_take, List.length_drop]; omega
      exact q _ hl2 fun _ => hl
    · rename_i p p0 p1 c2 c3
      rw [← List.map_append, cutA_to (by omega) (by omega), cutA_from (by omega) (by omega)]
      have hl : (ps.take p.toNat ++ ps.drop (p + 1).toNat).length ≠ n := by rw [List.length_append, List.length_take, List.length_drop]; omega
      have hl2 : (ps.take p.toNat ++ ps.drop (p + 1).toNat).length ≤ 40 := by rw [List.length_append, List.length_take, List.length_drop]; omega
      exact q _ hl2 fun _ => hl
end
end K14v

set_option maxRecDepth 100000
set_option maxHeartbeats 8000000
namespace K14v
open PySem PySem.Spec PyProof.Rows L2 VL K14
section
variable {w : World} {K : PySem.W.Frag} {mg : Str → Option Value} {base : Heap}
def pLawWants : Pd := fun ts PP => ∃ (n m : Int), ts = [trI n, trI m] ∧ 0 ≤ n ∧ n ≤ 1000 ∧ 0 ≤ m ∧ m ≤ 1000 ∧ ∀ ds : List Int, ds.length = n.toNat → (∀ x ∈ ds, 0 ≤ x ∧ x ≤ m) → PP (.l (ds.map trI))
theorem ok_law_wants (T : Tx K mg) : Ok PG w K mg base CX0 4 (a_law_wants K) p_law_wants (spD K (pLawWants)) := by
  refine Ok.of 3 T.f_law_wants sc_law_wants bi_law_wants (by decide) (fun vs H Q E h => ?_) (fun cdv A outer s H vs Q E hr h => ?_)
  · obtain ⟨_, _, _, _, _, _, rfl, _, _, _, _, rq, ⟨_, _, rfl, _⟩, _⟩ := h
    exact congrArg Nat.succ rq.1
  · have T0 := T
    have nd := sc_law_wants.nd
    refine ⟨_, pss_one (ps_ret (pe_lc (own := [("night", 3)]) (g := gName 3) (tt := tYes) rfl nd (pi_range1 rfl T.m_range (pa_cons (pv 1) pa_nil)) (blkOk_by (N := n_law_wants) (sc := defScope s_law_wants) (by decide +kernel)) (fun _ _ _ _ _ => pg_name (i := 3) nd rfl (Or.inl rfl)) (fun _ _ _ _ _ => pts_nil) (fun _ _ _ _ _ => pc (ok_law_draw T) (hr.mono (by decide)) T.g_law_draw pass0 (pa_cons (pv 0) (pa_cons (pe_op op_add (pv 2) pe_int) pa_nil))))), ?_⟩
    try dsimp only [cxOf]
    refine run_D2 (E := E0) (by decide) (by repeat' kbo_bools) h fun ts PP hp _ => ?_
    obtain ⟨n, m, rfl, n0, n1, m0, m1, hp⟩ := hp
    have se : ∀ t0 t1 : Tr, startE n_law_wants.tail [t0, t1] = [some (.p t0), some (.p t1), none] := fun _ _ => rfl
    rw [se]; clear se h hr
    keq_rows
    refine lc_drw (List.range n.toNat) _ trI (fun x => 0 ≤ x ∧ x ≤ m) rfl (sidL (by rw [List.length_range]; omega)) (fun x hx acc Kp Ks hk => ?_) (fun ys hl hy => ?_)
    · keq_rows
      exact hk _ (by omega)
    · rw [List.length_range] at hl
      keq_rows
      exact hp ys hl hy
def pLawFirst : Pv := fun ts PP _ => ∃ (days starts : List Int) (gap : Int) (ps : List Int), ts = [trLI days, trLI starts, trI gap, trLI ps] ∧ days.length ≤ 1000 ∧ 0 ≤ gap ∧ gap ≤ 1000 ∧ ps.length ≤ 10000 ∧ (∀ p ∈ ps, 0 ≤ p ∧ p < starts.length) ∧ PP (.l ((chosen gap days starts ps).map trI))
theorem ok_law_first (T : Tx K mg) : Ok PG w K mg base CX0 2 (a_law_first K) p_law_first (spV K (pLawFirst)) := by
  refine Ok.of 1 T.f_law_first sc_law_first bi_law_first (by decide) (fun vs H Q E h => ?_) (fun cdv A outer s H vs Q E hr h => ?_)
  · obtain ⟨_, _, _, _, _, rq, ⟨_, _, _, _, rfl, _⟩, _⟩ := h
    exact rq.1
  · have T0 := T
    have mt4 : Mt 4 := trivial
    have nd := sc_law_first.nd
    refine ⟨_, pss_cons (ps_set (i := 4) nd rfl (.inl rfl) (pe_lst pa_nil))
      (pss_cons (ps_for (passX rfl) rfl (pi_range1 rfl T.m_range (pa_cons (pe_callB (k_call_len_seq K rfl) (by rfl) T.m_len PySem.boot_len (pa_cons (pv 0) pa_nil)) pa_nil)) (pg_name (i := 5) nd rfl (.inr rfl))
        (pss_cons (ps_set (i := 6) nd rfl (.inl rfl) (pe_callB (k_call_len_seq K rfl) (by rfl) T.m_len PySem.boot_len (pa_cons (pe_lc (own := [("person", 7)]) (g := gName 7) rfl nd (k_pi_list K rfl (pv 3)) (blkOk_by (N := n_law_first) (sc := defScope s_law_first) (by decide +kernel)) (fun _ _ _ _ _ => pg_name (i := 7) nd rfl (Or.inl rfl)) (fun _ _ _ _ _ => pts_one (pt_cmpR op_le (pe_ix (r := rIxL K) (ta := tVar 1) (tb := tVar 7) (k_ix_list K rfl) (pv 1) (pv 7) (fun _ _ => rfl)) (pe_op op_add (pv 5) pe_int) (nomark _))) (fun _ _ _ _ _ => pv 7)) pa_nil)))
          (pss_one (ps_expr (pe_bm PySem.F.plainAttrs_list PySem.F.slot_list_append PySem.F.type_list_append mt_append (pv 4) (pa_cons (pe_callB (call_min2 rfl) (by rfl) T.m_min (by decide +kernel) (pa_cons (pe_ix (k_ix_list K rfl) (pv 0) (pv 5) (fun _ _ => rfl)) (pa_cons (pe_op op_sub (pv 6) (pe_callB (k_cr_sum K rfl rfl) (by rfl) T.m_sum (by decide +kernel) (pa_cons (pe_slice (k_sl_list K rfl) (pv 4) (po_some (pe_callB (call_max2 rfl) (by rfl) T.m_max (by decide +kernel) (pa_cons pe_int (pa_cons (pe_op op_sub (pv 5) (pv 2)) pa_nil)))) (po_some (pv 5))) pa_nil))) pa_nil))) pa_nil))))))
      (pss_one (ps_ret (pv 4)))), ?_⟩
    try dsimp only [cxOf]
    refine run_V0 (by repeat' kbo_bools) h fun ts PP G hp _ => ?_
    obtain ⟨days, starts, gap, ps, rfl, ld, g0, g1, lp, hp, q⟩ := hp
    have se : ∀ t0 t1 t2 t3 : Tr, startE n_law_first [t0, t1, t2, t3] = [some (.p t0), some (.p t1), some (.p t2), some (.p t3), none, none, none, none] := fun _ _ _ _ => rfl
    rw [se]; clear se h hr
    keq_rows
    refine forR0 days.length rfl (fun i z => ∃ L : List Tr, z = ⟨[some (.p (trLI days)), some (.p (trLI starts)), some (.p (trI gap)), some (.p (trLI ps)), some (.c 0), none, none, none], [.lst L]⟩ ∧ L = (choF gap days (hereN starts ps) i).map trI) (wkM (by kx_w2) ⟨_, rfl, rfl⟩) (fun i z hi hz => ?_) (fun z hz => ?_)
    · obtain ⟨_, rfl, rfl⟩ := hz
      have cl := choF_len (gap := gap) (days := days) (h := hereN starts ps) (k := i)
      keq_rows
      refine lc_detP ps trI (fun p => starts.getD p.toNat 0 ≤ (i : Int) + 1) (fun p => trI p) rfl (sidL (by omega)) (fun p hpm acc Kp Ks hk hs => ?_) ?_
      · have := hp p hpm
        keq_rows
        · exact hk (by omega)
        · exact hs (by omega)
      · have := List.length_filter_le (fun p => decide (starts.getD p.toNat 0 ≤ (i : Int) + 1)) ps
        keq_rows
        refine wkM (by kx_w2) ⟨_, rfl, ?_⟩
        rw [cutA_between (by omega) (by omega) (by omega) (by omega), List.take_of_length_le (by rw [List.length_drop, cl, Int.toNat_natCast]; omega), drop_max cl g0, choF_succ, List.map_append, Int.toNat_natCast]
        rfl
    · obtain ⟨_, rfl, rfl⟩ := hz
      have cl := choF_len (gap := gap) (days := days) (h := hereN starts ps) (k := days.length)
      keq_rows
      exact q
/-- the parts of a house, and what else is told -/
abbrev partsT (days starts : List Int) (gap : Int) (us : List Tr) : Tr := .lst (trLI days :: trLI starts :: trI gap :: us)
theorem atP0 {a b c : Tr} {us : List Tr} : L2.atI (a :: b :: c :: us) 0 = some a := by unfold L2.atI ixN; rw [if_pos (by decide), if_pos (by show (0 : Int) < ((us.length + 1 + 1 + 1 : Nat) : Int); omega)]; rfl
theorem atP1 {a b c : Tr} {us : List Tr} : L2.atI (a :: b :: c :: us) 1 = some b := by unfold L2.atI ixN; rw [if_pos (by decide), if_pos (by show (1 : Int) < ((us.length + 1 + 1 + 1 : Nat) : Int); omega)]; rfl
theorem atP2 {a b c : Tr} {us : List Tr} : L2.atI (a :: b :: c :: us) 2 = some c := by unfold L2.atI ixN; rw [if_pos (by decide), if_pos (by show (2 : Int) < ((us.length + 1 + 1 + 1 : Nat) : Int); omega)]; rfl
theorem chosen_get {gap : Int} {days starts ps : List Int} {k : Nat} (h : k < days.length) : (chosen gap days starts ps).getD k 0 = xF gap days starts ps k := by
  unfold chosen choF xF
  rw [GR.fc_map, List.getD_eq_getElem?_getD, List.getElem?_map, List.getElem?_range h]; rfl
local macro_rules | `(tactic| keq_hits) => `(tactic| first | exact atP0 | exact atP1 | exact atP2)
local macro_rules | `(tactic| kbo_bools) => `(tactic| first | (with_reducible refine' VL.rs_asgG (s := 3) (by with_reducible assumption) ?_ ?_ ?_ ?_) | (with_reducible exact VL.ri_grid (i := 3)) | (with_reducible exact VL.rs_alias (i := 3)))
def pDue : Pv := fun ts PP _ => ∃ (days starts : List Int) (gap : Int) (us : List Tr) (ps : List Int), ts = [partsT days starts gap us, trLI ps] ∧ days.length ≤ 60 ∧ starts.length ≤ 30 ∧ 0 ≤ gap ∧ gap ≤ 60 ∧ (∀ x ∈ days, 0 ≤ x) ∧ (∀ x ∈ starts, 1 ≤ x ∧ x ≤ (days.length : Int) + 1) ∧ badP starts.length [] ps = none ∧ ps.length = starts.length ∧ PP (.l ((onR gap days starts ps).map trTI))
theorem ok_law_due (T : Tx K mg) : Ok PG w K mg base CX0 3 (a_law_due K) p_law_due (spV K (pDue)) := by
  refine Ok.of 2 T.f_law_due sc_law_due bi_law_due (by decide) (fun vs H Q E h => ?_) (fun cdv A outer s H vs Q E hr h => ?_)
  · obtain ⟨_, _, _, _, _, rq, ⟨_, _, _, _, _, rfl, _⟩, _⟩ := h
    exact rq.1
  · have T0 := T
    have mt3 : Mt 3 := trivial
    have nd := sc_law_due.nd
    refine ⟨_, pss_cons (ps_set (i := 2) nd rfl (.inl rfl) (pe_ix (k_ix_list K rfl) (pv 0) pe_int (fun _ _ => rfl)))
      (pss_cons (ps_setLc (i := 3) (own := [("day", 4)]) (g := gName 4) (tt := tYes) rfl nd rfl rfl (sw_true rfl rfl rfl (by decide +kernel)) (k_pi_list K rfl (pv 2)) (blkOk_by (N := n_law_due) (sc := defScope s_law_due) (by decide +kernel)) (fun _ _ _ _ _ => pg_name (i := 4) nd rfl (Or.inl rfl)) (fun _ _ _ _ _ => pts_nil) (fun _ _ _ _ _ => pe_lst pa_nil))
      (pss_cons (ps_set (i := 5) nd rfl (.inl rfl) (pe_op op_repI (pe_lst (pa_cons pe_int pa_nil)) (pe_callB (k_call_len_seq K rfl) (by rfl) T.m_len PySem.boot_len (pa_cons (pv 2) pa_nil))))
      (pss_cons (ps_for (passX rfl) rfl (pi_range1 rfl T.m_range (pa_cons (pe_callB (k_call_len_seq K rfl) (by rfl) T.m_len PySem.boot_len (pa_cons (pv 1) pa_nil)) pa_nil)) (pg_name (i := 6) nd rfl (.inl rfl))
        (pss_cons (ps_set (i := 7) nd rfl (.inl rfl) (pc (ok_law_first T) hr T.g_law_first pass0 (pa_cons (pv 2) (pa_cons (pe_ix (k_ix_list K rfl) (pv 0) pe_int (fun _ _ => rfl)) (pa_cons (pe_ix (k_ix_list K rfl) (pv 0) pe_int (fun _ _ => rfl)) (pa_cons (pe_slice (k_sl_list K rfl) (pv 1) po_none (po_some (pe_op op_add (pv 6) pe_int))) pa_nil))))))
          (pss_cons (ps_for (passX rfl) rfl (pi_range1 rfl T.m_range (pa_cons (pe_callB (k_call_len_seq K rfl) (by rfl) T.m_len PySem.boot_len (pa_cons (pv 2) pa_nil)) pa_nil)) (pg_name (i := 8) nd rfl (.inl rfl))
            (pss_one (ps_if (pt_cmpR op_gt (pe_ix (k_ix_list K rfl) (pv 7) (pv 8) (fun _ _ => rfl)) (pe_ix (k_ix_list K rfl) (pv 5) (pv 8) (fun _ _ => rfl)) (nomark _)) (pss_cons (ps_set (i := 9) nd rfl (.inl rfl) (pe_ix (k_ix_list K rfl) (pv 3) (pv 8) (fun _ _ => rfl)))
                (pss_one (ps_expr (pe_bm PySem.F.plainAttrs_list PySem.F.slot_list_append PySem.F.type_list_append mt_append (pv 9) (pa_cons (pe_ix (k_ix_list K rfl) (pv 1) (pv 6) (fun _ _ => rfl)) pa_nil))))) pss_nil)))
          (pss_one (ps_set (i := 5) nd rfl (.inl rfl) (pv 7))))))
      (pss_one (ps_ret (pe_lc (own := [("row", 9)]) (g := gName 9) (tt := tYes) rfl nd (k_pi_list K rfl (pv 3)) (blkOk_by (N := n_law_due) (sc := defScope s_law_due) (by decide +kernel)) (fun _ _ _ _ _ => pg_name (i := 9) nd rfl (Or.inr rfl)) (fun _ _ _ _ _ => pts_nil) (fun _ _ _ _ _ => pe_callTy (k_call_tuple_of K rfl) (by rfl) T.m_tuple (by decide +kernel) (pa_cons (pe_lc (own := [("person", 10)]) (g := gName 10) rfl nd (pi_range1 rfl T.m_range (pa_cons (pe_callB (r := rLenQ K) (k_call_len_seq K rfl) (by rfl) T.m_len PySem.boot_len (pa_cons (pv 1) pa_nil)) pa_nil)) (blkOk_by (N := n_law_due) (by kernel_rfl)) (fun _ _ _ _ _ => pg_name (i := 10) nd rfl (Or.inl rfl)) (fun _ _ _ _ _ => pts_one (pt_cmpR (k_op_in_seq K rfl) (pv 10) (pv 9) (by rfl))) (fun _ _ _ _ _ => pv 10)) pa_nil)))))))), ?_⟩
    try dsimp only [cxOf]
    refine run_V0 (by repeat' kbo_bools) h fun ts PP G hp _ => ?_
    obtain ⟨days, starts, gap, us, ps, rfl, ld, ls, g0, g1, hd, hs, hb, hl, q⟩ := hp
    have se : ∀ t0 t1 : Tr, startE n_law_due [t0, t1] = [some (.p t0), some (.p t1), none, none, none, none, none, none, none, none, none] := fun _ _ => rfl
    rw [se]; clear se h hr
    have hp := (badP_none.mp hb).1
    have hn := (badP_none.mp hb).2.1
    have hst : ∀ p ∈ ps, 0 ≤ starts.getD p.toNat 0 := fun p hpm => by
      have := hp p hpm
      have := hs (starts.getD p.toNat 0) (by rw [List.getD_eq_getElem?_getD, List.getElem?_eq_getElem (by omega)]; exact List.getElem_mem _)
      omega
    keq_rows
    refine lcG_map days trI (fun _ => []) rfl (sidL (by omega)) (fun r hr acc Kp hk => ?_) ?_
    · keq_rows
      exact hk
    · keq_rows
      refine forR0 ps.length rfl (fun t z => ∃ (rs : List (List Int)) (B : List Int) (R : List (List Tr)), z = ⟨[some (.p (partsT days starts gap us)), some (.p (trLI ps)), some (.p (trLI days)), some (.c 0), none, some (.p (trLI B)), none, none, none, none, none], [.grid R]⟩ ∧ R = (rs.map fun r => r.map trI) ∧ rs.length = days.length ∧ (∀ r ∈ rs, r.length ≤ t) ∧ B.length = days.length ∧ (∀ k, k < days.length → B.getD k 0 = xF gap days starts (ps.take t) k) ∧ ∀ k, k < days.length → ∀ e, e ∈ rs.getD k [] ↔ OnW gap days starts (ps.take t) k e)
        (wkM (by kx_w2) ⟨days.map fun _ => [], List.replicate ((days.length : Nat) : Int).toNat 0, _, rfl, by rw [List.map_map]; rfl, by rw [List.length_map], ?_, by rw [List.length_replicate, Int.toNat_natCast], ?_, ?_⟩) (fun t z ht hz => ?_) (fun z hz => ?_)
      · intro r hr
        obtain ⟨_, _, rfl⟩ := List.mem_map.mp hr
        exact Nat.zero_le _
      · intro k hk
        rw [List.take_zero, xF_nil hd hk, List.getD_eq_getElem?_getD, List.getElem?_replicate, if_pos (by omega)]; rfl
      · intro k hk e
        rw [List.getD_eq_getElem?_getD, List.getElem?_map, List.getElem?_eq_getElem hk]
        refine ⟨fun h => (by cases h), fun h => ?_⟩
        obtain ⟨s, a, _⟩ := h
        simp at a
      · obtain ⟨rs, B, _, rfl, rfl, l1, l2, l3, h4, h5⟩ := hz
        have gx : ps[t]? = some (ps.getD t 0) := by rw [List.getD_eq_getElem?_getD, List.getElem?_eq_getElem ht]; rfl
        have hv : ∀ p ∈ ps.take (t + 1), 0 ≤ p ∧ p < (starts.length : Int) := fun p hpm => hp p (List.mem_of_mem_take hpm)
        have cl := chosen_len (gap := gap) (days := days) (starts := starts) (ps := ps.take (t + 1))
        have etk : cutA ps none (some ((t : Int) + 1)) = ps.take (t + 1) := by rw [cutA_to (by omega) (by omega)]; rfl
        have tl : (ps.take (t + 1)).length ≤ 30 := by rw [List.length_take]; omega
        have ea : [trLI days, trLI starts, trI gap, Tr.lst (cutA (List.map trI ps) none (some ((t : Int) + 1)))] = [trLI days, trLI starts, trI gap, trLI (ps.take (t + 1))] := by rw [cutA_map, etk]
        keq_rows
        obtain ⟨x, ex⟩ : ∃ x, x = ps.getD t 0 := ⟨_, rfl⟩
        obtain ⟨A, eA⟩ : ∃ A, A = chosen gap days starts (ps.take (t + 1)) := ⟨_, rfl⟩
        have x0 : 0 ≤ starts.getD x.toNat 0 := hst x (by rw [ex]; exact getD_memI ht)
        have tk : ps.take (t + 1) = ps.take t ++ [x] := by rw [take_snoc ht, ex]
        have fb := (flg_is gap days starts (ps.take t) x).bit
        have hA : ∀ k, k < days.length → A.getD k 0 = B.getD k 0 + flg gap days starts (ps.take t) x k := fun k hk => by rw [eA, chosen_get hk, h4 k hk, tk, xF_snoc x0]
        rw [← eA] at cl ⊢
        clear hv etk ea
        refine forR0 days.length (by congr 2) (fun m z => ∃ (rs' : List (List Int)) (R : List (List Tr)), z = ⟨[some (.p (partsT days starts gap us)), some (.p (trLI ps)), some (.p (trLI days)), some (.c 0), none, some (.p (trLI B)), some (.p (trI t)), some (.p (trLI A)), none, none, none], [.grid R]⟩ ∧ R = (rs'.map fun r => r.map trI) ∧ rs'.length = days.length ∧ ∀ k : Nat, rs'.getD k [] = if k < m ∧ flg gap days starts (ps.take t) x k = 1 then rs.getD k [] ++ [x] else rs.getD k [])
          (wkM (by kx_w2) ⟨rs, _, rfl, rfl, l1, fun k => by rw [if_neg (by omega)]⟩) (fun m z hm hz => ?_) (fun z hz => ?_)
        · obtain ⟨rs', _, rfl, rfl, a1, a2⟩ := hz
          have er : rs'[m]? = some (rs.getD m []) := by
            have := a2 m
            rw [if_neg (by omega), List.getD_eq_getElem?_getD, List.getElem?_eq_getElem (by omega)] at this
            rw [List.getElem?_eq_getElem (by omega)]
            exact congrArg some this
          have er2 : (rs'.map fun r => r.map trI)[((m : Nat) : Int).toNat]? = some ((rs.getD m []).map trI) := by rw [Int.toNat_natCast, List.getElem?_map, er]; rfl
          have lrm : (rs.getD m []).length ≤ t := l2 _ (by rw [List.getD_eq_getElem?_getD, List.getElem?_eq_getElem (by omega)]; exact List.getElem_mem _)
          have lrm2 : ((rs.getD m []).map trI).length < sizeLine := by rw [List.length_map]; exact sidLt (by omega)
          have hAm := hA m hm
          keq_rows
          · rename_i hlt
            rw [Int.toNat_natCast] at hlt
            have hf : flg gap days starts (ps.take t) x m = 1 := (fb m).resolve_left fun q => by omega
            refine wkM (by kx_w2) ⟨rs'.set m (rs.getD m [] ++ [x]), _, rfl, by rw [List.map_set, List.map_append, Int.toNat_natCast, Int.toNat_natCast, ← ex]; rfl, by rw [List.length_set]; exact a1, fun k => ?_⟩
            rw [List.getD_eq_getElem?_getD, List.getElem?_set]
            by_cases c : m = k
            · subst c
              rw [if_pos rfl, if_pos (by omega), if_pos ⟨by omega, hf⟩]; rfl
            · rw [if_neg c, ← List.getD_eq_getElem?_getD, a2 k]
              by_cases d : k < m ∧ flg gap days starts (ps.take t) x k = 1
              · rw [if_pos d, if_pos ⟨by omega, d.2⟩]
              · rw [if_neg d, if_neg (fun q => d ⟨by omega, q.2⟩)]
          · rename_i hlt
            rw [Int.toNat_natCast] at hlt
            have hf : flg gap days starts (ps.take t) x m = 0 := (fb m).resolve_right fun q => by omega
            refine wkM (by kx_w2) ⟨rs', _, rfl, rfl, a1, fun k => ?_⟩
            rw [a2 k]
            by_cases c : m = k
            · subst c
              rw [if_neg (by omega), if_neg (by omega)]
            · by_cases d : k < m ∧ flg gap days starts (ps.take t) x k = 1
              · rw [if_pos d, if_pos ⟨by omega, d.2⟩]
              · rw [if_neg d, if_neg (fun q => d ⟨by omega, q.2⟩)]
        · obtain ⟨rs', _, rfl, rfl, a1, a2⟩ := hz
          keq_rows
          refine wkM (by kx_w2) ⟨rs', A, _, rfl, rfl, a1, fun r hr => ?_, cl, fun k hk => by rw [eA]; exact chosen_get hk, fun k hk e => ?_⟩
          · obtain ⟨k, hk, rfl⟩ := mem_getD hr
            have := l2 (rs.getD k []) (by rw [List.getD_eq_getElem?_getD, List.getElem?_eq_getElem (by omega)]; exact List.getElem_mem _)
            rw [a2 k]
            split
            · rw [List.length_append]; exact Nat.succ_le_succ this
            · omega
          · rw [on_take ht, ← h5 k hk e, a2 k, ← ex]
            by_cases d : flg gap days starts (ps.take t) x k = 1
            · rw [if_pos ⟨hk, d⟩, List.mem_append, List.mem_singleton]
              constructor
              · rintro (h | rfl)
                · exact .inl h
                · exact .inr ⟨rfl, d⟩
              · rintro (h | ⟨rfl, _⟩)
                · exact .inl h
                · exact .inr rfl
            · rw [if_neg (fun q => d q.2)]
              refine ⟨.inl, fun h => ?_⟩
              rcases h with h | ⟨rfl, h⟩
              · exact h
              · exact absurd h d
      · obtain ⟨rs, B, _, rfl, rfl, l1, l2, l3, h4, h5⟩ := hz
        rw [List.take_length] at h5
        have hsz : ∀ r ∈ (rs.map fun r => r.map trI), r.length ≤ sizeLine := fun r hr => by
          obtain ⟨u, hu, rfl⟩ := List.mem_map.mp hr
          rw [List.length_map]
          exact sidL (by have := l2 u hu; omega)
        keq_rows
        refine lc_map rs trLI (fun r => .tup (((List.range ps.length).filter fun e : Nat => decide ((e : Int) ∈ r)).map fun e : Nat => trI e)) (by rw [List.map_map]; rfl) (sidL (by omega)) (fun r hr acc Kp Ks hk => ?_) ?_
        · have lr := l2 r hr
          keq_rows
          refine lc_detP (List.range ps.length) _ (fun e => (e : Int) ∈ r) (fun e => trI (e : Nat)) rfl (sidL (by rw [List.length_range]; omega)) (fun e he acc Kp Ks hk hs => ?_) ?_
          · have := List.mem_range.mp he
            keq_rows
            · exact hk (by assumption)
            · exact hs (by assumption)
          · have := List.length_filter_le (fun e : Nat => decide ((e : Int) ∈ r)) (List.range ps.length)
            rw [List.length_range] at this
            keq_rows
            exact hk
        · keq_rows
          classical
          have efin : rs.map (fun r => Tr.tup (((List.range ps.length).filter fun e : Nat => decide ((e : Int) ∈ r)).map fun e : Nat => trI e)) = (onR gap days starts ps).map trTI := by
            refine List.ext_getElem? fun k => ?_
            rw [List.getElem?_map, List.getElem?_map]
            unfold onR
            rw [List.getElem?_map]
            by_cases hk : k < days.length
            · rw [List.getElem?_range hk, List.getElem?_eq_getElem (by omega), Option.map_some, Option.map_some, Option.map_some]
              congr 1
              show Tr.tup _ = Tr.tup _
              congr 1
              rw [List.filter_map, List.map_map, hl]
              congr 1
              refine List.filter_congr fun e he => ?_
              have := h5 k hk (e : Int)
              rw [List.getD_eq_getElem?_getD, List.getElem?_eq_getElem (by omega)] at this
              have this : (e : Int) ∈ rs[k] ↔ OnW gap days starts ps k (e : Int) := this
              show decide _ = decide _
              by_cases c : OnW gap days starts ps k (e : Int)
              · rw [decide_eq_true c, decide_eq_true (this.mpr c)]
              · rw [decide_eq_false c, decide_eq_false (fun q => c (this.mp q))]
            · rw [List.getElem?_eq_none (by omega), List.getElem?_eq_none (by rw [List.length_range]; omega)]; rfl
          rw [efin]
          exact q
end
end K14v

set_option maxRecDepth 100000
set_option maxHeartbeats 8000000
namespace K14v
open PySem PySem.Spec PyProof.Rows L2 VL K14
section
variable {w : World} {K : PySem.W.Frag} {mg : Str → Option Value} {base : Heap}
def pLawMixed : Pd := fun ts PP => ∃ (row : List Int), ts = [trLI row] ∧ row.length ≤ 1000 ∧ ∀ bs : List Int, bs.Perm row → PP (.l (bs.map trI))
theorem take_drop_perm {xs : List Int} {i : Nat} {v : Int} (e : xs[i]? = some v) : (v :: (xs.take i ++ xs.drop (i + 1))).Perm xs := by
  obtain ⟨h, rfl⟩ := List.getElem?_eq_some_iff.mp e
  have := List.take_append_drop i xs
  rw [List.drop_eq_getElem_cons h] at this
  exact (List.perm_middle.symm.trans (List.Perm.of_eq this))
theorem cut_take {xs : List Int} {d : Int} (h : 0 ≤ d) : cutA xs none (some d) = xs.take d.toNat := by
  by_cases c : d ≤ xs.length
  · exact cutA_to h c
  · rw [cutA_to_ge (by omega), List.take_of_length_le (by omega)]
theorem ok_law_mixed (T : Tx K mg) : Ok PG w K mg base CX0 3 (a_law_mixed K) p_law_mixed (spD K (pLawMixed)) := by
  refine Ok.of 2 T.f_law_mixed sc_law_mixed bi_law_mixed (by decide) (fun vs H Q E h => ?_) (fun cdv A outer s H vs Q E hr h => ?_)
  · obtain ⟨_, _, _, _, _, _, rfl, _, _, _, _, rq, ⟨_, rfl, _⟩, _⟩ := h
    exact congrArg Nat.succ rq.1
  · have T0 := T
    have mt3 : Mt 3 := trivial
    have nd := sc_law_mixed.nd
    refine ⟨_, pss_cons (ps_set (i := 2) nd rfl (.inl rfl) (pe_callTy (k_call_list_of K rfl) (by rfl) T.m_list (by decide +kernel) (pa_cons (pv 1) pa_nil)))
      (pss_cons (ps_set (i := 3) nd rfl (.inl rfl) (pe_lst pa_nil))
      (pss_cons (ps_for (passX rfl) rfl (pi_range1 rfl T.m_range (pa_cons (pe_callB (k_call_len_seq K rfl) (by rfl) T.m_len PySem.boot_len (pa_cons (pv 1) pa_nil)) pa_nil)) (pg_name (i := 4) nd rfl (.inl rfl))
        (pss_cons (ps_set (i := 5) nd rfl (.inl rfl) (pc (ok_law_draw T) hr T.g_law_draw pass0 (pa_cons (pv 0) (pa_cons (pe_callB (k_call_len_seq K rfl) (by rfl) T.m_len PySem.boot_len (pa_cons (pv 2) pa_nil)) pa_nil))))
          (pss_cons (ps_expr (pe_bm PySem.F.plainAttrs_list PySem.F.slot_list_append PySem.F.type_list_append mt_append (pv 3) (pa_cons (pe_ix (k_ix_list K rfl) (pv 2) (pv 5) (fun _ _ => rfl)) pa_nil)))
          (pss_one (ps_set (i := 2) nd rfl (.inl rfl) (pe_op op_cat (pe_slice (k_sl_list K rfl) (pv 2) po_none (po_some (pv 5))) (pe_slice (k_sl_list K rfl) (pv 2) (po_some (pe_op op_add (pv 5) pe_int)) po_none)))))))
      (pss_one (ps_ret (pv 3))))), ?_⟩
    try dsimp only [cxOf]
    refine run_D2 (E := E0) (by decide) (by repeat' kbo_bools) h fun ts PP hp _ => ?_
    obtain ⟨row, rfl, lr, hp⟩ := hp
    have se : ∀ t0 : Tr, startE n_law_mixed.tail [t0] = [some (.p t0), none, none, none, none] := fun _ => rfl
    rw [se]; clear se h hr
    keq_rows
    refine forR0 row.length rfl (fun i z => ∃ (L : List Tr) (left done : List Int), z = ⟨[some (.c 0), some (.p (trLI row)), some (.p (trLI left)), some (.c 1), none, none], [.pool, .lst L]⟩ ∧ L = done.map trI ∧ done.length = i ∧ (done ++ left).Perm row)
      (wkM (by kx_w2) ⟨_, row, [], rfl, rfl, rfl, List.Perm.refl _⟩) (fun i z hi hz => ?_) (fun z hz => ?_)
    · obtain ⟨_, left, done, rfl, rfl, hl, hpm⟩ := hz
      have hlen := hpm.length_eq
      rw [List.length_append] at hlen
      keq_rows
      rename_i x h0 h1
      rw [← List.map_append, cutA_to (by omega) (by omega), cutA_from (by omega) (by omega)]
      refine wkM (by kx_w2) ⟨_, _, done ++ [left.getD x.toNat 0], rfl, by rw [List.map_append]; rfl, by rw [List.length_append, hl]; rfl, List.Perm.trans ?_ hpm⟩
      rw [List.append_assoc]
      refine List.Perm.append_left _ ?_
      rw [show (x + 1).toNat = x.toNat + 1 by omega, List.getD_eq_getElem?_getD]
      exact take_drop_perm (by rw [List.getElem?_eq_getElem (by omega)]; rfl)
    · obtain ⟨_, left, done, rfl, rfl, hl, hpm⟩ := hz
      have hlen := hpm.length_eq
      rw [List.length_append] at hlen
      have e : left = [] := List.length_eq_zero_iff.mp (by omega)
      rw [e, List.append_nil] at hpm
      keq_rows
      exact hp done hpm
theorem okG_parts {days starts : List Int} {gap : Int} {us : List Tr} (h1 : days.length ≤ 60) (h2 : starts.length ≤ 60) (h3 : us.length ≤ 1) (h4 : ∀ u vs, u ∈ us → u = .lst vs → vs.length ≤ sizeLine) : okG (.lst (trLI days :: trLI starts :: trI gap :: us)) := fun ts e => by
  cases e
  refine ⟨sidL (by show us.length + 1 + 1 + 1 ≤ _; omega), fun u vs hu e => ?_⟩
  rcases List.mem_cons.mp hu with rfl | hu
  · cases e; rw [List.length_map]; exact sidL (by omega)
  rcases List.mem_cons.mp hu with rfl | hu
  · cases e; rw [List.length_map]; exact sidL (by omega)
  rcases List.mem_cons.mp hu with rfl | hu
  · cases e
  · exact h4 u vs hu e
def pLawHouse : Pd := fun ts PP => ∃ (a b c : Int), ts = [trI a, trI b, trI c] ∧ 0 < a ∧ a ≤ 60 ∧ 0 < b ∧ b ≤ 30 ∧ 0 ≤ c ∧ c ≤ 60 ∧ ∀ (days starts : List Int) (gap : Int) (us : List Tr), days.length ≤ 60 → starts.length ≤ 30 → 0 ≤ gap → gap ≤ 60 → (∀ x ∈ days, 0 ≤ x ∧ x ≤ 30) → (∀ x ∈ starts, 1 ≤ x ∧ x ≤ (days.length : Int) + 1) → okG (.lst (trLI days :: trLI starts :: trI gap :: us)) → PP (.l (trLI days :: trLI starts :: trI gap :: us))
theorem ok_law_house (T : Tx K mg) : Ok PG w K mg base CX0 5 (a_law_house K) p_law_house (spD K (pLawHouse)) := by
  refine Ok.of 4 T.f_law_house sc_law_house bi_law_house (by decide) (fun vs H Q E h => ?_) (fun cdv A outer s H vs Q E hr h => ?_)
  · obtain ⟨_, _, _, _, _, _, rfl, _, _, _, _, rq, ⟨_, _, _, rfl, _⟩, _⟩ := h
    exact congrArg Nat.succ rq.1
  · have T0 := T
    have nd := sc_law_house.nd
    refine ⟨_, pss_cons (ps_if (pt_cmpR op_eq (pc (ok_law_draw T) (hr.mono (by decide)) T.g_law_draw pass0 (pa_cons (pv 0) (pa_cons pe_int pa_nil))) pe_int (nomark _)) (pss_one (ps_set (i := 3) nd rfl (.inl rfl) pe_int)) pss_nil)
      (pss_cons (ps_set (i := 4) nd rfl (.inr rfl) (pc (ok_law_world T) hr T.g_law_world pass0 (pa_cons (pv 0) (pa_cons (pv 1) (pa_cons (pv 2) (pa_cons (pv 3) pa_nil))))))
      (pss_cons (ps_set (i := 5) nd rfl (.inr rfl) (pc (ok_law_bend_days T) (hr.mono (by decide)) T.g_law_bend_days pass0 (pa_cons (pv 0) (pa_cons (pe_ix (k_ix_list K rfl) (pv 4) pe_int (fun _ _ => rfl)) pa_nil))))
      (pss_cons (ps_if (pt_cmpR op_eq (pc (ok_law_draw T) (hr.mono (by decide)) T.g_law_draw pass0 (pa_cons (pv 0) (pa_cons pe_int pa_nil))) pe_int (nomark _)) (pss_one (ps_set (i := 5) nd rfl (.inr rfl) (pc (ok_law_wants T) hr T.g_law_wants pass0 (pa_cons (pv 0) (pa_cons (pe_callB (k_call_len_seq K rfl) (by rfl) T.m_len PySem.boot_len (pa_cons (pv 5) pa_nil)) (pa_cons (pe_ix (k_ix_list K rfl) (pe_lst (pa_cons pe_int (pa_cons pe_int (pa_cons pe_int (pa_cons pe_int pa_nil))))) (pc (ok_law_draw T) (hr.mono (by decide)) T.g_law_draw pass0 (pa_cons (pv 0) (pa_cons pe_int pa_nil))) (fun _ _ => rfl)) pa_nil)))))) pss_nil)
      (pss_cons (ps_setLc (i := 6) (own := [("place", 7)]) (g := gName 7) (tt := tYes) rfl nd rfl rfl (sw_true rfl rfl rfl (by decide +kernel)) (pi_range1 rfl T.m_range (pa_cons (pe_callB (k_call_len_seq K rfl) (by rfl) T.m_len PySem.boot_len (pa_cons (pv 5) pa_nil)) pa_nil)) (blkOk_by (N := n_law_house) (sc := defScope s_law_house) (by decide +kernel)) (fun _ _ _ _ _ => pg_name (i := 7) nd rfl (Or.inl rfl)) (fun _ _ _ _ _ => pts_nil) (fun _ _ _ _ _ => pe_slice (k_sl_list K rfl) (pe_ix (r := rIxL K) (tb := tVar 7) (k_ix_list K rfl) (pe_ix (r := rIxL K) (ta := tVar 4) (tb := tC (V.int 4)) (k_ix_list K rfl) (pv 4) pe_int (fun _ _ => rfl)) (pv 7) (fun _ _ => rfl)) po_none (po_some (pe_ix (r := rIxL K) (ta := tVar 5) (tb := tVar 7) (k_ix_list K rfl) (pv 5) (pv 7) (fun _ _ => rfl)))))
      (pss_one (ps_ret (pe_lst (pa_cons (pv 5) (pa_cons (pe_ix (k_ix_list K rfl) (pv 4) pe_int (fun _ _ => rfl)) (pa_cons (pe_ix (k_ix_list K rfl) (pv 4) pe_int (fun _ _ => rfl)) (pa_cons (pv 6) pa_nil))))))))))), ?_⟩
    try dsimp only [cxOf]
    refine run_D2 (E := E0) (by decide) (by repeat' kbo_bools) h fun ts PP hp _ => ?_
    obtain ⟨a, b, c, rfl, a0, a1, b0, b1, c0, c1, hp⟩ := hp
    have se : ∀ t0 t1 t2 : Tr, startE n_law_house.tail [t0, t1, t2] = [some (.p t0), some (.p t1), some (.p t2), none, none, none, none] := fun _ _ _ => rfl
    rw [se]; clear se h hr
    keq_rows
    · rename_i starts gap rows hs hr hg0 hg1 hb ho hn x hx
      obtain ⟨r, hr', rfl⟩ := List.mem_map.mp hx
      have := (hn r hr').2
      omega
    · rename_i starts gap rows hs hr hg0 hg1 hb ho hn bs hbs1 hbs2 w w0 w1 w2 v v0 v1 days hd1 hd2
      have ld : days.length = rows.length := by omega
      have hd : ∀ x ∈ days, 0 ≤ x ∧ x ≤ 30 := fun x hx => by
        have := hd2 x hx
        refine ⟨this.1, Int.le_trans this.2 ?_⟩
        split
        · decide
        · split
          · decide
          · split <;> decide
      have hn30 : ∀ r ∈ rows, r.length ≤ 30 := fun r hr => Nat.le_trans (hn r hr).2 hs
      refine lc_map (List.range days.length) (fun i : Nat => trI i) (fun k => trLI ((rows.getD k []).take (days.getD k 0).toNat)) (by rw [Int.toNat_natCast]) (sidL (by rw [List.length_range]; omega)) (fun k hk' acc Kp Ks hk => ?_) ?_
      · have hk2 := List.mem_range.mp hk'
        have h0 : 0 ≤ days.getD k 0 := by
          rw [List.getD_eq_getElem?_getD, List.getElem?_eq_getElem hk2]; exact (hd _ (List.getElem_mem _)).1
        have lrk : (rows.getD k []).length ≤ 30 := hn30 _ (by rw [List.getD_eq_getElem?_getD, List.getElem?_eq_getElem (by omega)]; exact List.getElem_mem _)
        clear hn30 hn ho hd hb
        keq_rows
        rw [Int.toNat_natCast, cutA_map, cut_take h0]
        exact hk
      · rw [show (List.range days.length).map (fun k => trLI ((rows.getD k []).take (days.getD k 0).toNat)) = ((List.range days.length).map fun k => (rows.getD k []).take (days.getD k 0).toNat).map trLI by rw [List.map_map]; rfl]
        have lc : ((List.range days.length).map fun k => (rows.getD k []).take (days.getD k 0).toNat).length = days.length := by rw [List.length_map, List.length_range]
        keq_rows
        exact hp _ _ _ _ (by omega) hs hg0 hg1 hd (by rw [ld]; exact hb) (okG_parts (by omega) (by omega) (Nat.le_refl _) fun u us hu e => by rw [List.mem_singleton.mp hu] at e; cases e; rw [List.length_map, lc]; exact sidL (by omega))
    · rename_i starts gap rows hs hr hg0 hg1 hb ho hn days hd1 hd w w0 w1 w2
      have ld : days.length = rows.length := by omega
      have hn30 : ∀ r ∈ rows, r.length ≤ 30 := fun r hr => Nat.le_trans (hn r hr).2 hs
      refine lc_map (List.range days.length) (fun i : Nat => trI i) (fun k => trLI ((rows.getD k []).take (days.getD k 0).toNat)) (by rw [Int.toNat_natCast]) (sidL (by rw [List.length_range]; omega)) (fun k hk' acc Kp Ks hk => ?_) ?_
      · have hk2 := List.mem_range.mp hk'
        have h0 : 0 ≤ days.getD k 0 := by
          rw [List.getD_eq_getElem?_getD, List.getElem?_eq_getElem hk2]; exact (hd _ (List.getElem_mem _)).1
        have lrk : (rows.getD k []).length ≤ 30 := hn30 _ (by rw [List.getD_eq_getElem?_getD, List.getElem?_eq_getElem (by omega)]; exact List.getElem_mem _)
        clear hn30 hn ho hd hb
        keq_rows
        rw [Int.toNat_natCast, cutA_map, cut_take h0]
        exact hk
      · rw [show (List.range days.length).map (fun k => trLI ((rows.getD k []).take (days.getD k 0).toNat)) = ((List.range days.length).map fun k => (rows.getD k []).take (days.getD k 0).toNat).map trLI by rw [List.map_map]; rfl]
        have lc : ((List.range days.length).map fun k => (rows.getD k []).take (days.getD k 0).toNat).length = days.length := by rw [List.length_map, List.length_range]
        keq_rows
        exact hp _ _ _ _ (by omega) hs hg0 hg1 hd (by rw [ld]; exact hb) (okG_parts (by omega) (by omega) (Nat.le_refl _) fun u us hu e => by rw [List.mem_singleton.mp hu] at e; cases e; rw [List.length_map, lc]; exact sidL (by omega))
    · rename_i starts gap rows hs hr hg0 hg1 hb ho hn x hx
      obtain ⟨r, hr', rfl⟩ := List.mem_map.mp hx
      have := (hn r hr').2
      omega
    · rename_i starts gap rows hs hr hg0 hg1 hb ho hn bs hbs1 hbs2 w w0 w1 w2 v v0 v1 days hd1 hd2
      have ld : days.length = rows.length := by omega
      have hd : ∀ x ∈ days, 0 ≤ x ∧ x ≤ 30 := fun x hx => by
        have := hd2 x hx
        refine ⟨this.1, Int.le_trans this.2 ?_⟩
        split
        · decide
        · split
          · decide
          · split <;> decide
      have hn30 : ∀ r ∈ rows, r.length ≤ 30 := fun r hr => Nat.le_trans (hn r hr).2 hs
      refine lc_map (List.range days.length) (fun i : Nat => trI i) (fun k => trLI ((rows.getD k []).take (days.getD k 0).toNat)) (by rw [Int.toNat_natCast]) (sidL (by rw [List.length_range]; omega)) (fun k hk' acc Kp Ks hk => ?_) ?_
      · have hk2 := List.mem_range.mp hk'
        have h0 : 0 ≤ days.getD k 0 := by
          rw [List.getD_eq_getElem?_getD, List.getElem?_eq_getElem hk2]; exact (hd _ (List.getElem_mem _)).1
        have lrk : (rows.getD k []).length ≤ 30 := hn30 _ (by rw [List.getD_eq_getElem?_getD, List.getElem?_eq_getElem (by omega)]; exact List.getElem_mem _)
        clear hn30 hn ho hd hb
        keq_rows
        rw [Int.toNat_natCast, cutA_map, cut_take h0]
        exact hk
      · rw [show (List.range days.length).map (fun k => trLI ((rows.getD k []).take (days.getD k 0).toNat)) = ((List.range days.length).map fun k => (rows.getD k []).take (days.getD k 0).toNat).map trLI by rw [List.map_map]; rfl]
        have lc : ((List.range days.length).map fun k => (rows.getD k []).take (days.getD k 0).toNat).length = days.length := by rw [List.length_map, List.length_range]
        keq_rows
        exact hp _ _ _ _ (by omega) hs hg0 hg1 hd (by rw [ld]; exact hb) (okG_parts (by omega) (by omega) (Nat.le_refl _) fun u us hu e => by rw [List.mem_singleton.mp hu] at e; cases e; rw [List.length_map, lc]; exact sidL (by omega))
    · rename_i starts gap rows hs hr hg0 hg1 hb ho hn days hd1 hd w w0 w1 w2
      have ld : days.length = rows.length := by omega
      have hn30 : ∀ r ∈ rows, r.length ≤ 30 := fun r hr => Nat.le_trans (hn r hr).2 hs
      refine lc_map (List.range days.length) (fun i : Nat => trI i) (fun k => trLI ((rows.getD k []).take (days.getD k 0).toNat)) (by rw [Int.toNat_natCast]) (sidL (by rw [List.length_range]; omega)) (fun k hk' acc Kp Ks hk => ?_) ?_
      · have hk2 := List.mem_range.mp hk'
        have h0 : 0 ≤ days.getD k 0 := by
          rw [List.getD_eq_getElem?_getD, List.getElem?_eq_getElem hk2]; exact (hd _ (List.getElem_mem _)).1
        have lrk : (rows.getD k []).length ≤ 30 := hn30 _ (by rw [List.getD_eq_getElem?_getD, List.getElem?_eq_getElem (by omega)]; exact List.getElem_mem _)
        clear hn30 hn ho hd hb
        keq_rows
        rw [Int.toNat_natCast, cutA_map, cut_take h0]
        exact hk
      · rw [show (List.range days.length).map (fun k => trLI ((rows.getD k []).take (days.getD k 0).toNat)) = ((List.range days.length).map fun k => (rows.getD k []).take (days.getD k 0).toNat).map trLI by rw [List.map_map]; rfl]
        have lc : ((List.range days.length).map fun k => (rows.getD k []).take (days.getD k 0).toNat).length = days.length := by rw [List.length_map, List.length_range]
        keq_rows
        exact hp _ _ _ _ (by omega) hs hg0 hg1 hd (by rw [ld]; exact hb) (okG_parts (by omega) (by omega) (Nat.le_refl _) fun u us hu e => by rw [List.mem_singleton.mp hu] at e; cases e; rw [List.length_map, lc]; exact sidL (by omega))
def pLawLarge : Pd := fun ts PP => ts = [] ∧ ∀ (days starts : List Int) (gap : Int), days.length ≤ 60 → starts.length ≤ 30 → 0 ≤ gap → gap ≤ 60 → (∀ x ∈ days, 0 ≤ x ∧ x ≤ 30) → (∀ x ∈ starts, 1 ≤ x ∧ x ≤ (days.length : Int) + 1) → PP (.l [trLI days, trLI starts, trI gap])
theorem ok_law_large (T : Tx K mg) : Ok PG w K mg base CX0 5 (a_law_large K) p_law_large (spD K (pLawLarge)) := by
  refine Ok.of 4 T.f_law_large sc_law_large bi_law_large (by decide) (fun vs H Q E h => ?_) (fun cdv A outer s H vs Q E hr h => ?_)
  · obtain ⟨_, _, _, _, _, _, rfl, _, _, _, _, rq, ⟨rfl, _⟩, _⟩ := h
    exact congrArg Nat.succ rq.1
  · have T0 := T
    have nd := sc_law_large.nd
    refine ⟨_, pss_cons (ps_set (i := 1) nd rfl (.inl rfl) (pe_op op_add pe_int (pc (ok_law_draw T) (hr.mono (by decide)) T.g_law_draw pass0 (pa_cons (pv 0) (pa_cons pe_int pa_nil)))))
      (pss_cons (ps_set (i := 2) nd rfl (.inl rfl) (pc (ok_law_draw T) (hr.mono (by decide)) T.g_law_draw pass0 (pa_cons (pv 0) (pa_cons pe_int pa_nil))))
      (pss_cons (ps_set (i := 3) nd rfl (.inl rfl) (pc (ok_law_wants T) hr T.g_law_wants pass0 (pa_cons (pv 0) (pa_cons (pv 1) (pa_cons pe_int pa_nil)))))
      (pss_one (ps_ret (pe_lst (pa_cons (pv 3) (pa_cons (pc (ok_law_comings T) (hr.mono (by decide)) T.g_law_comings pass0 (pa_cons (pv 0) (pa_cons pe_int (pa_cons (pv 1) pa_nil)))) (pa_cons (pv 2) pa_nil)))))))), ?_⟩
    try dsimp only [cxOf]
    refine run_D2 (E := E0) (by decide) (by repeat' kbo_bools) h fun ts PP hp _ => ?_
    obtain ⟨rfl, hp⟩ := hp
    have se : startE n_law_large.tail [] = [none, none, none] := rfl
    rw [se]; clear se h hr
    keq_rows
    rename_i gap g0 g1 days hdl hd starts hsl hs
    exact hp _ _ _ (by omega) (by omega) (by omega) (by omega) (fun x hx => by have := hd x hx; omega) (fun x hx => by have := hs x hx; omega)
end
end K14v

set_option maxRecDepth 100000
set_option maxHeartbeats 8000000
namespace K14v
open PySem PySem.Spec PyProof.Rows L2 VL K14
section
variable {w : World} {K : PySem.W.Frag} {mg : Str → Option Value} {base : Heap}
structure FitP (days starts : List Int) (gap : Int) (brief : Bool) (rows : List (List Int)) : Prop where
  l : rows.length = days.length
  n : ∀ r ∈ rows, r.Nodup ∧ r.length ≤ 1000
  c : ∀ k : Nat, k < days.length → ((rows.getD k []).length : Int) ≤ days.getD k 0
  f : brief = false → ∀ k : Nat, k < days.length → ((rows.getD k []).length : Int) = days.getD k 0
  o : ∀ i (e : Int), i < rows.length → e ∈ rows.getD i [] → 0 ≤ e ∧ e < starts.length ∧ starts.getD e.toNat 0 ≤ i + 1 ∧ ∀ j : Nat, j < i → (i : Int) - j ≤ gap → e ∉ rows.getD j []
/-- the last nights of all, k rows walked -/
def LastP (n : Nat) (rows : List (List Int)) (k : Nat) (la : List Int) : Prop := la.length = n ∧ ∀ e : Nat, e < n → la.getD e 0 = -100 ∨ ∃ j : Nat, j < k ∧ (e : Int) ∈ rows.getD j [] ∧ la.getD e 0 = (j : Int) + 1
def pPlanFits : Pv := fun ts PP _ => ∃ (rows : List (List Int)) (days starts : List Int) (gap : Int) (br : Bool), ts = [.tup (rows.map trTI), trLI days, trLI starts, trI gap, trB br] ∧ days.length ≤ 1000 ∧ starts.length ≤ 1000 ∧ 0 ≤ gap ∧ gap ≤ 60 ∧ FitP days starts gap br rows ∧ PP (.t (trB true))
theorem ok_law_plan_fits (T : Tx K mg) : Ok PG w K mg base CX0 4 (a_law_plan_fits K) p_law_plan_fits (spV K (pPlanFits)) := by
  refine Ok.of 3 T.f_law_plan_fits sc_law_plan_fits bi_law_plan_fits (by decide) (fun vs H Q E h => ?_) (fun cdv A outer s H vs Q E hr h => ?_)
  · obtain ⟨_, _, _, _, _, rq, ⟨_, _, _, _, _, rfl, _⟩, _⟩ := h
    exact rq.1
  · have T0 := T
    have mt5 : Mt 5 := trivial
    have nd := sc_law_plan_fits.nd
    refine ⟨_, pss_cons (ps_if (pt_cmpR op_ne (pe_callB (k_call_len_seq K rfl) (by rfl) T.m_len PySem.boot_len (pa_cons (pv 0) pa_nil)) (pe_callB (k_call_len_seq K rfl) (by rfl) T.m_len PySem.boot_len (pa_cons (pv 1) pa_nil)) (nomark _)) (pss_one (ps_ret pe_bl)) pss_nil)
      (pss_cons (ps_set (i := 5) nd rfl (.inl rfl) (pe_op op_repI (pe_lst (pa_cons (pe_un un_neg pe_int) pa_nil)) (pe_callB (k_call_len_seq K rfl) (by rfl) T.m_len PySem.boot_len (pa_cons (pv 2) pa_nil))))
      (pss_cons (ps_for (passX rfl) rfl (pi_range1 rfl T.m_range (pa_cons (pe_callB (k_call_len_seq K rfl) (by rfl) T.m_len PySem.boot_len (pa_cons (pv 0) pa_nil)) pa_nil)) (pg_name (i := 6) nd rfl (.inl rfl))
        (pss_cons (ps_set (i := 7) nd rfl (.inl rfl) (pe_ix (k_ix_tup K rfl) (pv 0) (pv 6) (fun _ _ => rfl)))
          (pss_cons (ps_if (PW.pt (pw_or (pt_not (pt_val (pc (ok_law_ints T) hr T.g_law_ints pass0 (pa_cons (pv 7) pa_nil)))) (pw_or (pt_cmpR op_gt (pe_callB (k_call_len_seq K rfl) (by rfl) T.m_len PySem.boot_len (pa_cons (pv 7) pa_nil)) (pe_ix (k_ix_list K rfl) (pv 1) (pv 6) (fun _ _ => rfl)) (nomark _)) (pw_or1 (PW.pt (pw_and (pt_not (pt_val (pv 4))) (pw_and1 (pt_cmpR op_lt (pe_callB (k_call_len_seq K rfl) (by rfl) T.m_len PySem.boot_len (pa_cons (pv 7) pa_nil)) (pe_ix (k_ix_list K rfl) (pv 1) (pv 6) (fun _ _ => rfl)) (nomark _))))))))) (pss_one (ps_ret pe_bl)) pss_nil)
          (pss_one (ps_for (passX rfl) rfl (k_pi_tup K rfl (pv 7)) (pg_name (i := 8) nd rfl (.inl rfl))
            (pss_cons (ps_if (PW.pt (pw_or (pt_not (pt_chain op_le op_lt pe_int (pv 8) (pe_callB (k_call_len_seq K rfl) (by rfl) T.m_len PySem.boot_len (pa_cons (pv 2) pa_nil)))) (pw_or (pt_cmpR op_gt (pe_ix (k_ix_list K rfl) (pv 2) (pv 8) (fun _ _ => rfl)) (pe_op op_add (pv 6) pe_int) (nomark _)) (pw_or1 (pt_cmpR op_le (pe_op op_sub (pe_op op_add (pv 6) pe_int) (pe_ix (k_ix_list K rfl) (pv 5) (pv 8) (fun _ _ => rfl))) (pv 3) (nomark _)))))) (pss_one (ps_ret pe_bl)) pss_nil)
              (pss_one (ps_asg (pe_op op_add (pv 6) pe_int) (pg_sub (pv 5) (pv 8) set_list)))))))))
      (pss_one (ps_ret pe_bl)))), ?_⟩
    try dsimp only [cxOf]
    refine run_V0 (by repeat' kbo_bools) h fun ts PP G hp _ => ?_
    obtain ⟨rows, days, starts, gap, br, rfl, ld, ls, g0, g1, F, q⟩ := hp
    have se : ∀ t0 t1 t2 t3 t4 : Tr, startE n_law_plan_fits [t0, t1, t2, t3, t4] = [some (.p t0), some (.p t1), some (.p t2), some (.p t3), some (.p t4), none, none, none, none] := fun _ _ _ _ _ => rfl
    rw [se]; clear se h hr
    have lr := F.l
    keq_rows
    refine forR0 rows.length (by congr 2) (fun i z => ∃ (L : List Tr) (la : List Int), z = ⟨[some (.p (.tup (rows.map trTI))), some (.p (trLI days)), some (.p (trLI starts)), some (.p (trI gap)), some (.p (trB br)), some (.c 0), none, none, none], [.lst L]⟩ ∧ L = la.map trI ∧ LastP starts.length rows i la)
      (wkM (by kx_w2) ⟨_, List.replicate starts.length (-100), rfl, by rw [Int.toNat_natCast], by rw [List.length_replicate], fun e he => .inl (by rw [List.getD_eq_getElem?_getD, List.getElem?_replicate, if_pos he]; rfl)⟩) (fun i z hi hz => ?_) (fun z hz => ?_)
    · obtain ⟨_, la, rfl, rfl, l1, l2⟩ := hz
      have hr : rows.getD i [] ∈ rows := by rw [List.getD_eq_getElem?_getD, List.getElem?_eq_getElem hi]; exact List.getElem_mem _
      have hn := (F.n _ hr).1
      have hrl := (F.n _ hr).2
      have hc : ((rows.getD ((i : Nat) : Int).toNat []).length : Int) ≤ days.getD ((i : Nat) : Int).toNat 0 := by rw [Int.toNat_natCast]; exact F.c i (by omega)
      have hf : br = false → ((rows.getD ((i : Nat) : Int).toNat []).length : Int) = days.getD ((i : Nat) : Int).toNat 0 := fun h => by rw [Int.toNat_natCast]; exact F.f h i (by omega)
      have ho := F.o i
      keq_rows
      all_goals try (exfalso; rename_i c1 c2; cases br <;> first | (have := hf rfl; omega; done) | (simp at c1; done))
      all_goals simp only [Int.toNat_natCast] at *
      all_goals
        refine forT (rows.getD i []) trI rfl (fun t z => ∃ (L : List Tr) (la : List Int), z = ⟨[some (.p (.tup (rows.map trTI))), some (.p (trLI days)), some (.p (trLI starts)), some (.p (trI gap)), some (.p (trB br)), some (.c 0), some (.p (trI i)), some (.p (trTI (rows.getD i []))), none], [.lst L]⟩ ∧ L = la.map trI ∧ la.length = starts.length ∧ ∀ e : Nat, e < starts.length → ((e : Int) ∈ (rows.getD i []).take t ∧ la.getD e 0 = (i : Int) + 1) ∨ ((e : Int) ∉ (rows.getD i []).take t ∧ (la.getD e 0 = -100 ∨ ∃ j : Nat, j < i ∧ (e : Int) ∈ rows.getD j [] ∧ la.getD e 0 = (j : Int) + 1)))
          (wkM (by kx_w2) ⟨_, la, rfl, rfl, l1, fun e he => .inr ⟨by simp, l2 e he⟩⟩) (fun t x z ex hz => ?_) (fun z hz => ?_)
        · obtain ⟨_, la, rfl, rfl, l1, l2⟩ := hz
          have hx : x ∈ rows.getD i [] := List.mem_of_getElem? ex
          obtain ⟨x0, x1, xs, xg⟩ := ho x hi hx
          have htl : t < (rows.getD i []).length := (List.getElem?_eq_some_iff.mp ex).1
          have tk : (rows.getD i []).take (t + 1) = (rows.getD i []).take t ++ [x] := by rw [List.take_succ, ex]; rfl
          have xn : x ∉ (rows.getD i []).take t := fun h => by
            obtain ⟨s, hs1, hs2⟩ := List.getElem_of_mem h
            rw [List.length_take] at hs1
            rw [List.getElem_take] at hs2
            have e2 := (List.getElem?_eq_some_iff.mp ex).2
            exact absurd (nd_inj hn (by omega) htl (hs2.trans e2.symm)) (by omega)
          have hlx : ¬ ((i : Int) + 1 - la.getD x.toNat 0 ≤ gap) := by
            rcases l2 x.toNat (by omega) with ⟨h, _⟩ | ⟨_, h | ⟨j, hj, hm, h⟩⟩
            · rw [Int.toNat_of_nonneg x0] at h; exact absurd h xn
            · omega
            · rw [Int.toNat_of_nonneg x0] at hm
              intro hle
              exact xg j hj (by omega) hm
          keq_rows
          refine wkM (by kx_w2) ⟨_, la.set x.toNat ((i : Int) + 1), rfl, by rw [List.map_set], by rw [List.length_set]; exact l1, fun e he => ?_⟩
          have sg : (la.set x.toNat ((i : Int) + 1)).getD e 0 = if x.toNat = e then (i : Int) + 1 else la.getD e 0 := by
            rw [List.getD_eq_getElem?_getD, List.getElem?_set]
            by_cases w : x.toNat = e
            · rw [if_pos w, if_pos w, if_pos (by omega)]; rfl
            · rw [if_neg w, if_neg w, ← List.getD_eq_getElem?_getD]
          rw [tk, sg]
          by_cases c : x.toNat = e
          · refine .inl ⟨List.mem_append_right _ (List.mem_singleton.mpr (by omega)), ?_⟩
            rw [if_pos c]
          · rw [if_neg c]
            rcases l2 e he with ⟨h, h2⟩ | ⟨h, h2⟩
            · exact .inl ⟨List.mem_append_left _ h, h2⟩
            · refine .inr ⟨fun hm => ?_, h2⟩
              rcases List.mem_append.mp hm with hm | hm
              · exact h hm
              · rw [List.mem_singleton] at hm; omega
        · obtain ⟨_, la, rfl, rfl, l1, l2⟩ := hz
          keq_rows
          refine wkM (by kx_w2) ⟨_, la, rfl, rfl, l1, fun e he => ?_⟩
          rw [List.take_length] at l2
          rcases l2 e he with ⟨h, h2⟩ | ⟨_, h2 | ⟨j, a, b, c⟩⟩
          · exact .inr ⟨i, by omega, h, h2⟩
          · exact .inl h2
          · exact .inr ⟨j, by omega, b, c⟩
    · obtain ⟨_, la, rfl, rfl, l1, l2⟩ := hz
      keq_rows
      exact q
end
end K14v

set_option maxRecDepth 100000
set_option maxHeartbeats 4000000
namespace VL
open PySem PySem.Spec PyProof.Rows L2
section
variable {K : PySem.W.Frag} {E : XK} {B F F' H : Hp} {α : List Addr} {z : Z} {σ : L2.St}
def fRevL (f : VE) : VC := fun G z Q => f G z fun r z1 => ∃ ts, vw r z1 = some (.lst ts) ∧ ts.length ≤ sizeLine ∧ Q ts.reverse z1
theorem rc_revL {t : TE} {f : VE} (h : RE K E t f) : RC K E (tRevL K t) (fRevL f) := by
  intro B F α z σ H G Qv Q er hf C k
  refine h B F α z σ H G _ _ er hf C fun F1 α1 z1 r v H1 q1 x1 C1 r1 => ?_
  obtain ⟨ts, e, l, q⟩ := q1
  cases r with
  | p t =>
    cases e
    obtain ⟨p, xs, rfl, g1, _, g2⟩ := Rp.inv_lst r1
    exact ⟨p, xs, rfl, .of (C1.same _ _ g1), fun p' hp => k F1 α1 z1 _ _ p' H1 q x1 C1 g2.reverse hp (by rw [List.length_reverse, g2.1]; exact l)⟩
  | c j =>
    obtain ⟨a, ea, rfl⟩ := r1
    rcases vwc e with ⟨us, ec, w⟩ | ⟨_, _, _, w⟩
    · cases w
      obtain ⟨_, _, xs, e1, e2⟩ := C1.cell j a _ ea ec
      exact ⟨a, xs, rfl, .of e1, fun p' hp => k F1 α1 z1 _ _ p' H1 q x1 C1 e2.reverse hp (by rw [List.length_reverse, e2.1]; exact l)⟩
    · cases w
end
theorem k_pe_revL {X : Cx} (K : PySem.W.Frag) (h : X.K = K) {e : Expr} {te : TE} {k : Nat} {p1 p2 p3 pos : Pos} (he : PE X e te) : PE X (.Subscript e (.Slice none none (some (.UnaryOp .USub (.Constant (.int 1) k p1) p2)) p3) pos) (tRevL K te) := by subst h; exact pe_revL he
end VL
local macro_rules | `(tactic| kbo_bools) => `(tactic| first | (with_reducible refine' VL.rs_asgC (by with_reducible assumption) (VL.rc_revL ?_)) | (with_reducible refine' VL.rs_retC (VL.rc_revL ?_)) | (with_reducible refine' VL.rc_revL ?_) | (with_reducible refine' VL.re_fz (VL.rc_revL ?_)))

set_option maxRecDepth 100000
set_option maxHeartbeats 4000000
/-! # xs[:] = ys -/
namespace L2
open PySem PySem.Spec PyProof.Rows
theorem bounds_whole (n : Nat) : sliceBounds none none none n = ((0 : Int), (n : Int), 1) := by
  simp [sliceBounds]
section
variable {prog : Program} {w : World} {A : Around} {E : Value → Shared → Prop} {s : Shared}
set_option maxRecDepth 100000 in
theorem put_whole {l b sl : Addr} {old new : Array Value} {n n2 : Nat} {vl vu : Value} {Q : Unit → Shared → Prop}
    (el : s.heap.get? l = some { cls := .type "list", data := .seq old n }) (eb : s.heap.get? b = some { cls := .type "list", data := .seq new n2 }) (ne : l ≠ b)
    (hs : s.heap.IsSliceOf sl vl vu .none) (pl : IsPart vl none) (pu : IsPart vu none) (line : old.size + new.size ≤ sizeLine)
    (h : Q () { s with heap := s.heap.update l (Obj.mapSeq fun xs => xs.extract 0 0 ++ new ++ xs.extract old.size xs.size) }) : wpAny (model prog w) A (setItem (.ref l) (.ref sl) (.ref b)) Q E s := by
  have Tl : s.heap.IsList l old := PySem.IsL.isList el
  have Tb : s.heap.IsList b new := PySem.IsL.isList eb
  obtain ⟨os, g1, g2, g3⟩ := id hs
  have Ts : s.TypeIs (.ref sl) "slice" := ⟨os, g1, g2⟩
  have other : Builtin.List.listSameRef (.ref l) (.ref b) = false := beq_eq_false_iff_ne.mpr ne
  have mx : (max (0 : Int) (old.size : Int)).toNat = old.size := by omega
  have room : ((fun xs : Array Value => xs.extract 0 0 ++ new ++ xs.extract old.size xs.size) old).size ≤ sizeLine + 1 := by
    simp only [Array.size_append, Array.size_extract]; omega
  unfold setItem
  try with_reducible refine wpAny_holding ?_
  first | refine wpAny_bind (wpAny_pure ?_) | skip
  refine wpAny_bind (wpAny_sequenceKey Tl.typeIs (by decide) (wpAny_bind (wpAny_callSpecial?_slot (name := Str.ofString "__setitem__") Tl.typeIs slot_list_setitem (wpAny_call_entry slot_list_setitem Tl.typeIs entry_list_setitem ?_ (args_list_setitem _ _ _)))))
  show wpAny _ _ (Builtin.List.listSubscript? (.ref sl) >>= _) _ _ s
  unfold Builtin.List.listSubscript?
  refine wpAny_bind (wpAny_bind (wpAny_specialOf Ts slice_no_index ?_))
  simp only [Option.isNone_none, if_true]
  refine wpAny_pure ?_
  show wpAny _ _ (typeOf (.ref sl) >>= _) _ _ s
  refine wpAny_bind (wpAny_typeOf Ts ?_)
  first | rw [if_neg (by decide)] | refine PySem.W.KFB.if_not (by decide) ?_
  rw [listSliceParts_eq]
  refine wpAny_bind (wpAny_bind (wpAny_field g1 g3 (x := .none) rfl (wpAny_bind (wpAny_listPart .none ?_))))
  rw [if_neg (show ¬ ((rawPart none == rawInt 0) = true) from Bool.false_ne_true)]
  refine wpAny_bind (wpAny_field g1 g3 (x := vl) rfl (wpAny_bind (wpAny_listPart pl (wpAny_bind (wpAny_field g1 g3 (x := vu) rfl (wpAny_bind (wpAny_listPart pu (wpAny_pure ?_))))))))
  first | simp only [other, Bool.false_eq_true, if_false] | refine PySem.W.KFB.if_not other ?_ | (dsimp only; rw [if_neg (by rw [other]; exact Bool.false_ne_true)])
  refine wpAny_bind (m := Builtin.List.listAllItems (.ref b) "must assign iterable to extended slice") ?_
  unfold Builtin.List.listAllItems
  refine wpAny_bind (wpAny_typeOf Tb.typeIs ?_)
  first | refine PySem.W.KFB.if_so (by decide) ?_ | rw [if_pos (by decide)] | simp only [beq_self_eq_true, Bool.true_or, if_true]
  unfold Builtin.List.listItems
  refine wpAny_bind (wpAny_seqItems eb rfl (wpAny_pure (wpAny_bind (wpAny_bind (wpAny_seqItems el rfl (wpAny_pure (wpAny_bind (wpAny_of_eq ((sliceIndices_raw none none none old.size (by simp)).trans (congrArg (pure : Int × Int × Int → Sem (Int × Int × Int)) (bounds_whole old.size))) ?_))))))))
  show wpAny _ _ (if ((1 : Int) == 1) = true then _ else _) _ _ s
  rw [if_pos (by decide)]
  refine wpAny_bind (wpAny_rule ?_)
  first | simp only [notLongL line, Bool.false_eq_true, if_false] | refine PySem.W.KFB.if_not (notLongL line) ?_
  first | refine wpAny_bind (wpAny_pure ?_) | skip
  show wpAny _ _ (updateSeq l (fun xs => xs.extract 0 (0 : Int).toNat ++ new ++ xs.extract (max (0 : Int) (old.size : Int)).toNat xs.size) >>= _) _ _ s
  rw [mx]
  refine wpAny_bind (wpAny_updateSeq (hz := Nat.le_trans (Nat.le_add_right _ _) line) (_hz' := room) el rfl (wpAny_bind (wpAny_letGo ?_)))
  first
    | exact wpAny_bind (wpAny_pure (wpAny_pure ⟨.none, rfl, wpAny_pure h⟩))
    | exact wpAny_pure ⟨.none, rfl, wpAny_pure h⟩
end
theorem set_whole {X : Cx} {pins : List (Addr × Obj)} {s : Shared} {σ : L2.St} {H : Hp} {l b sl : Addr} {xs ys : List V} {vl vu : Value} {Q : Unit → Shared → Prop} (I : Inv X pins σ H s)
    (hH : H l = some (.lst xs)) (hB : H b = some (.lst ys)) (ne : l ≠ b) (hs : s.heap.IsSliceOf sl vl vu .none) (pl : IsPart vl none) (pu : IsPart vu none)
    (hz : xs.length + ys.length ≤ sizeLine) (h : ∀ s', Inv X pins σ (upd H l (.lst ys)) s' → Q () s') : wpAny (model X.prog X.w) X.A (setItem (.ref l) (.ref sl) (.ref b)) Q X.xe s := by
  obtain ⟨z, its, n, r, hl, e⟩ := I.lstM hH
  obtain ⟨z2, its2, n2, r2, hl2, e2⟩ := I.lstM hB
  have lr : xs.length = its.length := r.length
  have lr2 : ys.length = its2.length := r2.length
  refine put_whole e e2 ne hs pl pu (by rw [List.size_toArray, List.size_toArray]; omega) (h _ ?_)
  refine I.lset (its' := its2) (t' := s.toks) hH e ?_ r2 ?_
  · simp
  · omega
/-- xs[:] = .., another list -/
def gSlAll (to : TE) : TG := fun v σ H Q => to σ H fun o H1 => ∃ (l b : Addr) (xs ys : List V), o = .ref l ∧ v = .ref b ∧ H1 l = some (.lst xs) ∧ H1 b = some (.lst ys) ∧ l ≠ b ∧ xs.length + ys.length ≤ sizeLine ∧ Q σ (upd H1 l (.lst ys))
theorem pg_slAll {X : Cx} {o : Expr} {p2 pos : Pos} {to : TE} (ho : PE X o to)
    (ha : ∀ v, assign (.Subscript o (.Slice none none none p2) pos) X.env v = (do
      let ov ← holding [v] (eval o X.env)
      let iv ← holding [v, ov] (eval (.Slice none none none p2) X.env)
      standAt pos
      holding [v, ov, iv] (setItem ov iv v)
      release [iv, v, ov] []) := by intro _; rfl) : PG X (.Subscript o (.Slice none none none p2) pos) (gSlAll to) := by
  refine ⟨fun pins s σ H v u Q I r h => ?_⟩
  rw [ha]
  refine wpAny_bind (wpAny_holding (thn (ho.run pins s σ H _ I h) fun ov s1 ⟨x, H1, I1, r1, q1⟩ => ?_))
  refine wpAny_bind (wpAny_holding (wpAny_Slice (thn (po_none.run pins s1 σ H1 (fun o H2 => o = none ∧ H2 = H1) I1 ⟨rfl, rfl⟩) fun vl s2 ⟨l, H2, I2, pl, el, e2⟩ => ?_)))
  subst el e2
  refine thn (po_none.run pins s2 σ H2 (fun o H3 => o = none ∧ H3 = H2) I2 ⟨rfl, rfl⟩) fun vu s3 ⟨u2, H3, I3, pu, eu, e3⟩ => ?_
  subst eu e3
  rw [evalPart_none]
  refine wpAny_pure ?_
  have I4 : Inv X pins σ H3 { s3 with heap := s3.heap.push { cls := .type "slice", data := .fields #[vl, vu, .none] } } := I3.kept (t' := s3.toks) fun b ob q => Heap.get?_push_of_some _ q
  obtain ⟨la, lb, xs, ys, rfl, rfl, hA, hB, ne, hz, q⟩ := q1
  cases r1
  cases r
  refine wpAny_bind (wpAny_standAt (wpAny_bind (wpAny_holding (set_whole I4 hA hB ne (Heap.IsSliceOf.new ..) pl pu hz fun s' I5 => ?_))))
  exact wpAny_release ⟨σ, _, I5, q⟩
end L2
namespace VL
open PySem PySem.Spec PyProof.Rows L2
section
variable {K : PySem.W.Frag} {E : XK} {B F F' H : Hp} {α : List Addr} {z : Z} {σ : L2.St}
def fgSlAll (i : Nat) : VG := fun u z Q => ∃ ts, u = .lst ts ∧ ∃ (k : Nat) (us : List Tr), z.e[i]? = some (some (.c k)) ∧ z.c[k]? = some (.lst us) ∧ us.length + ts.length ≤ sizeLine ∧ Q ⟨z.e, z.c.set k (.lst ts)⟩
theorem rg_slAll {i : Nat} : RG K (gSlAll (tVar i)) (fgSlAll i) := by
  intro B F α z σ H v u Qv Q h C rp k
  obtain ⟨ts, rfl, kk, us, e1, e2, l, q⟩ := h
  obtain ⟨v', g1, a, ea, rfl⟩ := C.env i _ e1
  obtain ⟨hF, hB, xs, hx, rq⟩ := C.cell kk a _ ea e2
  obtain ⟨p, ys, rfl, g3, _, g4⟩ := rp.inv_lst
  have ne : a ≠ p := fun w => by rw [← w, hF] at g3; cases g3
  refine ⟨_, g1, a, p, xs, ys, rfl, rfl, hx, C.same _ _ g3, ne, by rw [rq.1, g4.1]; exact l, ?_⟩
  exact k F α _ _ _ q .refl (C.put ea e2 hF hB ⟨hF, hB, ys, upd_same, g4⟩)
end
end VL
local macro_rules | `(tactic| kbo_bools) => `(tactic| (with_reducible exact VL.rg_slAll))

set_option maxRecDepth 100000
set_option maxHeartbeats 8000000
namespace K14v
open PySem PySem.Spec PyProof.Rows L2 VL K14
section
variable {w : World} {K : PySem.W.Frag} {mg : Str → Option Value} {base : Heap}
theorem fitP_on {days starts ps : List Int} {gap : Int} (g0 : 0 ≤ gap) (ls : starts.length ≤ 30) (hd : ∀ x ∈ days, 0 ≤ x) (hs : ∀ x ∈ starts, 1 ≤ x ∧ x ≤ (days.length : Int) + 1) (hb : badP starts.length [] ps = none) : FitP days starts gap true (onR gap days starts ps) := by
  have hp := (badP_none.mp hb).1
  have hn := (badP_none.mp hb).2.1
  have hst : ∀ p ∈ ps, 0 ≤ starts.getD p.toNat 0 := fun p hpm => by
    have := hp p hpm
    have := hs (starts.getD p.toNat 0) (by rw [List.getD_eq_getElem?_getD, List.getElem?_eq_getElem (by omega)]; exact List.getElem_mem _)
    omega
  have F := fit_on g0 hd hn hst
  have pers : ∀ k e, OnW gap days starts ps k e → 0 ≤ e ∧ e < starts.length := fun k e h => by
    obtain ⟨s, a, b, _⟩ := h
    have := hp _ (getD_memI a)
    rw [b] at this
    exact this
  refine ⟨onR_len, fun r hr => ?_, fun k hk => ?_, fun h => (by cases h), fun i e hi he => ?_⟩
  · obtain ⟨k, hk, rfl⟩ := mem_getD hr
    rw [onR_len] at hk
    obtain ⟨a, b⟩ := onR_get (gap := gap) hk hp
    refine ⟨a.imp (fun h => by omega), ?_⟩
    unfold onR
    rw [List.getD_eq_getElem?_getD, List.getElem?_map, List.getElem?_range hk]
    refine Nat.le_trans (List.length_filter_le ..) ?_
    rw [List.length_map, List.length_range]; omega
  · obtain ⟨a, b⟩ := onR_get (gap := gap) hk hp
    exact F.cap k hk _ (a.imp (fun h => by omega)) fun e he => (b e).mp he
  · rw [onR_len] at hi
    have h := ((onR_get (gap := gap) hi hp).2 e).mp he
    refine ⟨(pers _ _ h).1, (pers _ _ h).2, F.st i e hi h, fun j hj hg hm => ?_⟩
    exact F.gp i e hi h j hj hg (((onR_get (gap := gap) (by omega) hp).2 e).mp hm)
theorem countsI_on {rows : List (List Int)} {n : Nat} : (List.range n).map (fun e : Nat => trI (((rows.filter fun r => decide ((e : Int) ∈ r)).length : Nat) : Int)) = (countsI rows n).map trI := by
  unfold countsI
  rw [List.map_map]
  exact List.map_congr_left fun e _ => by show trI _ = trI ((nightsOf rows (e : Int)).length : Nat); rw [nights_len]
local macro_rules | `(tactic| keq_hits) => `(tactic| first | exact atP0 | exact atP1 | exact atP2)
def pMade (K : PySem.W.Frag) : Pv := fun ts PP _ => ∃ (days starts : List Int) (gap : Int) (us : List Tr) (ps : List Int), ts = [hT K days starts gap, partsT days starts gap us, trLI ps] ∧ days.length ≤ 60 ∧ starts.length ≤ 30 ∧ 0 ≤ gap ∧ gap ≤ 60 ∧ (∀ x ∈ days, 0 ≤ x) ∧ (∀ x ∈ starts, 1 ≤ x ∧ x ≤ (days.length : Int) + 1) ∧ badP starts.length [] ps = none ∧ ps.length = starts.length ∧ PP (.t (trB true))
theorem ok_law_made (T : Tx K mg) : Ok PG w K mg base CX0 9 (a_law_made K) p_law_made (spV K (pMade K)) := by
  refine Ok.of 8 T.f_law_made sc_law_made bi_law_made (by decide) (fun vs H Q E h => ?_) (fun cdv A outer s H vs Q E hr h => ?_)
  · obtain ⟨_, _, _, _, _, rq, ⟨_, _, _, _, _, rfl, _⟩, _⟩ := h
    exact rq.1
  · have T0 := T
    have fc_Plan := T.cPlan
    have fn_Plan_rows := T.nPlan_rows
    have mt9 : Mt 9 := trivial
    have nd := sc_law_made.nd
    refine ⟨_, pss_cons (ps_set (i := 3) nd rfl (.inl rfl) (pe_callTy (k_call_list_of K rfl) (by rfl) T.m_list (by decide +kernel) (pa_cons (pv 2) pa_nil)))
      (pss_cons (ps_set (i := 4) nd rfl (.inr rfl) (pc (ok_law_due T) (hr.mono (by decide)) T.g_law_due pass0 (pa_cons (pv 1) (pa_cons (pv 3) pa_nil))))
      (pss_cons (ps_setLc (i := 5) (own := [("person", 6)]) (g := gName 6) (tt := tYes) rfl nd rfl rfl (sw_true rfl rfl rfl (by decide +kernel)) (pi_range1 rfl T.m_range (pa_cons (pe_callB (k_call_len_seq K rfl) (by rfl) T.m_len PySem.boot_len (pa_cons (pv 3) pa_nil)) pa_nil)) (blkOk_by (N := n_law_made) (sc := defScope s_law_made) (by decide +kernel)) (fun _ _ _ _ _ => pg_name (i := 6) nd rfl (Or.inr rfl)) (fun _ _ _ _ _ => pts_nil) (fun _ _ _ _ _ => pe_callB (r := rLenQ K) (k_call_len_seq K rfl) (by rfl) T.m_len PySem.boot_len (pa_cons (pe_lc (own := [("row", 7)]) (g := gName 7) (wi := iList K (tVar 4)) rfl nd (k_pi_list K rfl (pv 4)) (blkOk_by (N := n_law_made) (by kernel_rfl)) (fun _ _ _ _ _ => pg_name (i := 7) nd rfl (Or.inl rfl)) (fun _ _ _ _ _ => pts_one (pt_cmpR (k_op_in_seq K rfl) (pv 6) (pv 7) (by rfl))) (fun _ _ _ _ _ => pv 7)) pa_nil)))
      (pss_cons (ps_set (i := 8) nd rfl (.inl rfl) (pc (ok_one_after_another T) (hr.mono (by decide)) T.g_one_after_another passF (pa_cons (pv 0) (pa_cons (pv 2) pa_nil))))
      (pss_cons (ps_set (i := 9) nd rfl (.inl rfl) (pc (ok_order_counts T) hr T.g_order_counts passF (pa_cons (pv 0) (pa_cons (pv 2) pa_nil))))
      (pss_cons (ps_if (PW.pt (pw_or (pt_not (pt_val (pe_callB (k_call_isi K rfl) (by rfl) T.m_isinstance (by decide +kernel) (pa_cons (pv 8) (pa_cons (pgC T.gPlan) pa_nil))))) (pw_or1 (pt_not (pt_val (pc (ok_law_same T) (hr.mono (by decide)) T.g_law_same pass0 (pa_cons (k_pe_fld K rfl (pv 8) rfl) (pa_cons (pe_callTy (k_call_tuple_of K rfl) (by rfl) T.m_tuple (by decide +kernel) (pa_cons (pv 4) pa_nil)) pa_nil)))))))) (pss_one (ps_ret pe_bl)) pss_nil)
      (pss_cons (ps_if (PW.pt (pw_or (pt_not (pt_val (pc (ok_law_same T) (hr.mono (by decide)) T.g_law_same pass0 (pa_cons (pv 9) (pa_cons (pv 5) pa_nil))))) (pw_or1 (pt_not (pt_val (pc (ok_law_same T) (hr.mono (by decide)) T.g_law_same pass0 (pa_cons (pv 2) (pa_cons (pv 3) pa_nil)))))))) (pss_one (ps_ret pe_bl)) pss_nil)
      (pss_cons (ps_expr (pe_bm PySem.F.plainAttrs_list PySem.F.slot_list_append PySem.F.type_list_append mt_append (pv 9) (pa_cons pe_int pa_nil)))
      (pss_cons (ps_if (pt_not (pt_val (pc (ok_law_same T) (hr.mono (by decide)) T.g_law_same pass0 (pa_cons (pc (ok_order_counts T) hr T.g_order_counts passF (pa_cons (pv 0) (pa_cons (pv 2) pa_nil))) (pa_cons (pv 5) pa_nil))))) (pss_one (ps_ret pe_bl)) pss_nil)
      (pss_one (ps_ret (pc (ok_law_plan_fits T) (hr.mono (by decide)) T.g_law_plan_fits pass0 (pa_cons (k_pe_fld K rfl (pv 8) rfl) (pa_cons (pe_ix (k_ix_list K rfl) (pv 1) pe_int (fun _ _ => rfl)) (pa_cons (pe_ix (k_ix_list K rfl) (pv 1) pe_int (fun _ _ => rfl)) (pa_cons (pe_ix (k_ix_list K rfl) (pv 1) pe_int (fun _ _ => rfl)) (pa_cons pe_bl pa_nil)))))))))))))))), ?_⟩
    try dsimp only [cxOf]
    refine run_V0 (by repeat' kbo_bools) h fun ts PP G hp _ => ?_
    obtain ⟨days, starts, gap, us, ps, rfl, ld, ls, g0, g1, hd, hs, hb, hl, q⟩ := hp
    have se : ∀ t0 t1 t2 : Tr, startE n_law_made [t0, t1, t2] = [some (.p t0), some (.p t1), some (.p t2), none, none, none, none, none, none, none] := fun _ _ _ => rfl
    rw [se]; clear se h hr
    have isi : IsiC K (c_Plan K) := fun h => .base (.ins h T0.cPlan T0.tPlan.ha T0.tPlan.hn T0.tPlan.ht T0.tPlan.hm)
    have kpp := T0.kPlan_Plan
    have lr := onR_len (gap := gap) (days := days) (starts := starts) (ps := ps)
    have F := fitP_on g0 ls hd hs hb
    have hbk : ∀ e c, badP starts.length [] ps = some (c, e) → False := fun e c h => by rw [hb] at h; cases h
    keq_rows
    refine lc_map (List.range ps.length) (fun i : Nat => trI i) (fun e => trI ((((onR gap days starts ps).filter fun r => decide ((e : Int) ∈ r)).length : Nat) : Int)) (by rw [Int.toNat_natCast]) (sidL (by rw [List.length_range]; omega)) (fun e he acc Kp Ks hk => ?_) ?_
    · keq_rows
      refine lc_detP (onR gap days starts ps) trTI (fun r => (e : Int) ∈ r) trTI rfl (sidL (by omega)) (fun r hr acc Kp Ks hk hs => ?_) ?_
      · keq_rows
        · exact hk (by assumption)
        · exact hs (by assumption)
      · have := List.length_filter_le (fun r : List Int => decide ((e : Int) ∈ r)) (onR gap days starts ps)
        keq_rows
        exact hk
    · rw [countsI_on, hl]
      have lc : (countsI (onR gap days starts ps) starts.length).length = starts.length := by unfold countsI; rw [List.length_map, List.length_range]
      keq_rows
      all_goals first | exact hbk _ _ (by assumption) | exact q | skip
end
end K14v

set_option maxRecDepth 100000
set_option maxHeartbeats 8000000
namespace K14v
open PySem PySem.Spec PyProof.Rows L2 VL K14
section
variable {w : World} {K : PySem.W.Frag} {mg : Str → Option Value} {base : Heap}
theorem perm_ok {n : Nat} {bs : List Int} (h : bs.Perm ((List.range n).map fun i : Nat => (i : Int))) : badP n [] bs = none ∧ bs.length = n := by
  refine ⟨badP_none.mpr ⟨fun p hp => ?_, ?_, fun p _ h => by cases h⟩, by rw [h.length_eq, List.length_map, List.length_range]⟩
  · obtain ⟨i, hi, rfl⟩ := List.mem_map.mp (h.mem_iff.mp hp)
    have := List.mem_range.mp hi
    omega
  · rw [h.nodup_iff]
    unfold List.Nodup
    rw [List.pairwise_map]
    exact List.nodup_range.imp fun h q => h (Int.ofNat.inj q)
theorem badc_none {g : Int} : ∀ {k : Nat} {ns : List Int}, (∀ x ∈ ns, 1 ≤ x ∧ x ≤ g) → badc g k ns = none
  | k, [], _ => rfl
  | k, n :: ns, h => by
    unfold badc
    rw [if_pos (h n (List.mem_cons_self ..))]
    exact badc_none fun x hx => h x (List.mem_cons_of_mem _ hx)
theorem rngT2 {starts : List Int} : [Tr.lst ((List.range (((starts.map trI).length : Nat) : Int).toNat).map fun n : Nat => trI n)] = [trLI ((List.range starts.length).map fun k : Nat => (k : Int))] := by
  rw [List.length_map, Int.toNat_natCast]
  show [Tr.lst _] = [Tr.lst (List.map trI (List.map _ _))]
  rw [List.map_map]; rfl
theorem rngT3 {starts : List Int} : [Tr.lst ((List.range ((starts.length : Nat) : Int).toNat).map fun n : Nat => trI n)] = [trLI ((List.range starts.length).map fun k : Nat => (k : Int))] := by
  rw [Int.toNat_natCast]
  show [Tr.lst _] = [Tr.lst (List.map trI (List.map _ _))]
  rw [List.map_map]; rfl
theorem rngL {n : Nat} (h : n ≤ 1000) : ((List.range n).map fun k : Nat => (k : Int)).length ≤ 1000 := by rw [List.length_map, List.length_range]; exact h
theorem okP {K : PySem.W.Frag} {days starts : List Int} {gap : Int} {us : List Tr} {bs : List Int} (h : okG (partsT days starts gap us)) (l : bs.length ≤ 1000000) : okGs [hT K days starts gap, partsT days starts gap us, trLI bs] := ⟨okG_ins, h, okG_I l, trivial⟩
theorem permB {n : Nat} {bs : List Int} (h : bs.Perm ((List.range n).map fun i : Nat => (i : Int))) : badP n [] bs = none := (perm_ok h).1
theorem permL {n : Nat} {bs : List Int} (h : bs.Perm ((List.range n).map fun i : Nat => (i : Int))) : bs.length = n := (perm_ok h).2
theorem dat_fau {n : Nat} {ps : List Int} : Dat 4 (fauT n ps) := by
  unfold fauT
  split
  · exact dat_cons dat_S (dat_cons dat_I (dat_cons dat_B (dat_cons dat_B dat_nil)))
  · exact dat_cons dat_S (dat_cons dat_I (dat_cons dat_B (dat_cons dat_B dat_nil)))
  · split
    · exact dat_cons dat_S (dat_cons dat_I (dat_cons dat_I (dat_cons dat_B (dat_cons dat_B dat_nil))))
    · exact dat_cons dat_S dat_nil
theorem lenAB {as bs : List Int} (h1 : as.length ≤ 1000) (h2 : bs.length ≤ 1000) : (as.map trI).length + (bs.map trI).length ≤ sizeLine := by rw [List.length_map, List.length_map]; exact sidL (by omega)
theorem permL30 {starts bs : List Int} (h : bs.Perm ((List.range starts.length).map fun i : Nat => (i : Int))) (l : starts.length ≤ 30) : bs.length ≤ 1000 := by rw [permL h]; omega
local macro_rules | `(tactic| keq_hits) => `(tactic| first
  | exact dat_fau | exact lenAB (permL30 (by assumption) (by assumption)) (permL30 (by assumption) (by assumption))
  | (rw [List.length_map]; exact permB (by assumption)) | (rw [List.length_map]; done)
  | exact rngT2 | exact rngT3 | (refine rngL ?_; omega)
  | exact atP0 | exact atP1 | exact atP2
  | exact permB (by assumption) | exact permL (by assumption) | (rw [permL (by assumption)]; omega)
  | ((refine VL.sidL ?_); (rw [List.length_map, permL (by assumption)]); omega)
  | ((refine VL.sidL ?_); (rw [List.length_map, List.length_map, permL (by assumption), permL (by assumption)]); omega)
  | (refine okP (by assumption) ?_; rw [permL (by assumption)]; omega)
  | (rw [List.length_map]; exact permL (by assumption))
  | omega)
def pLaw : Pv := fun ts PP _ => ∃ (sc : List Int), ts = [.scr sc] ∧ PP (.t (trB true))
theorem fn_law (T : Tx K mg) {fd : FuncData} (F : FunD K "law" "law" (defArgs s_law) (defBody s_law) (defScope s_law) [] [] (a_law K) fd) : FnOk PG w K mg base CX0 15 (a_law K) fd p_law (spV K (pLaw)) := by
  refine (F.ok (k := 14) sc_law (fun vs H Q E h => ?_) (fun cdv A outer s H vs Q E hr h => ?_)).mono (by decide)
  · obtain ⟨_, _, _, _, _, rq, ⟨_, rfl, _⟩, _⟩ := h
    exact rq.1
  · have T0 := T
    have mt1 : Mt 1 := trivial
    have mt7 : Mt 7 := trivial
    have nd := sc_law.nd
    refine ⟨_, pss_cons (ps_set (i := 1) nd rfl (.inl rfl) (pc (ok_law_pool T) (hr.mono (by decide)) T.g_law_pool pass0 (pa_cons (pv 0) (pa_cons pe_int pa_nil))))
      (pss_cutI (ps_if (pt_cmpR op_eq (pc (ok_law_draw T) (hr.mono (by decide)) T.g_law_draw pass0 (pa_cons (pv 1) (pa_cons pe_int pa_nil))) pe_int (nomark _)) (pss_one (ps_set (i := 2) nd rfl (.inl rfl) (pc (ok_law_large T) (hr.mono (by decide)) T.g_law_large pass0 (pa_cons (pv 1) pa_nil)))) (pss_one (ps_set (i := 2) nd rfl (.inl rfl) (pc (ok_law_house T) (hr.mono (by decide)) T.g_law_house pass0 (pa_cons (pv 1) (pa_cons pe_int (pa_cons pe_int (pa_cons pe_int pa_nil))))))))
      (pss_cons (ps_set (i := 3) nd rfl (.inl rfl) (pmkK (n := 2) (okw_House_init T) T.kHouse (hr.mono (by decide)) T.gHouse passF (pa_cons (pmk (ok_Wants_init T) T.kWants (hr.mono (by decide)) T.gWants passF (pa_cons (pe_ix (k_ix_list K rfl) (pv 2) pe_int (fun _ _ => rfl)) pa_nil)) (pa_cons (pe_ix (k_ix_list K rfl) (pv 2) pe_int (fun _ _ => rfl)) pa_nil)) (pk_cons (pe_ix (k_ix_list K rfl) (pv 2) pe_int (fun _ _ => rfl)) pk_nil)))
      (pss_cons (ps_set (i := 4) nd rfl (.inl rfl) (pe_callB (k_call_len_seq K rfl) (by rfl) T.m_len PySem.boot_len (pa_cons (pe_ix (k_ix_list K rfl) (pv 2) pe_int (fun _ _ => rfl)) pa_nil)))
      (pss_cons (ps_set (i := 5) nd rfl (.inl rfl) (pc (ok_law_mixed T) (hr.mono (by decide)) T.g_law_mixed pass0 (pa_cons (pv 1) (pa_cons (pe_callTy call_list_rng (by rfl) T.m_list (by decide +kernel) (pa_cons (pe_callTy cr_range1 (by rfl) T.m_range (by decide +kernel) (pa_cons (pv 4) pa_nil)) pa_nil)) pa_nil))))
      (pss_cons (ps_set (i := 6) nd rfl (.inl rfl) (pc (ok_law_mixed T) (hr.mono (by decide)) T.g_law_mixed pass0 (pa_cons (pv 1) (pa_cons (pe_callTy call_list_rng (by rfl) T.m_list (by decide +kernel) (pa_cons (pe_callTy cr_range1 (by rfl) T.m_range (by decide +kernel) (pa_cons (pv 4) pa_nil)) pa_nil)) pa_nil))))
      (pss_cons (ps_set (i := 7) nd rfl (.inl rfl) (pe_callTy (k_call_list_of K rfl) (by rfl) T.m_list (by decide +kernel) (pa_cons (pv 5) pa_nil)))
      (pss_cons (ps_if (pt_not (pt_val (pc (ok_law_made T) (hr.mono (by decide)) T.g_law_made pass0 (pa_cons (pv 3) (pa_cons (pv 2) (pa_cons (pv 7) pa_nil)))))) (pss_one (ps_ret pe_bl)) pss_nil)
      (pss_cons (ps_asg (pv 6) (pg_slAll (pv 7)))
      (pss_cons (ps_if (pt_not (pt_val (pc (ok_law_made T) (hr.mono (by decide)) T.g_law_made pass0 (pa_cons (pv 3) (pa_cons (pv 2) (pa_cons (pv 7) pa_nil)))))) (pss_one (ps_ret pe_bl)) pss_nil)
      (pss_cons (ps_set (i := 8) nd rfl (.inl rfl) (pc (ok_law_spoiled T) (hr.mono (by decide)) T.g_law_spoiled pass0 (pa_cons (pv 1) (pa_cons (pv 6) (pa_cons (pv 4) pa_nil)))))
      (pss_cons (ps_set (i := 9) nd rfl (.inl rfl) (pc (ok_law_order_fault T) (hr.mono (by decide)) T.g_law_order_fault pass0 (pa_cons (pv 8) (pa_cons (pv 4) pa_nil))))
      (pss_cons (ps_if (PW.pt (pw_or (pt_not (pt_val (pc (ok_law_same T) (hr.mono (by decide)) T.g_law_same pass0 (pa_cons (pc (ok_law_try_plan T) (hr.mono (by decide)) T.g_law_try_plan pass0 (pa_cons (pv 3) (pa_cons (pv 8) pa_nil))) (pa_cons (pv 9) pa_nil))))) (pw_or1 (pt_not (pt_val (pc (ok_law_same T) (hr.mono (by decide)) T.g_law_same pass0 (pa_cons (pc (ok_law_try_counts T) (hr.mono (by decide)) T.g_law_try_counts pass0 (pa_cons (pv 3) (pa_cons (pv 8) pa_nil))) (pa_cons (pv 9) pa_nil)))))))) (pss_one (ps_ret pe_bl)) pss_nil)
      (pss_one (ps_ret (pe_and (pc (ok_law_base T) (hr.mono (by decide)) T.g_law_base pass0 (pa_cons (pv 3) (pa_cons (pv 8) pa_nil))) (pe_one (pc (ok_law_made T) (hr.mono (by decide)) T.g_law_made pass0 (pa_cons (pv 3) (pa_cons (pv 2) (pa_cons (pv 5) pa_nil)))))))))))))))))))), ?_⟩
    try dsimp only [cxOf]
    refine run_V0 (by repeat' kbo_bools) h fun ts PP G hp _ => ?_
    obtain ⟨sc, rfl, q⟩ := hp
    have se : ∀ t0 : Tr, startE n_law [t0] = [some (.p t0), none, none, none, none, none, none, none, none, none] := fun _ => rfl
    rw [se]; clear se h hr
    keq_rows
    refine cutZ (fun z => ∃ (days starts : List Int) (gap : Int) (us : List Tr), z = ⟨[some (.p (.scr sc)), some (.c 0), some (.p (partsT days starts gap us)), none, none, none, none, none, none, none], [.pool]⟩ ∧ days.length ≤ 60 ∧ starts.length ≤ 30 ∧ 0 ≤ gap ∧ gap ≤ 60 ∧ (∀ x ∈ days, 0 ≤ x ∧ x ≤ 30) ∧ (∀ x ∈ starts, 1 ≤ x ∧ x ≤ (days.length : Int) + 1) ∧ okG (partsT days starts gap us)) (fun N next => ?_) (fun z hz => ?_)
    · keq_rows
      all_goals exact next _ ⟨_, _, _, _, rfl, by assumption, by assumption, by assumption, by assumption, by assumption, by assumption, by first | assumption | exact okG_parts (by omega) (by omega) (Nat.zero_le _) (fun u vs hu _ => by cases hu)⟩
    · obtain ⟨days, starts, gap, us, rfl, ld, ls, g0, g1, hd, hs, hok⟩ := hz
      have bd := bad_ok (k := 0) hd
      have bs : badc ((days.length : Nat) + 1 : Int) 0 starts = none := badc_none hs
      have hd0 : ∀ x ∈ days, 0 ≤ x := fun x hx => (hd x hx).1
      keq_rows
      · rename_i e; rw [bd] at e; cases e
      · rename_i e; rw [bs] at e; cases e
      · exact q
end
end K14v

set_option maxRecDepth 100000
set_option maxHeartbeats 0
namespace K14
open PySem PySem.W PySem.Spec PySem.Calls PyProof.Rows L2 He He5 HX
def spLaw (K : Frag) : Sp := fun vs H Q _ => ∃ (a : Addr) (sc : List Int), vs = [.ref a] ∧ SqL K H a (sc.map V.int) ∧ ∀ H', Q (.bl true) H'
theorem fn_law {w : World} {K : Frag} {mg : Str → Option Value} {base : Heap} (T : Tx K mg) {fd : FuncData} (F : FunD K "law" "law" (defArgs s_law) (defBody s_law) (defScope s_law) [] [] (a_law K) fd) : FnOk PG w K mg base CX0 15 (a_law K) fd p_law (spLaw K) := (K14v.fn_law T F).imp fun vs H Q E h => by
  obtain ⟨a, sc, rfl, hS, q⟩ := h
  refine ⟨H, [.scr sc], fun r => r = .t (VL.trB true), fun _ _ => False, .refl _, .cons (.scr hS) .nil, ⟨sc, rfl, rfl⟩, fun _ _ z => z.elim, fun r v F' H' e _ _ _ _ rr => ?_⟩
  subst e
  rw [VL.Rp.atom rr]
  exact q H'
theorem facts {w : World} {K : Frag} {h : Heap} {mg : Str → Option Value} {f : Addr} (X : K.In h) (G : h.Ns mainGlobals mg) (hfa : mg ("law" : Str) = some (.ref f)) (c : SaysX bx fn er "/claim/cut.py" K) :
    ∃ fd : FuncData, (∀ (s : Shared) (v : Value), BindsTo s fd ⟨[v], []⟩ [("script", v)]) ∧ ∀ base : Heap, K.In base → base.Ns mainGlobals mg → FnOk PG w K mg base CX0 15 f fd ["script"] (spLaw K) := by
  have T := tx_of c X G
  obtain ⟨fd, F⟩ := T.f_law
  have e := hfa.symm.trans T.g_law
  cases e
  exact ⟨fd, fun s v => FunD.bindsA (ps := ["script"]) F (fun _ _ _ _ _ _ us hl => match us, hl with | [_], _ => rfl) s [v] rfl, fun base _ _ => fn_law T F⟩
end K14
open PySem PySem.W PySem.Calls PyProof.Rows
theorem PySem.Challenge.cw_nightsoff_k14_one_after_another_holds : PySem.Challenge.rw_nightsoff_k14_one_after_another.Holds := by
  w_on; o_law
  k_head
  case hw => w_witness2
  case hc =>
    refine L2.walk_ofX (l := PySem.Challenge.rw_nightsoff_k14_one_after_another) (n := 63) (k := 15) (x := "script") (CX := fun _ => L2.CX0) rfl (by decide) (by kernel_rfl) ⟨rfl, by decide, by decide⟩ ?F (fun _ _ _ _ _ z => z)
    intro w mg fa h Y G hmg0
    refine (fun {K0 : PySem.W.Frag} (KX : K0.In h) (c : HX.SaysX K14.bx K14.fn K14.er "/claim/cut.py" K0) => ?_) (PySem.W.kIn_of Y) (by show HX.obsX K14.bx K14.fn K14.er "/claim/cut.py" _ = HX.valX K14.fn K14.er; kernel_rfl)
    have hmg : mg ("law" : PySem.Str) = some (.ref fa) := hmg0
    obtain ⟨fd, hb, hF⟩ := K14.facts (w := w) KX G hmg c
    exact ⟨K0, fd, K14.spLaw K0, KX, hb, fun H a ns hl _ _ hS => ⟨a, ns, rfl, hS, fun _ => rfl⟩, hF⟩
