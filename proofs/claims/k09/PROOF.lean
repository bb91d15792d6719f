import PyProof.Rows.All
import Wide.All
import OpenK.AllK
import Wide.FinOn
import KE.KExcSuper
import HandS.ForExc
import HandS.ExcInit
import HandS.TryMany
import HandS.ExcField
import HandS.ExcIs
import HandS.ExcSuper
import HandS.ForMost
import HandS.ClsMeth
import HandS.Star
import HandS.IsInst
import HandS.TupAny
import HandS.TupMul
import HandS.Style
import HandS.Wide
import HandS.Codes
import KE.KOpsOwn
import KE.GoesNew
import KE.GoesMore
import HandS.Iter
import HandS.Walk
import KE.KOwnIter
import KE.KSuperObj
import KE.KTupSum
import KE.KRevSl
import HandS.HeadNt
import HandS.HeadHook3
import HandS.Head2
import HandS.EndBits
import HandS.CallLocal
import HandS.ExcOwn
import HandS.WordsExc
import HandS.Strs
import HandS.MakeKw
import HandS.Property
import HandS.MakeKwOnly
import HandS.SortKw
import KE.DataMinMax
import KE.GoesZip
import HandS.Zip
import PyProof.MeetsIn
import PyProof.Rows.Range3
import HandS.Sort
import PyProof.ListRange
import HandS.Flow
import PySem.Challenge.RW_nightsoff_k09_growth
set_option Elab.async false
set_option linter.all false
set_option maxRecDepth 100000
set_option maxHeartbeats 4000000
/-! # Exceptions of the program: every class over NightsError whose __init__ says super().__init__(text) and then stores its parameters. -/
namespace NX
open PySem PySem.W PySem.Calls PyProof.Rows PySem.HandSPX

/-- the stores behind super().__init__: field and parameter -/
inductive Sto : List Stmt → List (Str × Str) → Prop
  | nil : Sto [] []
  | cons {f x : Str} {p1 p2 p3 p4 : Pos} {r : List Stmt} {l : List (Str × Str)} (h : Sto r l) : Sto (.Assign [.Attribute (.Name "self" p1) f p2] (.Name x p3) p4 :: r) ((f, x) :: l)

/-- an exception that is made: its fields, the newest first -/
def Half (h : Heap) (C e : Addr) (d : Option Addr) (fs : List (Str × Value)) : Prop :=
  ∃ t : Addr, h.get? e = some { cls := .ref C, dict := d, data := .fields #[.ref t, .none, .none, .none, .bool false, .none] } ∧
    match d with
    | none => fs = []
    | some dx => dx ≠ e ∧ ∃ m, h.Ns1 dx m ∧ ∀ f, m f = fs.lookup f

structure ClsX (K : Frag) (C : Addr) : Prop where
  cls : ∃ nm q N bs bm sn sub ab col dd k0 k1 k2 k3 k5, K.lookup C = some (excClassObj nm q C N bs bm true sn sub ab col dd k0 k1 k2 k3 k5 "ValueError.__new__") ∧ refsVE bm = true ∧ alongIn K "__init__" bm = some (some (.builtin "ValueError.__init__"))
  sa : findIn K (.ref C) "__setattr__" = some (some (.builtin "object.__setattr__"))
  ve : subIn K (.ref C) (.type "ValueError") = some true

theorem lookup_cons (f g : Str) (y : Value) (fs : List (Str × Value)) : ((f, y) :: fs).lookup g = if g = f then some y else fs.lookup g := by
  by_cases h : g = f
  · subst h
    simp [List.lookup]
  · have e : (g == f) = false := by simpa using h
    rw [if_neg h]
    simp [List.lookup, e]
theorem lookup_mem_keys : ∀ {l : List (Str × Value)} {x : Str} {v : Value}, l.lookup x = some v → x ∈ l.map (·.1)
  | [], _, _, h => by cases h
  | (f, y) :: r, x, v, h => by
    rw [lookup_cons] at h
    by_cases e : x = f
    · rw [e]
      exact List.mem_cons_self ..
    · rw [if_neg e] at h
      exact List.mem_cons_of_mem _ (lookup_mem_keys h)
theorem within_map {fs : List (Str × Value)} {m : Str → Option Value} (r : ∀ f, m f = fs.lookup f) : Within m (fs.map (·.1)) := fun y hy => by
  rw [r y] at hy
  clear r
  induction fs with
  | nil => exact absurd rfl hy
  | cons p l ih =>
    obtain ⟨f, z⟩ := p
    rw [lookup_cons] at hy
    by_cases e : y = f
    · rw [e]
      exact List.mem_cons_self ..
    · rw [if_neg e] at hy
      exact List.mem_cons_of_mem _ (ih hy)

section
variable {prog : Program} {w : World} {A : Around} {E : Value → Shared → Prop} {K : Frag} {C e L : Addr}
/-- one store -/
theorem put_field (T : ClsX K C) {h : Heap} {g : Array GenState} {dr : Drawn} {tk : Nat} {os : OsState} {d : Option Addr} {fs : List (Str × Value)} {f : Str} {v : Value} {Q : Unit → Shared → Prop} (X : K.In h) (I : Half h C e d fs) (hl : fs.length ≤ 900)
    (hno : findIn K (.ref C) f = some none)
    (hq : ∀ h' tk' d', Half h' C e (some d') ((f, v) :: fs) → (∀ b o, b ≠ e → (∀ dx, d = some dx → b ≠ dx) → h.get? b = some o → h'.get? b = some o) → (∀ dx, d = some dx → d' = dx) → (d = none → h.objs.size ≤ d') → Q () ⟨h', g, dr, tk', os⟩) :
    wpAny (model prog w) A (setAttr (.ref e) f v) Q E ⟨h, g, dr, tk, os⟩ := by
  obtain ⟨nm, q, N, bs, bm, sn, sub, ab, col, dd, k0, k1, k2, k3, k5, hC, hbm, _⟩ := T.cls
  have hcl : clsIn K C = some { name := nm, bases := bs, mro := .ref C :: bm, ns := N, qualname := q, hasDict := true, slotNames := sn, subclasses := sub, abstract := ab, collection := col, hasDel := false } := by unfold clsIn; rw [hC] <;> rfl
  obtain ⟨t, ho, hd⟩ := I
  cases d with
  | none =>
    have hfs : fs = [] := hd
    subst hfs
    refine set_plain X (ox := { cls := .ref C, dict := none, data := .fields #[.ref t, .none, .none, .none, .bool false, .none] }) (od := none) ⟨ho, rfl, rfl, trivial⟩ T.sa ?_
    refine exc_osa X ho hcl (show refsVE (.ref C :: bm) = true from hbm) rfl hno (fun h' tk' dx k dn dne hx hn => ?_)
    refine hq h' tk' dx ⟨t, hx, dne, _, hn, fun y => ?_⟩ (fun b o hb _ z => k b o hb z) (fun _ z => nomatch z) fun _ => dn
    rw [lookup_cons]
    rfl
  | some dx =>
    obtain ⟨dne, m, hns, rel⟩ := hd
    have hw := within_map rel
    obtain ⟨oD, _, _, hoD, _, _⟩ := hns.count hw
    refine set_plain X (ox := { cls := .ref C, dict := some dx, data := .fields #[.ref t, .none, .none, .none, .bool false, .none] }) (od := some oD) ⟨ho, rfl, rfl, hoD⟩ T.sa ?_
    refine PySem.OEX.osa_old X ho hns hw (by rw [List.length_map]; omega) hcl (show refsVE (.ref C :: bm) = true from hbm) rfl hno (fun h' tk' k hn => ?_)
    refine hq h' tk' dx ⟨t, k _ _ (Ne.symm dne) ho, dne, _, hn, fun y => ?_⟩ (fun b o _ hb z => k b o (hb dx rfl) z) (fun _ z => Option.some.inj z) fun z => nomatch z
    rw [lookup_cons, rel y]
/-- the stores, one after the other -/
theorem sto_run (T : ClsX K C) {env : Env} {m : Str → Option Value} (hLv : env.locals = L) (hk : env.scope.kind = .function) (hs : env.kindOf "self" = some .local) (hm : m "self" = some (.ref e)) :
    ∀ {r : List Stmt} {l : List (Str × Str)}, Sto r l → (∀ p ∈ l, env.kindOf p.2 = some .local ∧ (m p.2).isSome = true ∧ (p.2 == ("__debug__" : Str)) = false ∧ findIn K (.ref C) p.1 = some none) →
    ∀ {h : Heap} {g : Array GenState} {dr : Drawn} {tk : Nat} {os : OsState} {d : Option Addr} {fs : List (Str × Value)} {Q : Flow → Shared → Prop}, K.In h → K.lookup e = none → (∀ dx, d = some dx → K.lookup dx = none) → Half h C e d fs → L ≠ e → (∀ dx, d = some dx → L ≠ dx) → h.Ns L m → fs.length + l.length ≤ 900 →
      (∀ h' tk' d', Half h' C e d' ((l.map fun p => (p.1, (m p.2).getD .none)).reverse ++ fs) → (∀ b o, b ≠ e → (∀ dx, d = some dx → b ≠ dx) → h.get? b = some o → h'.get? b = some o) → (∀ dx, d = some dx → d' = some dx) →
        (d = none → ∀ dx, d' = some dx → h.objs.size ≤ dx) → Q .next ⟨h', g, dr, tk', os⟩) →
      wpAny (model prog w) A (execs r env) Q E ⟨h, g, dr, tk, os⟩ := by
  intro r l S
  induction S with
  | nil =>
    intro _ h g dr tk os d fs Q _ _ _ I _ _ _ _ hq
    exact wpAny_execs_nil (hq h tk d I (fun _ _ _ _ z => z) (fun _ z => z) fun z dx y => by rw [z] at y; cases y)
  | @cons f x p1 p2 p3 p4 r l hS ih =>
    intro hp h g dr tk os d fs Q X he hde I hLe hLd hn hl hq
    obtain ⟨q1, q2, q3, q4⟩ := hp (f, x) (List.mem_cons_self ..)
    obtain ⟨v, hv⟩ := Option.isSome_iff_exists.mp q2
    subst hLv
    refine wpAny_execs_cons (plainObj_wpAny_Assign_Attribute ?_)
    refine PySem.ESX.ldL (v := v) hn hv (PySem.ESX.ldL (v := .ref e) hn hm ?_ hk hs) hk q1 q3
    refine put_field T X I (by simp only [List.length_cons] at hl; omega) q4 fun h' tk' d' I' k' kd kn => ?_
    have nb : ∀ b o, K.lookup b = some o → b ≠ e ∧ ∀ dx, d = some dx → b ≠ dx := fun b o z => ⟨fun y => (by rw [y, he] at z; cases z), fun dx y w => (by rw [w, hde dx y] at z; cases z)⟩
    have X' : K.In h' := fun b o z => k' b o (nb b o z).1 (nb b o z).2 (X b o z)
    have hLn : env.locals < h.objs.size := hn.lt
    have hLd' : env.locals ≠ d' := by
      cases d with
      | none => exact Nat.ne_of_lt (Nat.lt_of_lt_of_le hLn (kn rfl))
      | some dx => rw [kd dx rfl]; exact hLd dx rfl
    have hn' : h'.Ns env.locals m := by
      obtain ⟨oL, es, ep, hL, rr⟩ := hn
      exact ⟨oL, es, ep, k' _ _ hLe hLd hL, rr⟩
    have he' : K.lookup d' = none := by
      cases d with
      | none =>
        cases z : K.lookup d' with
        | none => rfl
        | some o => exact absurd (Nat.lt_of_lt_of_le (Heap.lt_size (X _ _ z)) (kn rfl)) (Nat.lt_irrefl _)
      | some dx => rw [kd dx rfl]; exact hde dx rfl
    refine ih (fun p hp' => hp p (List.mem_cons_of_mem _ hp')) X' he (fun dx z => by cases z; exact he') I' hLe (fun dx z => by cases z; exact hLd') hn' (by simp only [List.length_cons] at hl ⊢; omega) fun h2 tk2 d2 I2 k2 kd2 _ => ?_
    have ed2 : d2 = some d' := kd2 d' rfl
    refine hq h2 tk2 d2 ?_ (fun b o hb hd z => k2 b o hb (fun dx y => ?_) (k' b o hb hd z)) (fun dx z => ?_) fun z dx y => ?_
    · rw [List.map_cons, List.reverse_cons, List.append_assoc]
      rw [hv]
      exact I2
    · cases y
      cases d with
      | none => exact Nat.ne_of_lt (Nat.lt_of_lt_of_le (Heap.lt_size z) (kn rfl))
      | some dx => rw [kd dx rfl]; exact hd dx rfl
    · rw [ed2, kd dx z]
    · rw [ed2] at y
      cases y
      exact kn z
end

/-- the statement super().__init__(text) -/
def supS (msg : Str) (k : Nat) (q1 q2 q3 q4 q5 q6 : Pos) : Stmt := .Expr (.Call (.Attribute (.Call (.Name "super" q1) [] [] q2) "__init__" q3) [.Constant (.str msg) k q4] [] q5) q6
structure InitX (prog : Program) (K : Frag) (C fI : Addr) (qual : Str) (params : Arguments) (scope : Scope) (body : List Stmt) (ar : Arg) (l : List (Str × Str)) : Prop where
  txt : ∃ msg k q1 q2 q3 q4 q5 q6 r, body = supS msg k q1 q2 q3 q4 q5 q6 :: r ∧ Sto r l ∧ (∀ env : Env, env.scope = scope → interactive env = false) ∧
    ∀ env : Env, env.scope = scope → ∃ pl : Sem Bool, eval (.Call (.Attribute (.Call (.Name "super" q1) [] [] q2) "__init__" q3) [.Constant (.str msg) k q4] [] q5) env = (do
      let ov ← attributeBase (.Call (.Name "super" q1) [] [] q2) "__init__" env (eval (.Call (.Name "super" q1) [] [] q2) env)
      standAt q3.atName
      let (f, first) ← holding [ov] (getMethod ov "__init__" pl)
      callWith q5 f first (backTo q5 (starEach [.Constant (.str msg) k q4] env)) [])
  iC : findIn K (.ref C) "__init__" = some (some (.ref fI))
  tC : typeIn K (.ref fI) = some (.type "function")
  fn : ∃ (oc : Value) (od : Option Addr) (kV doc pm : Value) (an : Option Addr) (cda : Addr) (ct : Value) (osl : Array (Option Value)) (cc : Addr) (cl : Value) (cld : Option Addr) (csl : Array (Option Value)) (ccl : Value) (cdd : Option Addr) (vs : Array Value) (ccs : Array (Option Value)) (file : Str) (tf : Tok),
    K.lookup fI = some ⟨oc, od, .func (ksFn "__init__" qual params body scope .none kV doc pm an (.ref cda) ct cc), osl⟩ ∧ codeIn K (.ref cda) qual = true ∧
    K.lookup cc = some ⟨cl, cld, .cell (some (.ref C)), csl⟩ ∧ K.lookup cda = some ⟨ccl, cdd, .fields vs, ccs⟩ ∧ vs[2]? = some (.str file tf) ∧ ((prog.main.file : Str) == file) = true
  par : (params.posonlyargs ++ params.args).head? = some ar
  arN : ar.arg = "self"
  sup : scope.names.lookup ("super" : Str) = some .globalImplicit
  cls : scope.names.lookup ("__class__" : Str) = some .free
  slf : scope.names.lookup ("self" : Str) = some .local
  loc : ∀ p ∈ l, scope.names.lookup p.2 = some .local ∧ (p.2 == ("__debug__" : Str)) = false ∧ findIn K (.ref C) p.1 = some none
  cell : ∀ x ∈ scope.names, x.2 ≠ .cell
  kind : scope.kind = .function
  co : scope.isCoroutine = false
  gen : scope.isGenerator = false
  top : (prog.main.scope.names.lookup ("super" : Str)).isSome = false
  few : l.length ≤ 900

/-- what stands behind the making of an exception -/
structure Made (h h' : Heap) (C e : Addr) (d : Option Addr) (fs : List (Str × Value)) : Prop where
  keep : ∀ b o, h.get? b = some o → h'.get? b = some o
  new : h.objs.size ≤ e
  obj : Half h' C e d fs
  dct : ∀ dx, d = some dx → h.objs.size ≤ dx

/-- a bound wrapper called with one written text -/
theorem mw_call {M : Model} {A : Around} {E : Value → Shared → Prop} {s : Shared} {u x : Addr} {i : String} {pos : Pos} {env : Env} {msg : Str} {kk : Nat} {q4 : Pos} {Q : Value → Shared → Prop} (hu : s.heap.get? u = some (kxs_mw i x))
    (h : ∀ t, wpAny M A (call (.ref u) [.str msg t]) Q E { s with toks := s.toks + 1 }) :
    wpAny M A (callWith pos (.ref u) [] (backTo pos (starEach [.Constant (.str msg) kk q4] env)) []) Q E s := by
  have he : starEach [.Constant (.str msg) kk q4] env = (false, eval (.Constant (.str msg) kk q4) env) :: starEach [] env := by rfl
  have hpl : (backTo pos (starEach [] env)).any (·.1) = false := by rfl
  rw [he]
  refine kxs_callWith (i := i) (x := x) (by show (false || (backTo pos (starEach [] env)).any (·.1)) = false; rw [hpl]; rfl) (evalArgs_plain ?_)
  show wpAny M A (spliced (backTo pos (starEach [.Constant (.str msg) kk q4] env))) _ E s
  exact spliced_more (Calls.Constant_str (spliced_none ⟨hu, h _⟩))

section
variable {prog : Program} {w : World} {A : Around} {R : Result → Shared → Prop} {K : Frag} {C fI : Addr} {qual : Str} {params : Arguments} {scope : Scope} {body : List Stmt} {ar : Arg} {l : List (Str × Str)} {mg mb : Str → Option Value}
theorem exn_made (T : ClsX K C) (I : InitX prog K C fI qual params scope body ar l) {s : Shared} {us : List Value} {binds : List (Str × Value)} (X : K.In s.heap) (hlim : s.heap.NoLimit) (hG : s.heap.Ns mainGlobals mg) (hB : s.heap.Ns builtinsNs mb) (hsup : mg "super" = none) (hmb : mb "super" = some (.type "super"))
    (ho : nsIn K cStatics "thirdparty.any" = some none)
    (hroom : A.depth + 1 < recursionLimit) (hlen : us.length ≤ sizeLine)
    (hbind : ∀ (s' : Shared) (e : Addr) (fd : FuncData), fd.params = params → fd.scope = scope → fd.defaults = .none → BindsTo s' fd ⟨.ref e :: us, []⟩ (("self", .ref e) :: binds))
    (hin : ∀ p ∈ l, (binds.lookup p.2).isSome = true) (hbl : ∀ y ∈ binds, scope.names.lookup y.1 = some .local) (hnd : (binds.map (·.1)).Nodup ∧ ("self" : Str) ∉ binds.map (·.1))
    (hq : ∀ h' tk e d, Made s.heap h' C e d (l.map fun p => (p.1, (binds.lookup p.2).getD .none)).reverse → R (.ok (.ret (.ref e))) { s with heap := h', toks := tk }) :
    codeAny (model prog w) A (.call (.ref C) ⟨us, []⟩) R s := by
  obtain ⟨nm, q, N, bs, bm, sn, sub, ab, col, dd, k0, k1, k2, k3, k5, hC, hbm, hal⟩ := T.cls
  obtain ⟨msg, kk, q1, q2, q3, q4, q5, q6, r, eb, hS, hint, hev⟩ := I.txt
  obtain ⟨oc, od, kV, doc, pm, an, cda, ct, osl, cc, cl, cld, csl, ccl, cdd, vs, ccs, file, tf, hfn, hcd, hcell, hcda, hvs, hfile⟩ := I.fn
  have hcl : clsIn K C = some { name := nm, bases := bs, mro := .ref C :: bm, ns := N, qualname := q, hasDict := true, slotNames := sn, subclasses := sub, abstract := ab, collection := col, hasDel := false } := by unfold clsIn; rw [hC] <;> rfl
  obtain ⟨hp, g, dr, tk, os⟩ := s
  have k : ∀ b o, hp.get? b = some o → ((hp.push (kdv_tup us)).push (excO C hp.objs.size)).get? b = some o := fun b o e => Heap.get?_push_of_some _ (Heap.get?_push_of_some _ e)
  have hget : ((hp.push (kdv_tup us)).push (excO C hp.objs.size)).get? (hp.objs.size + 1) = some (excO C hp.objs.size) := by heap_get
  have hnx : K.lookup (hp.objs.size + 1) = none := by
    cases e : K.lookup (hp.objs.size + 1) with
    | none => rfl
    | some o =>
      have z : hp.get? (hp.objs.size + 1) = some o := X _ _ e
      exact absurd (Nat.lt_of_succ_lt (Heap.lt_size z)) (Nat.lt_irrefl _)
  refine call_own F.excBase_ValueError (fun X => refsVE_contains X bm hbm) (X _ _ hC) (looks_findIn X I.iC) (fun self => bind_fn X self I.tC) hlen ?_
  refine ks_codeAny_call_defAt (binds := ("self", .ref (hp.objs.size + 1)) :: binds) (body := body) (show A.depth + 1 < recursionLimit from hroom) (k _ _ (X _ _ hfn)) rfl (hlim.keeps k) (codeRec_of (X.keeps k) hcd) rfl (hbind _ _ _ rfl rfl rfl) I.cell ?_ (fun h₀ hns hk₀ => ?_) I.co I.gen I.kind
  · intro x hx
    rcases List.mem_cons.mp hx with rfl | hx
    · exact I.slf
    · exact hbl x hx
  · subst eb
    let env : Env := callEnv (ksFn "__init__" qual params (supS msg kk q1 q2 q3 q4 q5 q6 :: r) scope .none kV doc pm an (.ref cda) ct cc) ((hp.push (kdv_tup us)).push (excO C hp.objs.size)).objs.size fI
    have k₀ : ∀ b o, hp.get? b = some o → h₀.get? b = some o := fun b o z => hk₀ b o (k b o z)
    have X₀ : K.In h₀ := X.keeps k₀
    have hx₀ := hk₀ _ _ hget
    obtain ⟨pl, hpl⟩ := hev env rfl
    refine ks_wpAt_execs_cons (ks_wpAt_Expr_any (ks_wpAt_MethodCall (pl := pl) ?_ hpl) (hint env rfl))
    refine ks_wpAt_super_base (f := fI) (cc := cda) I.sup I.cls (by decide) rfl (X₀ _ _ hfn) rfl I.par rfl (X₀ _ _ hcda) rfl hvs hfile I.top ?_
    refine ks_loadName_global I.kind I.sup (loadGlobal_builtin (hG.keeps k₀) hsup (hB.keeps k₀) hmb ⟨rfl, ?_⟩)
    refine wpAny_loadName_free I.kind I.cls rfl ⟨_, X₀ _ _ hcell, rfl⟩ ?_
    refine wpAny_loadName_local I.kind (show env.kindOf ar.arg = some .local by rw [I.arN]; exact I.slf) hns (v := .ref (hp.objs.size + 1)) (by rw [I.arN, lookup_reverse_of_nodup _ (by rw [List.map_cons]; exact List.nodup_cons.mpr ⟨hnd.2, hnd.1⟩)]; simp [List.lookup]) ?_
    refine ks_wpAny_isType_cls (X₀ _ _ hC) rfl ⟨rfl, ?_⟩
    refine ks_wpAny_call_super (X₀ _ _ hC) rfl hx₀ rfl (fun c z => nomatch z) (looks_mroIn X₀ ?_) (fun h1 e1 k1 => ?_)
    · unfold mroIn
      rw [hcl, Option.bind_some, if_neg (show ¬ (List.isEmpty (Value.ref C :: bm) = true) from Bool.false_ne_true)]
      simp
    · have X₁ : K.In h1 := X₀.keeps k1
      have hx₁ := k1 _ _ hx₀
      have Ity : Looks (model prog w) h1 (typeOf (.ref (hp.objs.size + 1))) (.ref C) := (show InstAt h1 (hp.objs.size + 1) (excO C hp.objs.size) C none from ⟨hx₁, rfl, rfl, trivial⟩).type
      have hxC : hp.objs.size + 1 ≠ C := fun z => by
        have y := X _ _ hC
        rw [← z] at y
        exact absurd (Nat.lt_of_succ_lt (Heap.lt_size y)) (Nat.lt_irrefl _)
      refine kxs_getMethod kxs_ValueError e1 (looks_opaque X₁ ho) ((looks_clsIn X₁ hcl).andThen .now) (l := bm) (by simp [List.dropWhile_cons]) X₁ hal (Ity.andThen (looks_subIn X₁ T.ve)) hxC (by decide) ?_
      refine mw_call (u := h1.objs.size) (x := hp.objs.size + 1) (Heap.get?_push_at rfl rfl) fun t => ?_
      have hw : (h1.push (kxs_mw "ValueError.__init__" (hp.objs.size + 1))).get? h1.objs.size = some (kxs_mw "ValueError.__init__" (hp.objs.size + 1)) := Heap.get?_push_at rfl rfl
      have k2 : ∀ b o, h1.get? b = some o → (h1.push (kxs_mw "ValueError.__init__" (hp.objs.size + 1))).get? b = some o := fun b o z => Heap.get?_push_of_some _ z
      have X₂ : K.In _ := X₁.keeps k2
      refine wpAny_call (codeAny_of_tree ?_)
      show wpAny _ _ (callAny (.ref h1.objs.size) ⟨[.str msg t], []⟩) _ _ _
      simp only [callAny]
      refine wpAny_bind (wpAny_load hw ?_)
      simp only [kxs_mw, show (Value.type "method-wrapper" == Value.type "method" || Value.type "method-wrapper" == Value.type "builtin_function_or_method" || Value.type "method-wrapper" == Value.type "method-wrapper") = true by decide, if_true]
      refine KFB.if_so (by decide) ?_
      refine wpAny_bind (check_bound_init F.excBase_ValueError.toExcCallFacts (X₂ _ _ hC) (k2 _ _ hx₁) rfl ?_)
      refine wpAny_bind (wpAny_pure (wpAny_pure ?_))
      refine ⟨plainId_quiet F.excBase_ValueError.init.plain _, codeAny_builtin F.excBase_ValueError.initEntry ?_⟩
      refine exc_init_tree (cls := .ref C) (t0 := hp.objs.size) (dv := none) (c2 := .none) (c3 := .none) (b4 := .bool false) (k2 _ _ hx₁) (by show 1 ≤ sizeLine; decide) fun h3 k3 e3 _ => ?_
      have kk3 : ∀ b o, b ≠ hp.objs.size + 1 → h₀.get? b = some o → h3.get? b = some o := fun b o hb z => k3 b o hb (k2 b o (k1 b o z))
      have notE : ∀ b o, hp.get? b = some o → b ≠ hp.objs.size + 1 := fun b o z => Nat.ne_of_lt (Nat.lt_of_lt_of_le (Heap.lt_size z) (Nat.le_succ _))
      have k4 : ∀ b o, hp.get? b = some o → h3.get? b = some o := fun b o z => kk3 b o (notE b o z) (k₀ b o z)
      have hL : env.locals ≠ hp.objs.size + 1 := by
        show ((hp.push (kdv_tup us)).push (excO C hp.objs.size)).objs.size ≠ hp.objs.size + 1
        rw [Heap.size_push, Heap.size_push]
        omega
      have hn3 : h3.Ns env.locals fun x => List.lookup x ((("self" : Str), Value.ref (hp.objs.size + 1)) :: binds).reverse := by
        obtain ⟨oL, es, ep, hoL, rr⟩ := hns
        exact ⟨oL, es, ep, kk3 _ _ hL hoL, rr⟩
      have nd : (((("self" : Str), Value.ref (hp.objs.size + 1)) :: binds).map (·.1)).Nodup := by
        rw [List.map_cons]
        exact List.nodup_cons.mpr ⟨hnd.2, hnd.1⟩
      have lk : ∀ x : Str, x ≠ "self" → List.lookup x ((("self" : Str), Value.ref (hp.objs.size + 1)) :: binds).reverse = binds.lookup x := fun x hx => by
        rw [lookup_reverse_of_nodup _ nd, lookup_cons, if_neg hx]
      have pne : ∀ p ∈ l, p.2 ≠ ("self" : Str) := fun p hp' e => by
        have q := hin p hp'
        rw [e] at q
        obtain ⟨v, hv⟩ := Option.isSome_iff_exists.mp q
        have : ("self" : Str) ∈ binds.map (·.1) := by
          exact lookup_mem_keys hv
        exact hnd.2 this
      refine wpAt_of_wpAny (sto_run T (env := env) (d := none) rfl I.kind I.slf (by rw [lookup_reverse_of_nodup _ nd, lookup_cons, if_pos rfl]) hS (fun p hp' => ?_) (X.keeps k4) hnx (fun _ z => nomatch z) ⟨_, e3, rfl⟩ hL (fun _ z => nomatch z) hn3 (by have := I.few; simpa using this) fun h4 tk4 d4 I4 k5 _ kn => ?_)
      · obtain ⟨a1, a2, a3⟩ := I.loc p hp'
        exact ⟨a1, by rw [lk _ (pne p hp')]; exact hin p hp', a2, a3⟩
      · refine ⟨rfl, hq h4 tk4 _ d4 ⟨fun b o z => k5 b o (notE b o z) (fun _ y => nomatch y) (k4 b o z), Nat.le_succ _, ?_, fun dx y => ?_⟩⟩
        · have e5 : (l.map fun p => (p.1, (List.lookup p.2 ((("self" : Str), Value.ref (hp.objs.size + 1)) :: binds).reverse).getD Value.none)) = l.map fun p => (p.1, (binds.lookup p.2).getD Value.none) :=
            List.map_congr_left fun p hp' => by rw [lk _ (pne p hp')]
          rw [e5, List.append_nil] at I4
          exact I4
        · have b : hp.objs.size ≤ h3.objs.size := Nat.le_trans (Nat.le_succ _) (Nat.le_of_lt (Heap.lt_size e3))
          exact Nat.le_trans b (kn rfl dx y)
end
end NX

set_option maxRecDepth 100000
set_option maxHeartbeats 4000000
/-! # Raising them, over the layer -/
namespace L2
open PySem PySem.Spec PyProof.Rows

/-- a class of the program's errors: its parameters ps, what it stores (field, parameter) -/
structure Exn (prog : Program) (K : PySem.W.Frag) (mg : Str → Option Value) (x : Str) (C fI : Addr) (ps : List Str) (l : List (Str × Str)) : Prop where
  cls : NX.ClsX K C
  ini : ∃ qual params scope body ar, NX.InitX prog K C fI qual params scope body ar l ∧ (∀ (s' : Shared) (e : Addr) (fd : FuncData) (us : List Value), us.length = ps.length → fd.params = params → fd.scope = scope → fd.defaults = .none → BindsTo s' fd ⟨.ref e :: us, []⟩ (("self", .ref e) :: ps.zip us)) ∧
    ∀ p ∈ ps, scope.names.lookup p = some .local
  loc : ∀ p ∈ l, p.2 ∈ ps
  nod : ps.Nodup ∧ ("self" : Str) ∉ ps
  gC : mg x = some (.ref C)
  sup : mg "super" = none
  any : PySem.W.nsIn K cStatics "thirdparty.any" = some none
  kC : PySem.W.keepIn K (.ref C) = true
  exC : PySem.W.subIn K (.ref C) (.type "BaseException") = some true
  tyC : PySem.W.typeIn K (.ref C) = some (.type "type")

/-- the fields of an error made with vs -/
def fieldsX (ps : List Str) (l : List (Str × Str)) (vs : List V) : List (Str × V) := (l.map fun p => (p.1, ((ps.zip vs).lookup p.2).getD .non)).reverse

theorem look_zip : ∀ {ps : List Str} {vs : List V} {us : List Value} {x : Str}, Vals vs us → RelO ((ps.zip vs).lookup x) ((ps.zip us).lookup x)
  | [], _, _, _, _ => by simp [RelO]
  | _ :: _, [], _, _, .nil => by simp [RelO]
  | p :: ps, v :: vs, _, x, .cons (b := u) r t => by
    rw [List.zip_cons_cons, List.zip_cons_cons]
    by_cases e : x = p
    · subst e
      simpa [List.lookup, RelO] using r
    · have q : (x == p) = false := by simpa using e
      simp only [List.lookup, q]
      exact look_zip t
theorem look_some : ∀ {ps : List Str} {us : List Value} {x : Str}, x ∈ ps → us.length = ps.length → ((ps.zip us).lookup x).isSome = true
  | [], _, _, h, _ => by cases h
  | p :: ps, [], _, _, h => by cases h
  | p :: ps, u :: us, x, h, hl => by
    rw [List.zip_cons_cons, NX.lookup_cons]
    by_cases e : x = p
    · rw [if_pos e]
      rfl
    · rw [if_neg e]
      exact look_some ((List.mem_cons.mp h).resolve_left e) (by simpa using hl)
theorem map_fst_zip : ∀ {ps : List Str} {us : List Value}, us.length = ps.length → (ps.zip us).map (·.1) = ps
  | [], _, _ => rfl
  | p :: ps, [], h => by cases h
  | p :: ps, u :: us, h => by
    rw [List.zip_cons_cons, List.map_cons, map_fst_zip (by simpa using h)]
theorem relO_fields {ps : List Str} {vs : List V} {us : List Value} (r : Vals vs us) (hl : us.length = ps.length) : ∀ {l : List (Str × Str)}, (∀ p ∈ l, p.2 ∈ ps) → ∀ f, RelO ((fieldsX ps l vs).lookup f) (((l.map fun p => (p.1, ((ps.zip us).lookup p.2).getD Value.none)).reverse).lookup f) := by
  intro l hp f
  have key : ∀ {l : List (Str × Str)}, (∀ p ∈ l, p.2 ∈ ps) → RelO ((l.map fun p => (p.1, ((ps.zip vs).lookup p.2).getD V.non)).lookup f) ((l.map fun p => (p.1, ((ps.zip us).lookup p.2).getD Value.none)).lookup f) := by
    intro l
    induction l with
    | nil => intro _; simp [RelO]
    | cons p r' ih =>
      intro hp
      rw [List.map_cons, List.map_cons]
      by_cases e : f = p.1
      · have q : (f == p.1) = true := by simpa using e
        simp only [List.lookup, q]
        have z := look_zip (ps := ps) (x := p.2) r
        obtain ⟨u, hu⟩ := Option.isSome_iff_exists.mp (look_some (us := us) (hp p (List.mem_cons_self ..)) hl)
        rw [hu] at z ⊢
        cases y : List.lookup p.2 (ps.zip vs) with
        | none => rw [y] at z; exact z.elim
        | some v => rw [y] at z; exact z
      · have q : (f == p.1) = false := by simpa using e
        simp only [List.lookup, q]
        exact ih fun p' h' => hp p' (List.mem_cons_of_mem _ h')
  unfold fieldsX
  rw [← List.map_reverse, ← List.map_reverse]
  exact key fun p h => hp p (List.mem_reverse.mp h)

/-- X(e, ..) -/
def tMkX (C : Addr) (ps : List Str) (l : List (Str × Str)) (ta : TA) : St → Hp → XK → Prop := fun σ H Q => ta σ H fun vs H1 => vs.length = ps.length ∧ ∀ d, H1 d = none → Q (.ref C) (some d) (upd H1 d (.xd (fieldsX ps l vs)))
section
variable {X : Cx} {C fI : Addr} {x : Str} {ps : List Str} {l : List (Str × Str)}
theorem mk_made (T : Exn X.prog X.K X.mg x C fI ps l) (hl0 : l ≠ []) {k : Nat} (hr : Room k X.A) {pins : List (Addr × Obj)} {σ : St} {H1 : Hp} {Q : XK} {s1 : Shared} {vs : List V} {us : List Value} (I1 : Inv X pins σ H1 s1) (r1 : Vals vs us) (hlen : vs.length = ps.length) (hps : ps.length ≤ 900)
    (q1 : ∀ d, H1 d = none → Q (.ref C) (some d) (upd H1 d (.xd (fieldsX ps l vs)))) : wpAny (model X.prog X.w) X.A (call (.ref C) us) (MkP X pins σ Q) X.xe s1 := by
  obtain ⟨qual, params, scope, body, ar, hI, hb, hloc⟩ := T.ini
  have hus : us.length = ps.length := by rw [← r1.length]; exact hlen
  obtain ⟨hG, mb, hB, hbb⟩ : s1.heap.Ns mainGlobals X.mg ∧ ∃ mb : Str → Option Value, s1.heap.Ns builtinsNs mb ∧ ∀ x : Str, x ≠ "__name__" → mb x = bootBuiltins x := by
    obtain ⟨_, h1, ⟨mb, h2, h3⟩, _⟩ := I1.mod
    exact ⟨h1.keeps I1.bk, mb, h2.keeps I1.bk, h3⟩
  refine wpAny_call (NX.exn_made (binds := ps.zip us) T.cls hI I1.kIn I1.nolimit hG hB T.sup ((hbb _ (by decide)).trans (by decide +kernel)) T.any (by have := hr.dp; omega) (by rw [hus]; exact Nat.le_trans hps (by decide)) (fun s' e fd h1 h2 h3 => hb s' e fd us hus h1 h2 h3)
    (fun p hp => look_some (T.loc p hp) hus) (fun y hy => hloc _ (by rw [← map_fst_zip hus]; exact List.mem_map_of_mem hy)) (by rw [map_fst_zip hus]; exact T.nod) fun h' tk' e d M => ?_)
  obtain ⟨hp, g, dr, tk, os⟩ := s1
  obtain ⟨t0, hoe, hdd⟩ := M.obj
  cases d with
  | none => exact absurd (by simpa using hdd) hl0
  | some d =>
    obtain ⟨dne, m, hns, hm⟩ := hdd
    show MkP X pins σ Q (.ref e) ⟨h', g, dr, tk', os⟩
    obtain ⟨G', g1, g2⟩ := restrict h' fun b => decide (b ≠ e)
    have gk : ∀ b, b ≠ e → G'.get? b = h'.get? b := fun b hb => g1 b (decide_eq_true hb)
    have ge : G'.get? e = none := g2 e (by simp)
    have old : ∀ b o, hp.get? b = some o → G'.get? b = some o := fun b o q => (gk b (Nat.ne_of_lt (Nat.lt_of_lt_of_le (Heap.lt_size q) M.new))).trans (M.keep b o q)
    have dbig : hp.objs.size ≤ d := M.dct d rfl
    have ob : ObjOk X.prog X.w (upd H1 d (.xd (fieldsX ps l vs))) G' d (.xd (fieldsX ps l vs)) :=
      ⟨m, hns.at (fun o q => (gk d dne).trans q), fun f => by rw [hm f]; exact relO_fields r1 hus T.loc f⟩
    have J : Inv X pins σ (upd H1 d (.xd (fieldsX ps l vs))) ⟨G', g, dr, tk', os⟩ := I1.laid (t' := tk') old dbig ob
    refine ⟨e, _, _, ⟨G', g, dr, tk', os⟩, _, .ref C, some d, rfl, J, fun b o q => ?_, ge, hoe, ⟨rfl, rfl⟩, rfl, rfl, ?_, rfl, I1.bare, raises_own T.exC T.tyC, q1 d (I1.hok.fresh dbig)⟩
    · by_cases hb : b = e
      · have q' : G'.get? b = some o := q
        rw [hb, ge] at q'; cases q'
      · exact (gk b hb).symm.trans q
    · rw [upd_ne (Ne.symm dne)]
      exact I1.hok.fresh M.new
variable {e : Expr} {es : List Expr} {ta : TA} {p pos pos2 : Pos} {W : WX} {k : Nat}
theorem pmk_x (T : Exn X.prog X.K X.mg x C fI ps l) (hl0 : l ≠ []) (hps : ps.length ≤ 900) (hr : Room k X.A) (hg : Gl X x) (ha : PA X (e :: es) ta) (hdb : (x == ("__debug__" : Str)) = false := by decide)
    (he : starEach (e :: es) X.env = (false, eval e X.env) :: starEach es X.env := by rfl) (hpl : (backTo pos (starEach es X.env)).any (·.1) = false := by rfl) :
    PMk X (.Call (.Name x p) (e :: es) [] pos) (tMkX C ps l ta) := by
  intro pins s σ H Q I h
  refine wpAny_Call_Name_kw (ld_glob I hg T.gC ?_ hdb)
  refine PySem.W.callWith_K (h₀ := X.base) I.ok.mod.kin T.kC (thn (ha.run pos pins s σ H _ I h) fun us s1 hh => ?_) he hpl
  obtain ⟨vs, H1, I1, r1, hlen, q1⟩ := hh
  exact ⟨I1.kIn, mk_made T hl0 hr I1 r1 hlen hps q1⟩
/-- raise X(e, ..) -/
def tRaiseX (C : Addr) (ps : List Str) (l : List (Str × Str)) (W : WX) (ta : TA) : TS := fun _ σ H => tMkX C ps l ta σ H fun cls d H' => W cls d σ H'
theorem ps_raiseX (hc : X.calm = true) (T : Exn X.prog X.K X.mg x C fI ps l) (hl0 : l ≠ []) (hps : ps.length ≤ 900) (hr : Room k X.A) (tk : Takes X W) (hg : Gl X x) (ha : PA X (e :: es) ta) (hdb : (x == ("__debug__" : Str)) = false := by decide)
    (he : starEach (e :: es) X.env = (false, eval e X.env) :: starEach es X.env := by rfl) (hpl : (backTo pos (starEach es X.env)).any (·.1) = false := by rfl) :
    PS X (.Raise (some (.Call (.Name x p) (e :: es) [] pos)) none pos2) (tRaiseX C ps l W ta) := ps_raise hc tk (pmk_x T hl0 hps hr hg ha hdb he hpl)
end
end L2

set_option maxRecDepth 100000
set_option maxHeartbeats 4000000
/-! # Further rules over the layer -/
namespace L2
open PySem PySem.Spec PyProof.Rows
/-- x is True, x is False -/
def rIsTF : R2 := fun x y H Q => ∃ b : Bool, y = .bl b ∧ Q (.bl (decide (x = .bl b))) H
theorem op_isTF {X : Cx} : OpR X (compareOp .Is) rIsTF := by
  intro pins s σ H x y v u Q I rx ry h
  obtain ⟨b, rfl, q⟩ := h
  cases ry
  cases x with
  | non => cases rx; exact wpAny_pure (fin_bl I q (by simp))
  | bl c => cases rx; exact wpAny_pure (fin_bl I q (by cases b <;> cases c <;> rfl))
  | int i => obtain ⟨t, rfl⟩ := rx; exact wpAny_pure (fin_bl I q (by simp))
  | str i => obtain ⟨t, rfl⟩ := rx; exact wpAny_pure (fin_bl I q (by simp))
  | byt i => obtain ⟨t, rfl⟩ := rx; exact wpAny_pure (fin_bl I q (by simp))
  | flt i => obtain ⟨t, rfl⟩ := rx; exact wpAny_pure (fin_bl I q (by simp))
  | ref a => cases rx; exact wpAny_pure (fin_bl I q (by simp))
  | ty n => cases rx; exact wpAny_pure (fin_bl I q (by simp))

/-! ### operators that an own class defines -/
/-- what a class says of its own method for the operator op (forward) -/
structure OwnOp (K : PySem.W.Frag) (C : Addr) (op : Operator) (f : Addr) : Prop where
  first : PySem.W.selfFirst K C = true
  at_ : PySem.W.findIn K (.ref C) (PySem.dunder op.info.2) = some (some (.ref f))
  fn : PySem.W.isFn K (.ref f) = true
/-- .. against a value of the built-in class T -/
structure OwnOpT (K : PySem.W.Frag) (C : Addr) (op : Operator) (f : Addr) (T : String) : Prop extends OwnOp K C op f where
  rev : ∃ rc, PySem.W.findIn K (.ref C) (dunderR op.info.2) = some rc ∧ (rc = none ∨ ∃ g : Addr, rc = some (.ref g))
  tf : ∃ fo, PySem.W.findIn K (.type T) (PySem.dunder op.info.2) = some fo
  tr : ∃ ro, PySem.W.findIn K (.type T) (dunderR op.info.2) = some ro
  sub : PySem.W.subIn K (.type T) (.ref C) = some false
theorem inst_of {P : Program} {w : World} {H : Hp} {h : Heap} {a C dx : Addr} {fs : List (Str × V)} (hok : HOk P w H h) (ha : H a = some (.ins C dx fs)) : ∃ od, PySem.W.InstAt h a (PySem.W.instObj C dx) C (some od) := by
  obtain ⟨mA, J, _⟩ := ins_get hok ha
  obtain ⟨od, J, _⟩ := J.look
  exact ⟨od, J⟩
theorem back_of {X : Cx} {pins : List (Addr × Obj)} {σ : St} {Q : VK} {v : Value} {s' : Shared} (h : EP X pins σ Q v s') : PySem.W.CmpBack (fun v s' => EP X pins σ Q v s') v s' := by
  obtain ⟨x, H, I, r, q⟩ := id h
  cases v <;> first
    | exact h
    | (cases x <;> first | (obtain ⟨t, z⟩ := r; cases z; done) | (cases r; done))
/-- a op b, b of the same class -/
def rOwnOp (C : Addr) (sp : Sp) (E : XK) : R2 := fun x y H Q => ∃ a dx fs b dy gs, x = .ref a ∧ y = .ref b ∧ H a = some (.ins C dx fs) ∧ H b = some (.ins C dy gs) ∧ sp [.ref a, .ref b] H Q E
theorem op_own {X : Cx} {CX : CXT} {op : Operator} {C f : Addr} {fd : FuncData} {ps : List Str} {sp : Sp} {E : XK} {k : Nat} (O : OwnOp X.K C op f) (F : FnOk X.prog X.w X.K X.mg X.base CX k f fd ps sp) (hb : Binds X.K fd ps []) (hr : Room k X.A) (hx : Passes CX X E) :
    OpR X (binaryOp op) (rOwnOp C sp E) := by
  intro pins s σ H x y v u Q I rx ry h
  obtain ⟨a, dx, fs, b, dy, gs, rfl, rfl, ha, hb', hsp⟩ := h
  cases rx
  cases ry
  obtain ⟨od, J⟩ := inst_of I.hok ha
  obtain ⟨od', J'⟩ := inst_of I.hok hb'
  obtain ⟨m, hF⟩ := I.fr
  refine PySem.W.binop_K hF I.ok.mod.kin J J'.type O.first O.at_ O.fn (wpAny_mono (run_fn F hr hb .nil hx I (us := [.ref a, .ref b]) (vs := [.ref a, .ref b]) (.cons rfl (.cons rfl .nil)) hsp) (fun r s' q => back_of q) fun _ _ z => z)
/-- a op n, n a number -/
def rOwnOpI (C : Addr) (sp : Sp) (E : XK) : R2 := fun x y H Q => ∃ a dx fs n, x = .ref a ∧ y = .int n ∧ H a = some (.ins C dx fs) ∧ sp [.ref a, .int n] H Q E
theorem op_ownI {X : Cx} {CX : CXT} {op : Operator} {C f : Addr} {fd : FuncData} {ps : List Str} {sp : Sp} {E : XK} {k : Nat} (O : OwnOpT X.K C op f "int") (F : FnOk X.prog X.w X.K X.mg X.base CX k f fd ps sp) (hb : Binds X.K fd ps []) (hr : Room k X.A) (hx : Passes CX X E) :
    OpR X (binaryOp op) (rOwnOpI C sp E) := by
  intro pins s σ H x y v u Q I rx ry h
  obtain ⟨a, dx, fs, n, rfl, rfl, ha, hsp⟩ := h
  cases rx
  obtain ⟨t, rfl⟩ := ry
  obtain ⟨od, J⟩ := inst_of I.hok ha
  obtain ⟨m, hF⟩ := I.fr
  obtain ⟨rc, h1, h2⟩ := O.rev
  obtain ⟨fo, h3⟩ := O.tf
  obtain ⟨ro, h4⟩ := O.tr
  refine PySem.W.ksp_binT (T := "int") hF I.ok.mod.kin J rfl O.first O.at_ O.fn h1 h2 h3 h4 O.sub (wpAny_mono (run_fn F hr hb .nil hx I (us := [.ref a, .int n t]) (vs := [.ref a, .int n]) (.cons rfl (.cons ⟨t, rfl⟩ .nil)) hsp) (fun r s' q => back_of q) fun _ _ z => z)

/-- -a -/
def rOwnNeg (C : Addr) (sp : Sp) (E : XK) : V → Hp → VK → Prop := fun x H Q => ∃ a dx fs, x = .ref a ∧ H a = some (.ins C dx fs) ∧ sp [.ref a] H Q E
theorem un_own {X : Cx} {CX : CXT} {C f : Addr} {fd : FuncData} {ps : List Str} {sp : Sp} {E : XK} {k : Nat} (hs : PySem.W.findIn X.K (.ref C) "__neg__" = some (some (.ref f))) (hf : PySem.W.isFn X.K (.ref f) = true) (F : FnOk X.prog X.w X.K X.mg X.base CX k f fd ps sp) (hb : Binds X.K fd ps []) (hr : Room k X.A) (hx : Passes CX X E) :
    UnR X (unaryOp .USub) (rOwnNeg C sp E) := by
  intro pins s σ H x v Q I rx h
  obtain ⟨a, dx, fs, rfl, ha, hsp⟩ := h
  cases rx
  obtain ⟨od, J⟩ := inst_of I.hok ha
  obtain ⟨m, hF⟩ := I.fr
  exact PySem.W.ksp_neg hF I.ok.mod.kin J hs hf (run_fn F hr hb .nil hx I (us := [.ref a]) (vs := [.ref a]) (.cons rfl .nil) hsp)
end L2

set_option maxRecDepth 100000
set_option maxHeartbeats 4000000
/-! # enumerate(x), x a list or a tuple -/
namespace EN
open PySem PySem.Builtin
set_option maxHeartbeats 1000000 in
theorem meets1 {v : Value} {o : Obj} {H : Heap → Prop} (B : Begins v o H) :
    Meets (Builtin.«enumerate.__new__» ⟨[.type "enumerate", v], []⟩) (fun _ R s => H s.heap ∧
      R (.ok (.ret (.ref (s.heap.push o).objs.size))) { s with heap := (s.heap.push o).push { cls := .type "enumerate", data := .fields #[.none, .bool false, .ref s.heap.objs.size, rawInt 0, .none, .none] } }) :=
  .of_wp fun prog w A R s h => by
    obtain ⟨hp, g, d, tk, os⟩ := s; obtain ⟨h1, h⟩ := h
    have hsub := sub_enumerate
    have q1 : ∀ {A' : Around} {E : Value → Shared → Prop} {Q : Value → Shared → Prop}, Q (.ref hp.objs.size) ⟨hp.push o, g, d, tk, os⟩ → wpAny (model prog w) A' (pyIter v) Q E ⟨hp, g, d, tk, os⟩ :=
      fun q => B.iter prog w _ _ ⟨hp, g, d, tk, os⟩ _ h1 q
    wp_walk using q1
    refine wpAny_stack_any fun st => wpAny_pure ?_
    split
    · rename_i c _ _ _ _ _
      cases (c == Value.type "enumerate")
      · wp_walk using q1
        exact ⟨_, rfl, h⟩
      · wp_walk using q1
        exact ⟨_, rfl, h⟩
    · wp_walk using q1
      exact ⟨_, rfl, h⟩
section
variable {prog : Program} {w : World} {A : Around} {E : Value → Shared → Prop} {s : Shared}
theorem begins1 {v : Value} {o : Obj} {H : Heap → Prop} {Q : Value → Shared → Prop} (B : Begins v o H) (h1 : H s.heap)
    (h : ∀ h', IsEnum h' (s.heap.objs.size + 1) s.heap.objs.size 0 .none → h'.get? s.heap.objs.size = some o → h'.objs.size = s.heap.objs.size + 2 →
      (∀ b o, s.heap.get? b = some o → h'.get? b = some o) → Q (.ref (s.heap.objs.size + 1)) { s with heap := h' })
    (ht : checkTypeCall "enumerate" ⟨[v], []⟩ = pure ()) (hn : checkBuiltinCall "enumerate.__new__" ⟨[.type "enumerate", v], []⟩ = pure ()) (ha : ∀ obj, argsOk "object.__init__" ⟨[obj, v], []⟩) :
    wpAny (model prog w) A (call (.type "enumerate") [v]) Q E s := by
  refine callType_new F.called_enumerate (by decide) ht hn ha F.entry_enumerate_new (meets1 B) ⟨h1, ?_⟩
  have hz : (s.heap.push o).objs.size = s.heap.objs.size + 1 := Heap.size_push ..
  show _ ∧ _
  rw [hz]
  have he : IsEnum ((s.heap.push o).push { cls := .type "enumerate", data := .fields #[.none, .bool false, .ref s.heap.objs.size, rawInt 0, .none, .none] }) (s.heap.objs.size + 1) s.heap.objs.size 0 .none := by
    have := Heap.get?_push_size (s.heap.push o) (o := { cls := .type "enumerate", data := .fields #[.none, .bool false, .ref s.heap.objs.size, rawInt 0, .none, .none] }) rfl
    rw [hz] at this; exact this
  refine ⟨⟨_, he, rfl⟩, h _ he (Heap.get?_push_of_some _ (Heap.get?_push_size _ B.free)) (by rw [Heap.size_push, hz]) fun b o x => Heap.get?_push_of_some _ (Heap.get?_push_of_some _ x)⟩
end
end EN

namespace L2
open PySem PySem.Spec PyProof.Rows
/-- enumerate over the tuple at a, from k on -/
def IteT (K : PySem.W.Frag) (k : Int) (a : Addr) : It :=
  ⟨fun i H => ∃ (xs : List V) (x : V), SqT K H a xs ∧ xs[i]? = some x, fun i H v H' => ∃ T x, v = .ref T ∧ H T = none ∧ H' = upd H T (.tup [.int (k + (i : Int)), x]) ∧ ∀ xs, SqT K H a xs → xs[i]? = some x, fun i H => ∃ xs : List V, SqT K H a xs ∧ xs.length = i⟩
theorem turn_enumT {P : Program} {w : World} {K : PySem.W.Frag} {elts : List Expr} {kk : Nat} {tpos : Pos} (k : Int) (a e it : Addr) (hei : e ≠ it) :
    Turn P w K (.Tuple elts kk tpos) (IteT K k a) [e, it] e (fun i h => (∃ old, IsEnum h e it (k + ((i : Nat) : Int)) old) ∧ h.IsTupleIter it a i) where
  mem := by simp
  obj := fun i h st b hb => by
    obtain ⟨⟨old, he⟩, ⟨o, ho, hc, hd⟩⟩ := st
    have e' : b = e ∨ b = it := by simpa using hb
    rcases e' with z | z
    · rw [z]; exact ⟨_, he, fun v q => nomatch q⟩
    · rw [z]; exact ⟨o, ho, fun v q => by rw [hd] at q; cases q⟩
  keep := fun i h h' st k => let ⟨⟨old, he⟩, hi⟩ := st; ⟨⟨old, k e (by simp) _ he⟩, hi.at fun o q => k it (by simp) o q⟩
  item := by
    intro X hP hw hK hc i pins s σ H E I hf st hg
    subst hP hw hK
    obtain ⟨⟨old, he⟩, hit⟩ := st
    obtain ⟨xs, x, hq, hx⟩ := hg
    obtain ⟨its, rv, p, hz⟩ := I.tuple hq
    obtain ⟨u, hu, ru⟩ := rv.get hx
    have hel : e < s.heap.objs.size := Heap.lt_size he
    have hil : it < s.heap.objs.size := by obtain ⟨_, q, _⟩ := hit; exact Heap.lt_size q
    have hae : e ≠ a := fun z => by
      obtain ⟨o, ho, hcls, _⟩ := p
      rw [← z, he] at ho
      cases ho
      exact absurd (show Value.type "enumerate" = Value.type "tuple" from hcls) (by decide)
    have hai : a ≠ it := fun z => by
      obtain ⟨o, ho, hcls, _⟩ := p
      obtain ⟨o2, ho2, hc2, _⟩ := hit
      rw [z, ho2] at ho
      cases ho
      rw [hc2] at hcls
      exact absurd hcls (by decide)
    have W := GoesN.enumFrom (prog := X.prog) (w := X.w) (A := X.A) (elts := elts) (x1 := kk) (pos := tpos) k (Draws.tuple (prog := X.prog) (w := X.w) (A := X.A.in1) (I.ok.hd hc) it a hai its.toArray) e hei (by simp [hei, hae]) (by simp)
    have hi : i < its.toArray.size := by
      have := (List.getElem?_eq_some_iff.mp hu).1
      simpa using this
    refine wpAny_mono (W.goes i s _ E hi ⟨⟨old, he⟩, hit, p⟩ fun v h' tk hY st' hk htk => ?_) (fun r s1 hr => hr) fun _ _ z => z
    obtain ⟨T, t, y, rfl, hT, hPy, hTup⟩ := hY
    have ey : y = u := by
      have hu' : its.toArray[i]? = some u := by simpa using hu
      rw [hu'] at hPy
      exact (Option.some.inj hPy).symm
    subst ey
    obtain ⟨⟨old2, he2⟩, hit2, _⟩ := st'
    have new : ObjOk X.prog X.w (upd H T (.tup [.int (k + (i : Int)), x])) h' T (.tup [.int (k + (i : Int)), x]) :=
      ⟨by show 2 ≤ sizeLine; decide, [.int (k + (i : Int)) t, y], .cons ⟨_, rfl⟩ (.cons ru .nil), hTup⟩
    have I1 : Inv X pins σ (upd H T (.tup [.int (k + (i : Int)), x])) { s with heap := h', toks := tk } :=
      I.turnedNew (ch := [e, it]) (fun b ob hb q => hk b ob hb q) hf hT new
    refine ⟨.ref T, _, I1, rfl, ⟨_, x, rfl, I.hok.fresh hT, rfl, fun ys hy => by rw [I.tuple_inj hy hq]; exact hx⟩, ⟨⟨old2, he2⟩, hit2⟩, fun b hb => ?_⟩
    have hb' : b < s.heap.objs.size := by
      have e' : b = e ∨ b = it := by simpa using hb
      rcases e' with z | z
      · rw [z]; exact hel
      · rw [z]; exact hil
    rw [upd_ne (Nat.ne_of_lt (Nat.lt_of_lt_of_le hb' hT))]
    exact (hf b hb).1
  done := by
    intro X hP hw hK hc i pins s σ H E I hf st hg
    subst hP hw hK
    obtain ⟨⟨old, he⟩, hit⟩ := st
    obtain ⟨xs, hq, hx⟩ := hg
    obtain ⟨its, rv, p, hz⟩ := I.tuple hq
    have hai : a ≠ it := fun z => by
      obtain ⟨o, ho, hcls, _⟩ := p
      obtain ⟨o2, ho2, hc2, _⟩ := hit
      rw [z, ho2] at ho
      cases ho
      rw [hc2] at hcls
      exact absurd hcls (by decide)
    have hae : e ≠ a := fun z => by
      obtain ⟨o, ho, hcls, _⟩ := p
      rw [← z, he] at ho
      cases ho
      exact absurd (show Value.type "enumerate" = Value.type "tuple" from hcls) (by decide)
    have W := GoesN.enumFrom (prog := X.prog) (w := X.w) (A := X.A) (elts := elts) (x1 := kk) (pos := tpos) k (Draws.tuple (prog := X.prog) (w := X.w) (A := X.A.in1) (I.ok.hd hc) it a hai its.toArray) e hei (by simp [hei, hae]) (by simp)
    have hl := rv.length
    have hn : its.toArray.size = i := by
      rw [List.size_toArray, ← hl, hx]
    refine wpAny_mono (W.stops s (fun s1 => Inv X pins σ H s1) E (by rw [hn]; exact ⟨⟨old, he⟩, hit, p⟩) fun h' tk hk htk => I.turnedL (t' := tk) (ch := [e, it]) (fun b o hb q => hk b o hb q) hf) (fun r s1 hr => hr) fun _ _ z => z
  self := fun A i s Q E st h => let ⟨⟨_, he⟩, _⟩ := st; wpAny_pyIter_enum he h

theorem walk_enumT {K : PySem.W.Frag} {k : Int} {a : Addr} {xs : List V} : Walk (IteT K k a) xs.length (fun H => SqT K H a xs) (YPair (fun i => some (.int (k + (i : Nat)))) (fun i => xs[i]?)) where
  goes := fun i H hi h => ⟨xs, xs[i], h, List.getElem?_eq_getElem hi⟩
  stops := fun H h => ⟨xs, h, rfl⟩
  yields := fun i H v H' hi h y => by
    obtain ⟨T, x, rfl, hT, rfl, hx⟩ := y
    exact ⟨T, .int (k + (i : Nat)), x, rfl, hT, rfl, rfl, hx xs h⟩
/-- enumerate(x), x a list or a tuple -/
def iEnumA (K : PySem.W.Frag) (ta : TA) : TI := fun σ H R => ta σ H fun vs H1 => ∃ a xs, vs = [.ref a] ∧ ((SqL K H1 a xs ∧ R (Ite K a) H1) ∨ (SqT K H1 a xs ∧ R (IteT K 0 a) H1))
theorem pi_enumA {X : Cx} {e : Expr} {ta : TA} {p pos tpos : Pos} {elts : List Expr} {kk : Nat} (hg : Gl X "enumerate") (hm : X.mg "enumerate" = none) (ha : PA X [e] ta) (hs : starEach [e] X.env = [(false, eval e X.env)] := by rfl) :
    PI X (.Tuple elts kk tpos) (.Call (.Name "enumerate" p) [e] [] pos) (iEnumA X.K ta) := by
  refine ⟨fun pins s σ H R I h => ?_⟩
  refine Call_ (ld_blt I hg hm boot_enumerate (PyProof.Rows.callWith_type1 (thn (ha.run pos pins s σ H _ I h) fun us s1 ⟨vs, H1, I1, r1, q1⟩ => ?_) hs rfl))
  obtain ⟨a, xs, ex, q1⟩ := q1
  subst ex
  cases r1 with
  | cons r rr =>
    cases rr
    cases r
    have fresh2 : ∀ b, b ∈ [s1.heap.objs.size + 1, s1.heap.objs.size] → FpOk X pins H1 b := fun b hb => by
      have e' : b = s1.heap.objs.size + 1 ∨ b = s1.heap.objs.size := by simpa using hb
      have hle : s1.heap.objs.size ≤ b := by
        rcases e' with z | z
        · rw [z]; exact Nat.le_add_right _ _
        · rw [z]; exact Nat.le_refl _
      exact I1.fpOk hle (I1.hok.fresh hle)
    rcases q1 with ⟨hq, q⟩ | ⟨hq, q⟩
    · obtain ⟨its, rv, p', hz⟩ := I1.list hq
      refine call_enumerate_list p'.isList fun h' he hit hsz hk => wpAny_pyIter_enum he ?_
      have I2 : Inv X pins σ H1 { s1 with heap := h' } := I1.kept (t' := s1.toks) hk
      exact ⟨s1.heap.objs.size + 1, [s1.heap.objs.size + 1, s1.heap.objs.size], _, _, H1, rfl, I2, turn_enum a (s1.heap.objs.size + 1) s1.heap.objs.size, ⟨⟨.none, he⟩, hit, Nat.succ_ne_self _⟩, fresh2, q⟩
    · obtain ⟨its, rv, p', hz⟩ := I1.tuple hq
      refine EN.begins1 (begins_tuple a its.toArray) p' (fun h' he hit hsz hk => wpAny_pyIter_enum he ?_) (F.typeCall_enumerate_1 _) (F.newCall_enumerate_1 _) (fun obj => F.args_object_init_2 obj _)
      have I2 : Inv X pins σ H1 { s1 with heap := h' } := I1.kept (t' := s1.toks) hk
      exact ⟨s1.heap.objs.size + 1, [s1.heap.objs.size + 1, s1.heap.objs.size], _, _, H1, rfl, I2, turn_enumT 0 a (s1.heap.objs.size + 1) s1.heap.objs.size (Nat.succ_ne_self _), ⟨⟨.none, he⟩, ⟨_, hit, rfl, rfl⟩⟩, fresh2, q⟩
end L2

set_option maxRecDepth 100000
set_option maxHeartbeats 4000000
/-! # for x in an instance whose __iter__ says: return iter(self.field), the field a tuple -/
namespace L2
open PySem PySem.Spec PyProof.Rows PySem.W
structure OwnIt (K : Frag) (mg : Str → Option Value) (C f : Addr) (fld : Str) : Prop where
  cls : Cls K C
  noA : NoAttr K C fld
  at_ : findIn K (.ref C) "__iter__" = some (some (.ref f))
  fn : isFn K (.ref f) = true
  free : mg "iter" = none
  txt : ∃ qual params scope p1 p2 p3 p4 p5, (∃ (oc : Value) (od : Option Addr) (kV doc pm : Value) (an : Option Addr) (cdv ct : Value) (osl : Array (Option Value)),
      K.lookup f = some ⟨oc, od, .func (fnOf "__iter__" qual params [.Return (some (.Call (.Name "iter" p1) [.Attribute (.Name "self" p2) fld p3] [] p4)) p5] scope .none kV doc pm an cdv ct), osl⟩ ∧ codeIn K cdv qual = true) ∧
    scope.names.lookup ("self" : Str) = some .local ∧ scope.names.lookup ("iter" : Str) = some .globalImplicit ∧ (∀ x ∈ scope.names, x.2 ≠ .cell) ∧ scope.kind = .function ∧ scope.isCoroutine = false ∧ scope.isGenerator = false ∧
    (∀ (s : Shared) (fd : FuncData) (v : Value), fd.params = params → fd.scope = scope → fd.defaults = .none → BindsTo s fd ⟨[v], []⟩ [("self", v)]) ∧
    ∀ env : Env, env.scope = scope → attributeBase (.Name "self" p2) fld env (eval (.Name "self" p2) env) = eval (.Name "self" p2) env
abbrev tupIt (t : Addr) : Obj := { cls := .type "tuple_iterator", data := .fields #[.ref t, .int 0 0] }
theorem call_iter_tup {prog : Program} {w : World} {A : Around} {E : Value → Shared → Prop} {s : Shared} {t : Addr} {items : Array Value} {Q : Value → Shared → Prop} (ht : s.heap.IsTuple t items) (h : Q (.ref s.heap.objs.size) { s with heap := s.heap.push (tupIt t) }) :
    wpAny (model prog w) A (call (.builtin "iter") [.ref t]) Q E s := by
  refine Calls.call_function_entry (by decide +kernel) (by decide +kernel) kdk_entry_iter (kdk_args_iter _) ?_
  unfold Builtin.«iter»
  refine wpAny_bind (m := someArgs "iter" 1 2 _) (wpAny_of_eq (a := [Value.ref t]) (by first | rfl | kernel_rfl!) ?_)
  show wpAny _ _ (pyIter (.ref t) >>= _) _ _ _
  refine wpAny_bind (wpAny_pyIter_tuple ht ?_)
  exact wpAny_pure ⟨_, rfl, h⟩
section
variable {X : Cx} {pins : List (Addr × Obj)} {σ : St} {H : Hp} {s : Shared} {a C dx f t : Addr} {fs : List (Str × V)} {fld : Str} {xs : List V} {k : Nat}
theorem own_iter (O : OwnIt X.K X.mg C f fld) (hr : Room k X.A) (I : Inv X pins σ H s) (ha : H a = some (.ins C dx fs)) (hv : fs.lookup fld = some (.ref t)) (hT : SqT X.K H t xs) {Q : Value → Shared → Prop}
    (hq : ∀ h' tk it, (∀ b o, s.heap.get? b = some o → h'.get? b = some o) → s.heap.objs.size ≤ it → h'.get? it = some (tupIt t) → Q (.ref it) { s with heap := h', toks := tk }) :
    wpAny (model X.prog X.w) X.A (pyIter (.ref a)) Q X.xe s := by
  obtain ⟨qual, params, scope, p1, p2, p3, p4, p5, ⟨oc, od, kV, doc, pm, an, cdv, ct, osl, hfn, hcd⟩, sc1, sc2, sc3, sc4, sc5, sc6, hb, hbase⟩ := O.txt
  obtain ⟨mA, J0, rel, _⟩ := ins_get I.hok ha
  obtain ⟨oda, J, _⟩ := J0.look
  obtain ⟨m, hF⟩ := I.fr
  obtain ⟨its, rv, hTup, _⟩ := I.tuple hT
  obtain ⟨u, hu, ru⟩ := RelO.some_of (v := V.ref t) (o := mA fld) (by rw [← hv]; exact rel fld)
  cases ru
  have hG : s.heap.Ns mainGlobals X.mg := I.mod.glob.keeps I.bk
  obtain ⟨mb, hB, hbb⟩ := I.mod.blt
  have X0 := I.kIn
  have hlim := I.nolimit
  obtain ⟨hp, g, dr, tk, os⟩ := s
  refine owit_iter hF I.ok.mod.kin J O.at_ O.fn (wpAny_call ?_)
  refine ks_codeAny_call_defAt (binds := [("self", .ref a)]) (by have := hr.dp; omega) (X0 _ _ hfn) rfl hlim (codeRec_of X0 hcd) rfl (hb _ _ _ rfl rfl rfl) sc3 (fun y hy => ?_) (fun h₀ hns hk₀ => ?_) sc5 sc6 sc4
  · have e : y = (("self" : Str), Value.ref a) := by simpa using hy
    rw [e]
    exact sc1
  · have X1 : X.K.In h₀ := X0.keeps hk₀
    have J1 : ObjM h₀ a dx C mA := ⟨hk₀ _ _ J0.obj, J0.ns.at fun o q => hk₀ _ o q, J0.ne⟩
    refine wpAt_of_wpAny (wpAny_execs_cons (wpAny_Return_some ?_))
    refine wpAny_Call_Name_kw (Calls.Name_function_global sc4 sc2 (Calls.loadGlobal_builtin (hG.keeps hk₀) O.free ((hB.keeps I.bk).keeps hk₀) ((hbb _ (by decide)).trans (by decide +kernel : bootBuiltins "iter" = some (.builtin "iter"))) ?_) (by decide))
    refine PyProof.Rows.callWith_builtin1 (spliced_more (attr_of (hbase _ rfl) (PySem.ESX.ldL (v := .ref a) hns (by simp [List.lookup]) ?_ sc4 sc1))) (by rfl) (by rfl)
    refine get_map X1 J1 (O.cls.get _) O.cls.hd O.noA hu rfl (spliced_none ?_)
    refine call_iter_tup (show h₀.IsTuple t its.toArray from let ⟨o, h1, h2⟩ := hTup; ⟨o, hk₀ _ o h1, h2⟩) ?_
    have hT1 : (⟨h₀.push (tupIt t), g, dr, tk + 1 + 1, os⟩ : Shared).TypeIs (.ref h₀.objs.size) "tuple_iterator" := ⟨_, Heap.get?_push_at rfl rfl, rfl⟩
    refine wpAny_specialOf (hT1) F.slot_tuple_iterator_next.lookup ?_
    exact hq _ _ _ (fun b o q => Heap.get?_push_of_some _ (hk₀ b o q)) (by
      have := hns.lt
      exact Nat.le_of_lt this) (Heap.get?_push_at rfl rfl)
end
end L2

set_option maxRecDepth 100000
set_option maxHeartbeats 4000000
/-! # Words for lists or tuples, heaps that only grow -/
namespace L2
open PySem PySem.Spec PyProof.Rows
/-- a list or a tuple -/
def SqA (K : PySem.W.Frag) (H : Hp) (a : Addr) (xs : List V) : Prop := SqL K H a xs ∨ SqT K H a xs
theorem Same.seqT {K : PySem.W.Frag} {H H' : Hp} {a : Addr} {xs : List V} (e : Same H H') (h : SqT K H a xs) : SqT K H' a xs := by
  rcases h with (h | ⟨o, h⟩) | h
  · exact .inl (.inl (e _ _ h))
  · exact .inl (.inr ⟨o, e _ _ h⟩)
  · exact .inr h
theorem Same.seqA {K : PySem.W.Frag} {H H' : Hp} {a : Addr} {xs : List V} (e : Same H H') (h : SqA K H a xs) : SqA K H' a xs := h.imp e.seq e.seqT
theorem Same.new {H : Hp} {p : Addr} {o : HO} (h : H p = none) : Same H (upd H p o) := fun b u e => by
  rw [upd_ne (fun z => by rw [z, h] at e; cases e)]
  exact e
theorem Same.new' {H H' : Hp} {p : Addr} {o : HO} (s : Same H H') (h : H' p = none) : Same H (upd H' p o) := s.trans (.new h)
theorem passX {X : Cx} {K : Value → Shared → Prop} {E₁ : Value → Shared → Prop} (hx : X.xe = fun e s' => wpAny (model X.prog X.w) X.A (leaving X.env e) (fun _ s'' => K e s'') E₁ s') : PassesOwn (model X.prog X.w) X.A X.env X.xe := passes_of hx
theorem map_get {α : Type} {f : α → V} {ns : List α} {i : Nat} {y : V} (e : (ns.map f)[i]? = some y) : ∃ n, ns[i]? = some n ∧ y = f n := by
  rw [List.getElem?_map] at e
  cases q : ns[i]? with
  | none => rw [q] at e; cases e
  | some n => rw [q] at e; exact ⟨n, rfl, (Option.some.inj e).symm⟩
theorem enumA_of {K : PySem.W.Frag} {H : Hp} {a : Addr} {xs : List V} {R : It → Hp → Prop} (h : SqA K H a xs) (hR : ∀ (J : It) (G : Hp → Prop), (∀ H', Same H H' → G H') → Walk J xs.length G (YPair (fun i => some (.int (i : Nat))) (fun i => xs[i]?)) → R J H) :
    (SqL K H a xs ∧ R (Ite K a) H) ∨ (SqT K H a xs ∧ R (IteT K 0 a) H) := by
  rcases h with h | h
  · exact .inl ⟨h, hR _ _ (fun _ s => s.seq h) walk_enum⟩
  · exact .inr ⟨h, hR _ _ (fun _ s => s.seqT h) ((walk_enumT (k := 0)).mono (fun _ h => h) fun i H x H' _ _ y => by
      obtain ⟨T', x', y', z⟩ := y
      exact ⟨T', x', y', by simpa using z⟩)⟩
/-- enumerate(x), x a list or a tuple, told by its Walk -/
def iEnumW (K : PySem.W.Frag) (ta : TA) : TI := fun σ H R => ta σ H fun vs H1 => ∃ a xs, vs = [.ref a] ∧ SqA K H1 a xs ∧ ∀ (J : It) (G : Hp → Prop), (∀ H', Same H1 H' → G H') → Walk J xs.length G (YPair (fun i => some (.int (i : Nat))) (fun i => xs[i]?)) → R J H1
theorem pi_enumW {X : Cx} {e : Expr} {ta : TA} {p pos tpos : Pos} {elts : List Expr} {kk : Nat} (hg : Gl X "enumerate") (hm : X.mg "enumerate" = none) (ha : PA X [e] ta) (hs : starEach [e] X.env = [(false, eval e X.env)] := by rfl) :
    PI X (.Tuple elts kk tpos) (.Call (.Name "enumerate" p) [e] [] pos) (iEnumW X.K ta) := by
  refine ⟨fun pins s σ H R I h => ?_⟩
  refine Call_ (ld_blt I hg hm boot_enumerate (PyProof.Rows.callWith_type1 (thn (ha.run pos pins s σ H _ I h) fun us s1 ⟨vs, H1, I1, r1, q1⟩ => ?_) hs rfl))
  obtain ⟨a, xs, ex, q1⟩ := q1
  subst ex
  have q1 := enumA_of q1.1 q1.2
  cases r1 with
  | cons r rr =>
    cases rr
    cases r
    have fresh2 : ∀ b, b ∈ [s1.heap.objs.size + 1, s1.heap.objs.size] → FpOk X pins H1 b := fun b hb => by
      have e' : b = s1.heap.objs.size + 1 ∨ b = s1.heap.objs.size := by simpa using hb
      have hle : s1.heap.objs.size ≤ b := by
        rcases e' with z | z
        · rw [z]; exact Nat.le_add_right _ _
        · rw [z]; exact Nat.le_refl _
      exact I1.fpOk hle (I1.hok.fresh hle)
    rcases q1 with ⟨hq, q⟩ | ⟨hq, q⟩
    · obtain ⟨its, rv, p', hz⟩ := I1.list hq
      refine call_enumerate_list p'.isList fun h' he hit hsz hk => wpAny_pyIter_enum he ?_
      have I2 : Inv X pins σ H1 { s1 with heap := h' } := I1.kept (t' := s1.toks) hk
      exact ⟨s1.heap.objs.size + 1, [s1.heap.objs.size + 1, s1.heap.objs.size], _, _, H1, rfl, I2, turn_enum a (s1.heap.objs.size + 1) s1.heap.objs.size, ⟨⟨.none, he⟩, hit, Nat.succ_ne_self _⟩, fresh2, q⟩
    · obtain ⟨its, rv, p', hz⟩ := I1.tuple hq
      refine EN.begins1 (begins_tuple a its.toArray) p' (fun h' he hit hsz hk => wpAny_pyIter_enum he ?_) (F.typeCall_enumerate_1 _) (F.newCall_enumerate_1 _) (fun obj => F.args_object_init_2 obj _)
      have I2 : Inv X pins σ H1 { s1 with heap := h' } := I1.kept (t' := s1.toks) hk
      exact ⟨s1.heap.objs.size + 1, [s1.heap.objs.size + 1, s1.heap.objs.size], _, _, H1, rfl, I2, turn_enumT 0 a (s1.heap.objs.size + 1) s1.heap.objs.size (Nat.succ_ne_self _), ⟨⟨.none, he⟩, ⟨_, hit, rfl, rfl⟩⟩, fresh2, q⟩
end L2

set_option maxRecDepth 100000
set_option maxHeartbeats 4000000
/-! # Tuples: t * 0, t * 1, t[::-1], sum(t) -/
namespace L2
open PySem PySem.Spec PyProof.Rows
theorem tuple_mulS (l : Addr) (items : Array Value) (n : Nat) (dd : Option Addr) (sl : Array (Option Value)) (x : Int) (u : Tok) (c0 : (decide (x < -(2 ^ 63)) || decide (x ≥ 2 ^ 63)) = false) (c1 : (items.isEmpty || x == 1) = true) :
    Meets (Builtin.«tuple.__mul__» ⟨[.ref l, .int x u], []⟩) (fun _ R s => s.heap.get? l = some { cls := .type "tuple", dict := dd, data := .seq items n, slots := sl } ∧
      R (.ok (.ret (Value.ref l))) s) :=
  .of_wp fun prog w A R s h => by
    obtain ⟨hp, g, d, tk, os⟩ := s
    obtain ⟨hl, h⟩ := h
    have f1 := AutoSeq1.idx_int
    wp_walk using wpAny_loadPart' hl
    repeat (first
      | (refine wpAny_ite_false (decide_eq_false (by rw [c0]; exact Bool.false_ne_true)) ?_; wp_walk using wpAny_loadPart' hl)
      | (refine wpAny_ite_true (decide_eq_true c1) ?_; wp_walk using wpAny_loadPart' hl))
    exact ⟨_, rfl, h⟩
theorem tuple_mul0 (l : Addr) (items : Array Value) (n : Nat) (dd : Option Addr) (sl : Array (Option Value)) (x : Int) (u : Tok) (c0 : (decide (x < -(2 ^ 63)) || decide (x ≥ 2 ^ 63)) = false) (c1 : (items.isEmpty || x == 1) = false) (c2 : (decide (x ≤ 0) || items.isEmpty) = true) :
    Meets (Builtin.«tuple.__mul__» ⟨[.ref l, .int x u], []⟩) (fun _ R s => s.heap.get? l = some { cls := .type "tuple", dict := dd, data := .seq items n, slots := sl } ∧
      R (.ok (.ret (Value.ref s.heap.objs.size))) { s with heap := s.heap.push { cls := Value.type "tuple", data := Data.seq #[] }, toks := s.toks }) :=
  .of_wp fun prog w A R s h => by
    obtain ⟨hp, g, d, tk, os⟩ := s
    obtain ⟨hl, h⟩ := h
    have f1 := AutoSeq1.idx_int
    wp_walk using wpAny_loadPart' hl
    repeat (first
      | (refine wpAny_ite_false (decide_eq_false (by rw [c0]; exact Bool.false_ne_true)) ?_; wp_walk using wpAny_loadPart' hl)
      | (refine wpAny_ite_false (decide_eq_false (by rw [c1]; exact Bool.false_ne_true)) ?_; wp_walk using wpAny_loadPart' hl)
      | (refine wpAny_ite_true (decide_eq_true c2) ?_; wp_walk using wpAny_loadPart' hl))
    exact ⟨_, rfl, h⟩
/-- t * k -/
def rRepW (K : PySem.W.Frag) : R2 := fun x y H Q => ∃ l k xs, x = .ref l ∧ y = .int k ∧ SqT K H l xs ∧ -(2 ^ 62) ≤ k ∧ k ≤ 1000 ∧ xs.length ≤ 1000 ∧ ∀ H' p, Same H H' → SqT K H' p (List.replicate k.toNat xs).flatten → Q (.ref p) H'
theorem rep_one {α : Type} (xs : List α) : (List.replicate (1 : Int).toNat xs).flatten = xs := by simp
theorem rep_nil {α : Type} (k : Nat) : (List.replicate k ([] : List α)).flatten = [] := by simp
section
variable {X : Cx}
theorem op_repW : OpR X (binaryOp .Mult) (rRepW X.K) := by
  intro pins s σ H x y v u Q I rx ry h
  obtain ⟨l, k, xs, rfl, rfl, hT, h1, h2, hz, q⟩ := h
  by_cases h3 : xs ≠ [] ∧ 2 ≤ k
  · exact op_repT pins s σ H _ _ v u Q I rx ry ⟨l, k, xs, rfl, rfl, hT, h3.1, h3.2, h2, hz, fun p hp => q _ p (.new hp) (SqT.of upd_same)⟩
  · cases rx
    obtain ⟨t, rfl⟩ := ry
    obtain ⟨its, r, ⟨⟨cls, dd, data, sl⟩, ho, hc, n, hd⟩, hs⟩ := I.tuple hT
    simp only at hc hd
    subst hc hd
    have hle : its.length = xs.length := r.length.symm
    have c0 : (decide (k < -(2 ^ 63)) || decide (k ≥ 2 ^ 63)) = false := by
      rw [decide_eq_false (by omega), decide_eq_false (by omega)] <;> rfl
    by_cases h4 : xs = [] ∨ k = 1
    · have c1 : (its.toArray.isEmpty || k == 1) = true := by
        rcases h4 with h4 | h4
        · subst h4
          have : its = [] := List.eq_nil_of_length_eq_zero (by simpa using hle)
          subst this
          rfl
        · subst h4
          simp
      refine wpAny_binaryOp_repeat_ref (T := "tuple") (U := "int") (by decide) ⟨_, ho, rfl⟩ (fun s' => typeIs_int s' k t) noFill_tuple_mul F.fills_int_mul F.slot_int_rmul repeat_tuple F.slot_int_index.lookup
        (call_meets F.slot_int_rmul (typeIs_int s k t) F.entry_int_rmul (F.args_int_rmul_2 _ _) (int_rmul_tuple k t l its.toArray n dd sl)
          ⟨ho, rfl, ⟨_, ho, rfl⟩, call_meets F.slot_tuple_mul ⟨_, ho, rfl⟩ F.entry_tuple_mul (F.args_tuple_mul_2 _ _) (tuple_mulS l its.toArray n dd sl k t c0 c1) ⟨ho, ?_⟩⟩)
      refine ⟨.ref l, H, I, rfl, q H l (.refl _) ?_⟩
      rcases h4 with h4 | h4
      · subst h4; rw [rep_nil]; exact hT
      · subst h4; rw [rep_one]; exact hT
    · have h5 : xs ≠ [] ∧ k ≤ 0 := ⟨fun z => h4 (.inl z), by
        have : k ≠ 1 := fun z => h4 (.inr z)
        have : ¬ (2 ≤ k) := fun z => h3 ⟨fun z => h4 (.inl z), z⟩
        omega⟩
      have hi : its.toArray.isEmpty = false := by
        cases its with
        | nil => exact absurd (List.eq_nil_of_length_eq_zero hle.symm) h5.1
        | cons a b => rfl
      have c1 : (its.toArray.isEmpty || k == 1) = false := by
        rw [hi, Bool.false_or]
        exact beq_eq_false_iff_ne.mpr (by omega)
      have c2 : (decide (k ≤ 0) || its.toArray.isEmpty) = true := by rw [decide_eq_true h5.2]; rfl
      have e0 : (List.replicate k.toNat xs).flatten = [] := by
        have : k.toNat = 0 := by omega
        rw [this]; rfl
      refine wpAny_binaryOp_repeat_ref (T := "tuple") (U := "int") (by decide) ⟨_, ho, rfl⟩ (fun s' => typeIs_int s' k t) noFill_tuple_mul F.fills_int_mul F.slot_int_rmul repeat_tuple F.slot_int_index.lookup
        (call_meets F.slot_int_rmul (typeIs_int s k t) F.entry_int_rmul (F.args_int_rmul_2 _ _) (int_rmul_tuple k t l its.toArray n dd sl)
          ⟨ho, rfl, ⟨_, ho, rfl⟩, call_meets F.slot_tuple_mul ⟨_, ho, rfl⟩ F.entry_tuple_mul (F.args_tuple_mul_2 _ _) (tuple_mul0 l its.toArray n dd sl k t c0 c1 c2) ⟨ho, ?_⟩⟩)
      refine ⟨.ref s.heap.objs.size, _, I.laid (t' := s.toks) (o := .tup []) (fun b ob q => Heap.get?_push_of_some _ q) (Nat.le_refl _) ?_, rfl, q _ _ (.new (I.hok.fresh (Nat.le_refl _))) (by rw [e0]; exact SqT.of upd_same)⟩
      exact ⟨Nat.zero_le _, [], .nil, IsTup.new _ _⟩
/-- t + u -/
def rCatW (K : PySem.W.Frag) : R2 := fun x y H Q => ∃ a b xs ys, x = .ref a ∧ y = .ref b ∧ SqT K H a xs ∧ SqT K H b ys ∧ xs.length + ys.length ≤ sizeLine ∧ ∀ H' p, Same H H' → SqT K H' p (xs ++ ys) → Q (.ref p) H'
theorem op_catW : OpR X (binaryOp .Add) (rCatW X.K) := by
  intro pins s σ H x y v u Q I rx ry h
  obtain ⟨a, b, xs, ys, rfl, rfl, ha, hb, hz, q⟩ := h
  exact op_catA pins s σ H _ _ v u Q I rx ry ⟨a, b, xs, ys, rfl, rfl, ha, hb, hz, fun e => q H b (.refl _) (by rw [e]; exact hb), fun _ e => q H a (.refl _) (by rw [e, List.append_nil]; exact ha), fun _ _ p hp => q _ p (.new hp) (SqT.of upd_same)⟩
/-- t[lo:hi] -/
def rSlW (K : PySem.W.Frag) : V → Option Int → Option Int → Hp → VK → Prop := fun x lo hi H Q => ∃ a xs, x = .ref a ∧ SqT K H a xs ∧ ∀ H' p, Same H H' → SqT K H' p (cutV xs lo hi) → Q (.ref p) H'
theorem sl_tupW : SlR X (rSlW X.K) := by
  intro pins s σ H x v vl vu lo hi sl Q I rx hs pl pu h
  obtain ⟨a, xs, rfl, hx, q⟩ := h
  refine sl_tupA pins s σ H _ v vl vu lo hi sl Q I rx hs pl pu ⟨a, xs, rfl, hx, fun e => q H a (.refl _) ?_, fun _ p hp => q _ p (.new hp) (SqT.of upd_same)⟩
  unfold cutV
  rw [e.1, e.2, List.drop_zero, Nat.sub_zero, List.take_length]
  exact hx

/-- sum(t), t a tuple of numbers -/
theorem cr_sumT (hc : X.calm = true) : CallR X (.builtin "sum") (fun vs H Q => ∃ (a : Addr) (ns : List Int), vs = [V.ref a] ∧ SqT X.K H a (ns.map V.int) ∧ Q (.int ns.sum) H) := by
  intro pins s σ H xs us Q I r h
  obtain ⟨a, ns, rfl, hq, q⟩ := h
  cases r with
  | cons r rr =>
  cases rr
  cases r
  obtain ⟨its, rv, hT, hz⟩ := I.tuple hq
  have hi := intsAre_of rv
  obtain ⟨ys, hx⟩ := hi.allInts.items
  have hn : numsOf its.toArray.toList = ns := by rw [show its.toArray.toList = its from rfl, hi.numsOf]
  have hT' : s.heap.IsTuple a its.toArray := let ⟨o, h1, h2, h3⟩ := hT; ⟨o, h1, h2, h3⟩
  rw [hx] at hT' hn
  rw [nums_intItems] at hn
  refine PySem.W.ktm_sumG (I.ok.hd hc) hT' fun h' tk t' hk => ?_
  rw [preSum_eq, List.take_of_length_le (by simp), hn]
  exact ⟨.int ns.sum, H, I.kept (t' := tk) hk, ⟨t', rfl⟩, q⟩
theorem cr_sumA (hc : X.calm = true) : CallR X (.builtin "sum") (fun vs H Q => ∃ (a : Addr) (ns : List Int), vs = [V.ref a] ∧ SqA X.K H a (ns.map V.int) ∧ Q (.int ns.sum) H) := by
  intro pins s σ H xs us Q I r h
  obtain ⟨a, ns, rfl, hq, q⟩ := h
  rcases hq with hq | hq
  · exact cr_sum hc pins s σ H _ us Q I r ⟨a, ns, rfl, hq, q⟩
  · exact cr_sumT hc pins s σ H _ us Q I r ⟨a, ns, rfl, hq, q⟩
/-! ### t[::-1] -/
theorem rev_pick (xs : List Value) : ((List.range xs.length).filterMap fun (m : Nat) => xs.toArray[(((xs.length : Nat) : Int) - 1 + (m : Int) * (-1)).toNat]?) = xs.reverse := by
  have key : ∀ n, n ≤ xs.length → ((List.range n).filterMap fun (m : Nat) => xs.toArray[(((xs.length : Nat) : Int) - 1 + (m : Int) * (-1)).toNat]?) = (xs.reverse).take n := by
    intro n
    induction n with
    | zero => intro _; simp
    | succ n ih =>
      intro hn
      rw [List.range_succ, List.filterMap_append, ih (by omega), List.take_succ]
      congr 1
      have e : (((xs.length : Nat) : Int) - 1 + (n : Int) * (-1)).toNat = xs.length - 1 - n := by omega
      have hlt : n < xs.reverse.length := by rw [List.length_reverse]; omega
      rw [List.filterMap_cons, List.filterMap_nil, e, List.getElem?_reverse (by omega)]
      simp only [List.getElem?_toArray]
      cases q : xs[xs.length - 1 - n]? with
      | none => simp
      | some v => simp
  rw [key xs.length (Nat.le_refl _), List.take_of_length_le (by rw [List.length_reverse]; exact Nat.le_refl _)]
theorem adjust_rev (n : Nat) : Builtin.Slice.sliceAdjust none none (-1) (n : Int) = ((n : Int) - 1, -1) := by
  unfold Builtin.Slice.sliceAdjust
  simp
theorem places_rev (n : Nat) : Builtin.Slice.slicePlaces ((n : Int) - 1) (-1) (-1) = n := by
  unfold Builtin.Slice.slicePlaces
  have h1 : ¬ ((-1 : Int) > 0) := by omega
  simp only [h1, if_false]
  split
  · simp only [Int.neg_neg, Int.ediv_one]; omega
  · simp only [Int.toNat_zero]; omega
theorem sliceApplied_rev {prog : Program} {w : World} {A : Around} {E : Value → Shared → Prop} {s : Shared} {sl : Addr} {vl vu vk : Value} {n : Nat} {Q : Int × Int × Nat → Shared → Prop} (hs : s.heap.IsSliceOf sl vl vu vk) (pl : IsPart vl none) (pu : IsPart vu none) (pk : IsPart vk (some (-1)))
    (h : Q ((n : Int) - 1, -1, n) s) : wpAny (model prog w) A (Builtin.Slice.sliceApplied (.ref sl) (pure (n : Int))) Q E s := by
  obtain ⟨os, hos, hcs, hds⟩ := id hs
  unfold Builtin.Slice.sliceApplied Builtin.Slice.sliceFields
  refine wpAny_bind (wpAny_bind (wpAny_field hos hds (x := vl) rfl (wpAny_bind (wpAny_field hos hds (x := vu) rfl (wpAny_bind (wpAny_field hos hds (x := vk) rfl (wpAny_pure ?_)))))))
  refine wpAny_bind (HT.slicePart_ pk ?_)
  show wpAny _ _ (if ((-1 : Int) == 0) = true then _ else _) _ _ s
  rw [if_neg (by decide)]
  refine wpAny_bind (HT.slicePart_ pl (wpAny_bind (HT.slicePart_ pu (wpAny_bind (wpAny_pure ?_)))))
  show wpAny _ _ (match Builtin.Slice.sliceAdjust none none (-1) (n : Int) with | (lo, hi) => pure (lo, (-1 : Int), Builtin.Slice.slicePlaces lo hi (-1))) _ _ s
  rw [adjust_rev n]
  show wpAny _ _ (pure ((n : Int) - 1, (-1 : Int), Builtin.Slice.slicePlaces ((n : Int) - 1) (-1) (-1))) _ _ s
  rw [places_rev]
  exact wpAny_pure h
theorem getItem_tuple_rev {prog : Program} {w : World} {A : Around} {E : Value → Shared → Prop} {s : Shared} {t sl : Addr} {its : List Value} {vl vu vk : Value} {Q : Value → Shared → Prop} (ht : IsTup s.heap t its.toArray) (hs : s.heap.IsSliceOf sl vl vu vk) (pl : IsPart vl none) (pu : IsPart vu none) (pk : IsPart vk (some (-1)))
    (h : Q (.ref s.heap.objs.size) { s with heap := s.heap.push { cls := .type "tuple", data := .seq its.reverse.toArray } })
    (hsz : its.length ≤ sizeLine) : wpAny (model prog w) A (getItem (.ref t) (.ref sl)) Q E s := by
  have htake : sizeOk (.seq its.reverse.toArray) := by
    show its.reverse.toArray.size ≤ sizeLine
    rw [List.size_toArray, List.length_reverse]
    exact hsz
  obtain ⟨os, hos, hcs, hds⟩ := id hs
  have hTs : s.TypeIs (.ref sl) "slice" := ⟨os, hos, hcs⟩
  unfold getItem
  try with_reducible refine wpAny_holding ?_
  first | refine wpAny_bind (wpAny_pure ?_) | skip
  refine wpAny_bind (wpAny_sequenceKey ht.typeIs (by decide) ?_)
  refine wpAny_bind (wpAny_callSpecial?_slot (name := Str.ofString "__getitem__") ht.typeIs PyProof.Rows.slot_tuple_getitem
    (wpAny_call_entry PyProof.Rows.slot_tuple_getitem ht.typeIs entry_tuple_getitem ?_ (args_tuple_getitem _ _)))
  show wpAny _ _ (Builtin.Tuple.tupleItemsOf (.ref t) >>= _) _ _ s
  refine wpAny_bind (tupleItemsOf_ ht ?_)
  refine wpAny_bind (wpAny_typeOf hTs ?_)
  rw [if_pos (by decide)]
  refine wpAny_bind (sliceApplied_rev hs pl pu pk ?_)
  have hno : ¬ ((((its.toArray.size : Int) - 1) == 0 && (-1 : Int) == 1 && its.toArray.size == its.toArray.size) = true) := by
    intro q
    rw [Bool.and_eq_true, Bool.and_eq_true] at q
    exact absurd q.1.2 (by decide)
  show wpAny _ _ (if (((its.toArray.size : Int) - 1) == 0 && (-1 : Int) == 1 && its.toArray.size == its.toArray.size) = true then _ else _) _ _ s
  rw [if_neg hno]
  have ep := rev_pick its
  rw [← List.size_toArray] at ep
  rw [ep]
  first
    | exact wpAny_bind (m := Builtin.Tuple.tupleExact _) (wpAny_newObj_type (wpAny_pure ⟨_, rfl, wpAny_pure h⟩) htake)
    | exact wpAny_bind (m := Builtin.Tuple.tupleExact _) (wpAny_newObj_type (wpAny_bind (wpAny_pure (wpAny_pure ⟨_, rfl, wpAny_pure h⟩))) htake)
    | exact wpAny_bind (wpAny_bind (m := Builtin.Tuple.tupleExact _) (wpAny_newObj_type (wpAny_pure (wpAny_pure ⟨_, rfl, wpAny_pure h⟩)) htake))
    | exact wpAny_bind (wpAny_bind (m := Builtin.Tuple.tupleExact _) (wpAny_newObj_type (wpAny_pure ⟨_, rfl, wpAny_pure h⟩) htake))
def tRevT (K : PySem.W.Frag) (te : TE) : TE := fun σ H Q => te σ H fun x H1 => ∃ a xs, x = .ref a ∧ SqT K H1 a xs ∧ ∀ p, H1 p = none → Q (.ref p) (upd H1 p (.tup xs.reverse))
theorem pe_revT {e : Expr} {te : TE} {k : Nat} {p1 p2 p3 pos : Pos} (he : PE X e te) : PE X (.Subscript e (.Slice none none (some (.UnaryOp .USub (.Constant (.int 1) k p1) p2)) p3) pos) (tRevT X.K te) := by
  refine ⟨fun pins s σ H Q I h => ?_⟩
  refine Subscript_ (thn (he.run pins s σ H _ I h) fun v s1 ⟨x, H1, I1, r1, q1⟩ => ?_)
  obtain ⟨a, xs, ex, hx, q⟩ := q1
  subst ex
  cases r1
  have hst : PO X (some (.UnaryOp .USub (.Constant (.int 1) k p1) p2)) (tPart (tUn (rU fun i => .int (-i)) (tC (.int 1)))) := po_some (pe_un un_neg pe_int)
  refine wpAny_Slice (thn (po_none.run pins s1 σ H1 (fun o H2 => o = none ∧ H2 = H1) I1 ⟨rfl, rfl⟩) fun vl s2 ⟨l, H2, I2, pl, el, e2⟩ => ?_)
  subst el e2
  refine thn (po_none.run pins s2 σ H2 (fun o H3 => o = none ∧ H3 = H2) I2 ⟨rfl, rfl⟩) fun vu s3 ⟨u, H3, I3, pu, eu, e3⟩ => ?_
  subst eu e3
  refine thn (hst.run pins s3 σ H3 (fun o H4 => o = some (-1) ∧ H4 = H3) I3 ⟨1, rfl, -1, rfl, rfl, rfl⟩) fun vs s4 ⟨o, H4, I4, ps, eo, e4⟩ => ?_
  subst eo e4
  have I5 : Inv X pins σ H4 { s4 with heap := s4.heap.push { cls := .type "slice", data := .fields #[vl, vu, vs] } } := I4.kept (t' := s4.toks) fun b ob q => Heap.get?_push_of_some _ q
  obtain ⟨its, r, ht, hz⟩ := I5.tuple hx
  have hlen := r.length
  show wpAny (model X.prog X.w) X.A (subscriptTail e (.Slice none none (some (.UnaryOp .USub (.Constant (.int 1) k p1) p2)) p3) (.ref a) (.ref s4.heap.objs.size)) (EP X pins σ Q) X.xe { s4 with heap := s4.heap.push { cls := .type "slice", data := .fields #[vl, vu, vs] } }
  refine tail_any (ops := [.ref a, .ref s4.heap.objs.size]) ht.typeIs (PyProof.Rows.slot_tuple_getitem.lookup) ?_ (by with_unfolding_all rfl)
  refine getItem_tuple_rev ht (Heap.IsSliceOf.new _ vl vu vs) pl pu ps ?_ (by omega)
  refine ⟨.ref _, _, I5.laid (t' := s4.toks) (o := .tup xs.reverse) (fun b ob q => Heap.get?_push_of_some _ q) (Nat.le_refl _) ?_, rfl, q _ (I5.hok.fresh (Nat.le_refl _))⟩
  exact ⟨by rw [List.length_reverse]; exact hz, _, r.reverse, IsTup.new _ _⟩
end
end L2

set_option maxRecDepth 100000
set_option maxHeartbeats 4000000
/-! # The head: what the program's top has left, as facts that one kernel run decides; the end of a law -/
namespace HX
open PySem PySem.W PySem.Calls PyProof.Rows He He5
open PySem.HandSPX (refsVE)

def clsXB (K : Frag) (C : Addr) : Bool := (match K.lookup C with
  | some ⟨.type ty, _, .cls cd, sl⟩ => (match cd.mro, sl.toList with
    | .ref C' :: bm, [_, _, _, _, some (.builtin n), _] => decide (ty = "type") && (decide (C' = C) && (decide (n = "ValueError.__new__") && (cd.hasDict && (!cd.hasDel && (refsVE bm && eqO (alongIn K "__init__" bm) (some (some (.builtin "ValueError.__init__"))))))))
    | _, _ => false)
  | _ => false) && (eqO (findIn K (.ref C) "__setattr__") (some (some (.builtin "object.__setattr__"))) && decide (subIn K (.ref C) (.type "ValueError") = some true))
theorem clsXB_ok {K : Frag} {C : Addr} (h : clsXB K C = true) : NX.ClsX K C := by
  obtain ⟨h1, h2⟩ := ba h
  obtain ⟨h2, h3⟩ := ba h2
  refine ⟨?_, eqO_ok h2, of_decide_eq_true h3⟩
  clear h2 h3 h
  split at h1
  · rename_i ty dd cd sl e
    split at h1
    · rename_i C' bm a0 a1 a2 a3 n a5 hm hs
      obtain ⟨k1, h1⟩ := ba h1
      obtain ⟨k2, h1⟩ := ba h1
      obtain ⟨k3, h1⟩ := ba h1
      obtain ⟨k4, h1⟩ := ba h1
      obtain ⟨k5, h1⟩ := ba h1
      obtain ⟨k6, k7⟩ := ba h1
      have e1 := of_decide_eq_true k1
      have e2 := of_decide_eq_true k2
      have e3 := of_decide_eq_true k3
      subst e1 e2 e3
      obtain ⟨nm, bs, mro, ns, qn, hd, sn, sub, ab, col, del⟩ := cd
      dsimp only at hm k4 k5
      subst hm
      have e5 : del = false := by simpa using k5
      subst k4 e5
      have hsl : sl = #[a0, a1, a2, a3, some (.builtin "ValueError.__new__"), a5] := by
        obtain ⟨l⟩ := sl
        simp only at hs
        rw [hs]
      subst hsl
      exact ⟨nm, qn, ns, bs, bm, sn, sub, ab, col, dd, a0, a1, a2, a3, a5, e, k6, eqO_ok k7⟩
    · cases h1
  · cases h1

/-- the text of an error's __init__ -/
structure InitTx (prog : Program) (st : Stmt) (qual : Str) (ps : List Str) (l : List (Str × Str)) : Prop where
  txt : ∃ msg k q1 q2 q3 q4 q5 q6 r, L2.defBody st = NX.supS msg k q1 q2 q3 q4 q5 q6 :: r ∧ NX.Sto r l ∧ (∀ env : Env, env.scope = L2.defScope st → interactive env = false) ∧
    ∀ env : Env, env.scope = L2.defScope st → ∃ pl : Sem Bool, eval (.Call (.Attribute (.Call (.Name "super" q1) [] [] q2) "__init__" q3) [.Constant (.str msg) k q4] [] q5) env = (do
      let ov ← attributeBase (.Call (.Name "super" q1) [] [] q2) "__init__" env (eval (.Call (.Name "super" q1) [] [] q2) env)
      standAt q3.atName
      let (f, first) ← holding [ov] (getMethod ov "__init__" pl)
      callWith q5 f first (backTo q5 (starEach [.Constant (.str msg) k q4] env)) [])
  par : ∃ ar, ((L2.defArgs st).posonlyargs ++ (L2.defArgs st).args).head? = some ar ∧ ar.arg = "self"
  sc : ((L2.defScope st).names.lookup ("super" : Str) = some .globalImplicit ∧ (L2.defScope st).names.lookup ("__class__" : Str) = some .free ∧ (L2.defScope st).names.lookup ("self" : Str) = some .local) ∧ (∀ x ∈ (L2.defScope st).names, x.2 ≠ .cell) ∧
    (L2.defScope st).kind = .function ∧ (L2.defScope st).isCoroutine = false ∧ (L2.defScope st).isGenerator = false
  loc : (∀ p ∈ l, (L2.defScope st).names.lookup p.2 = some .local ∧ (p.2 == ("__debug__" : Str)) = false ∧ p.2 ∈ ps) ∧ ∀ p ∈ ps, (L2.defScope st).names.lookup p = some .local
  nod : ps.Nodup ∧ ("self" : Str) ∉ ps
  bind : ∀ (s' : Shared) (e : Addr) (fd : FuncData) (us : List Value), us.length = ps.length → fd.params = L2.defArgs st → fd.scope = L2.defScope st → fd.defaults = .none → BindsTo s' fd ⟨.ref e :: us, []⟩ (("self", .ref e) :: ps.zip us)
  top : (prog.main.scope.names.lookup ("super" : Str)).isSome = false
  few : l.length ≤ 900

/-- a def with its closure's names -/
abbrev FnQ : Type := Option (Str × Str × Arguments × FuncBody × Scope × Addr × List Str × Addr)
def fnQ (K : Frag) (a : Addr) : FnQ := match K.lookup a with
  | some ⟨_, _, .func fd, _⟩ => some (fd.name, fd.qualname, fd.params, fd.body, fd.scope, fd.globals, fd.closure.map (·.1), fd.builtins)
  | _ => none
/-- an error's class: its name, its __init__'s text, its qualified name -/
structure ErrD where
  x : Str
  st : Stmt
  qual : Str
  fs : List Str
def ErrD.at_ (d : ErrD) (K : Frag) : Addr := ma K (ga K d.x) "__init__"
def ErrD.val (d : ErrD) : FnQ := some (("__init__" : Str), d.qual, L2.defArgs d.st, FuncBody.stmts (L2.defBody d.st), L2.defScope d.st, mainGlobals, [("__class__" : Str)], builtinsNs)
def ErrD.ok (file : Str) (d : ErrD) (K : Frag) : Bool := clsXB K (ga K d.x) && (eqO (findIn K (.ref (ga K d.x)) "__init__") (some (some (.ref (d.at_ K)))) && (decide (typeIn K (.ref (d.at_ K)) = some (.type "function")) && ((match K.lookup (d.at_ K) with
  | some ⟨_, _, .func fd, _⟩ => codeIn K fd.code fd.qualname && ((match fd.closure with
    | [(_, cc)] => (match K.lookup cc with
      | some ⟨_, _, .cell (some (.ref D)), _⟩ => decide (D = ga K d.x)
      | _ => false)
    | _ => false) && ((match fd.code with
    | .ref cda => (match K.lookup cda with
      | some ⟨_, _, .fields vs, _⟩ => (match (vs[2]? : Option Value) with
        | some (.str f _) => f == file
        | _ => false)
      | _ => false)
    | _ => false) && (match fd.defaults with
    | .none => true
    | _ => false)))
  | _ => false) && ((d.fs.all fun f => eqO (findIn K (.ref (ga K d.x)) f) (some none)) && (eqO (nsIn K mainGlobals d.x) (some (some (.ref (ga K d.x)))) && (keepIn K (.ref (ga K d.x)) && (decide (subIn K (.ref (ga K d.x)) (.type "BaseException") = some true) && decide (typeIn K (.ref (ga K d.x)) = some (.type "type")))))))))
theorem errD_ok {prog : Program} {K : Frag} {h : Heap} {mg : Str → Option Value} {d : ErrD} {ps : List Str} {l : List (Str × Str)} (X : K.In h) (G : h.Ns mainGlobals mg) (T : InitTx prog d.st d.qual ps l) (hf : l.map (·.1) = d.fs) (hs : mg "super" = none) (hany : nsIn K cStatics "thirdparty.any" = some none)
    (e : fnQ K (d.at_ K) = d.val) (c : d.ok (prog.main.file : Str) K = true) : L2.Exn prog K mg d.x (ga K d.x) (d.at_ K) ps l := by
  obtain ⟨c1, c⟩ := ba c
  obtain ⟨c2, c⟩ := ba c
  obtain ⟨c3, c⟩ := ba c
  obtain ⟨c4, c⟩ := ba c
  obtain ⟨c5, c⟩ := ba c
  obtain ⟨c6, c⟩ := ba c
  obtain ⟨c7, c⟩ := ba c
  obtain ⟨c8, c9⟩ := ba c
  obtain ⟨ar, hp1, hp2⟩ := T.par
  refine ⟨clsXB_ok c1, ⟨d.qual, L2.defArgs d.st, L2.defScope d.st, L2.defBody d.st, ar, ⟨T.txt, eqO_ok c2, of_decide_eq_true c3, ?_, hp1, hp2, T.sc.1.1, T.sc.1.2.1, T.sc.1.2.2, fun p hp => ⟨(T.loc.1 p hp).1, (T.loc.1 p hp).2.1, ?_⟩, T.sc.2.1, T.sc.2.2.1, T.sc.2.2.2.1, T.sc.2.2.2.2, T.top, T.few⟩, T.bind, T.loc.2⟩,
    fun p hp => (T.loc.1 p hp).2.2, T.nod, mg_of X G (eqO_ok c6), hs, hany, c7, of_decide_eq_true c8, of_decide_eq_true c9⟩
  · unfold fnQ at e
    cases q : K.lookup (d.at_ K) with
    | none =>
      rw [q] at c4
      cases c4
    | some o =>
      obtain ⟨oc, od, dt, osl⟩ := o
      rw [q] at c4 e
      cases dt with
      | func fd =>
        obtain ⟨n1, n2, n3, n4, n5, n6, n7, n8, n9, n10, n11, n12, n13, n14, n15⟩ := fd
        have e2 : (some (n1, n2, n3, n4, n5, n6, n7.map (·.1), n15) : FnQ) = some (("__init__" : Str), d.qual, L2.defArgs d.st, FuncBody.stmts (L2.defBody d.st), L2.defScope d.st, mainGlobals, [("__class__" : Str)], builtinsNs) := e
        simp only [Option.some.injEq, Prod.mk.injEq] at e2
        obtain ⟨h1, h2, h3, h4, h5, h6, h7, h8⟩ := e2
        subst h1 h2 h3 h4 h5 h6 h8
        obtain ⟨k1, k2⟩ := ba c4
        obtain ⟨kA, k3⟩ := ba k2
        obtain ⟨k3, k9⟩ := ba k3
        clear k2 c4
        dsimp only at k1 kA k3 k9
        have ed : n8 = .none := by
          cases n8 <;> first | rfl | cases k9
        subst ed
        split at kA
        · rename_i nn cc
          have en : nn = "__class__" := by simpa using h7
          subst en
          split at kA
          · rename_i cl cld D csl qc
            have eD := of_decide_eq_true kA
            subst eD
            split at k3
            · rename_i cda hcd9
              have hcd8 : n13 = .ref cda := hcd9
              subst hcd8
              split at k3
              · rename_i ccl cdd vs ccs qd
                split at k3
                · rename_i f tf qv
                  have ef : f = prog.main.file := by simpa using k3
                  exact ⟨oc, od, n9, n10, n11, n12, cda, n14, osl, cc, cl, cld, csl, ccl, cdd, vs, ccs, f, tf, rfl, k1, qc, qd, qv, by rw [ef]; simp⟩
                · cases k3
              · cases k3
            · cases k3
          · cases kA
        · cases kA
      | _ => cases c4
  · have := List.all_eq_true.mp c5 p.1 (by rw [← hf]; exact List.mem_map_of_mem hp)
    exact eqO_ok this

/-! ### the Hook -/
abbrev AlX : Type := Bool × List He5.FnW × List FnQ
def obsX (bx : Frag → Bool) (fn : List DefA) (er : List ErrD) (file : Str) (K : Frag) : AlX := (bx K && (fn.all (fun d => d.ok K) && er.all fun d => d.ok file K), fn.map fun d => fnA K (d.at_ K), er.map fun d => fnQ K (d.at_ K))
def valX (fn : List DefA) (er : List ErrD) : AlX := (true, fn.map DefA.val, er.map ErrD.val)
def SaysX (bx : Frag → Bool) (fn : List DefA) (er : List ErrD) (file : Str) (K : Frag) : Prop := obsX bx fn er file K = valX fn er
def obsXG (n : Nat) (bx : Frag → Bool) (fn : List DefA) (er : List ErrD) (file : Str) (g : Addr → Option Obj) : AlX := obsX bx fn er file (frG g (asA g n))
def hookX (n : Nat) (bx : Frag → Bool) (fn : List DefA) (er : List ErrD) (file : Str) : PySem.W.Hook where
  α := AlX
  obs := fun s => obsXG n bx fn er file s.heap.get?
  val := fun _ => valX fn er
  says := fun _ h => ∃ K : Frag, K.In h ∧ SaysX bx fn er file K
  of := fun _ _ e => ⟨_, frG_in, e⟩
  keeps := fun _ _ _ ⟨K, hK, c⟩ k => ⟨K, Frag.In.keeps hK k, c⟩
theorem obsXG_eq {n : Nat} {bx : Frag → Bool} {fn : List DefA} {er : List ErrD} {file : Str} {g : Addr → Option Obj} {s : Shared} (h : ∀ a, g a = s.heap.get? a) : obsXG n bx fn er file g = (hookX n bx fn er file).obs s := by
  have e : g = s.heap.get? := funext h
  rw [e] <;> rfl
section
variable {bx : Frag → Bool} {fn : List DefA} {er : List ErrD} {file : Str} {K : Frag}
theorem SaysX.bool (c : SaysX bx fn er file K) : bx K = true := (ba (show (bx K && (fn.all (fun d => d.ok K) && er.all fun d => d.ok file K)) = true from congrArg (fun z : AlX => z.1) c)).1
theorem SaysX.def_ (c : SaysX bx fn er file K) (i : Nat) {d : DefA} (h : fn[i]? = some d := by rfl) : ∃ fd, L2.FunD K d.name d.qual d.params d.body d.scope (d.dvs K) (d.kws K) (d.at_ K) fd := by
  have c2 := (ba (ba (show (bx K && (fn.all (fun d => d.ok K) && er.all fun d => d.ok file K)) = true from congrArg (fun z : AlX => z.1) c)).2).1
  have e : fn.map (fun d => fnA K (d.at_ K)) = fn.map DefA.val := congrArg (fun z : AlX => z.2.1) c
  have e2 : (fn.map fun d => fnA K (d.at_ K))[i]? = (fn.map DefA.val)[i]? := by rw [e]
  rw [List.getElem?_map, List.getElem?_map, h] at e2
  exact DefA.funD (Option.some.inj e2) (List.all_eq_true.mp c2 d (List.mem_of_getElem? h))
theorem SaysX.err_ (c : SaysX bx fn er file K) (i : Nat) {d : ErrD} (h : er[i]? = some d := by rfl) : fnQ K (d.at_ K) = d.val ∧ d.ok file K = true := by
  have c2 := (ba (ba (show (bx K && (fn.all (fun d => d.ok K) && er.all fun d => d.ok file K)) = true from congrArg (fun z : AlX => z.1) c)).2).2
  have e : er.map (fun d => fnQ K (d.at_ K)) = er.map ErrD.val := congrArg (fun z : AlX => z.2.2) c
  have e2 : (er.map fun d => fnQ K (d.at_ K))[i]? = (er.map ErrD.val)[i]? := by rw [e]
  rw [List.getElem?_map, List.getElem?_map, h] at e2
  exact ⟨Option.some.inj e2, List.all_eq_true.mp c2 d (List.mem_of_getElem? h)⟩
end
end HX

namespace L2
open PySem PySem.Spec PyProof.Rows
/-- the end of a law over a head by facts, the script's bits told -/
theorem walk_ofX {l : PySem.W.OpenLaw} {n k : Nat} {q : Program} {loose : List Str} {XP : (Str → Option Value) → Heap → Prop} {YP : World → Heap → Prop} {d : DefRec} {CX : World → CXT} {x : Str}
    (hn : l.most = some n) (hn2 : n ≤ sizeLine) (hdf : d.params.defaults = []) (hr : Room k callerA)
    (F : ∀ (w : World) (mg : Str → Option Value) (fa : Addr) (h : Heap), YP w h → h.Ns mainGlobals mg → mg d.name = some (.ref fa) →
      ∃ (K : PySem.W.Frag) (fd : FuncData) (sp : Sp), K.In h ∧ (∀ (s : Shared) (u : Value), BindsTo s fd ⟨[u], []⟩ [(x, u)]) ∧
        (∀ (H : Hp) (a : Addr) (ns : List Int), ns.length ≤ n → (∀ z ∈ ns, Builtin.Int.intBits z ≤ 1048576) → Only H → SqL K H a (ns.map V.int) → sp [.ref a] H (fun v _ => v = .bl true) fun _ _ _ => False) ∧
        ∀ base : Heap, K.In base → base.Ns mainGlobals mg → FnOk l.prog w K mg base (CX w) k fa fd [x] sp)
    (hCX : ∀ (w : World) (H : Hp) (s : Shared) (e : Value) (s' : Shared), CX w [] H s (fun _ _ _ => False) e s' → False) :
    PySem.W.WalkO q loose XP YP l.row.toRowW d [] (fun f vs => PySem.call f vs) := by
  refine Att.attach_callB hn hdf fun w s₀ s₁ mg mb fa o pm cd doc a vs ns G Y ho hd hcd hmg hobj hints hlen hbits hg => ?_
  obtain ⟨K, fd, sp, KX, hb, hsp, hF⟩ := F w mg fa _ Y G.T.g hmg
  exact law_call KX G.T.g G.T.b G.T.builtins G.T.nolimit hg hobj hints (Nat.le_trans hlen hn2) hr hF hb (fun H hO hS => hsp H a ns hlen hbits hO hS) fun H e s' => hCX w H s₁ e s'
end L2

set_option maxRecDepth 100000
set_option maxHeartbeats 4000000
/-! # n * obj; facts of classes by one Bool -/
namespace L2
open PySem PySem.Spec PyProof.Rows
theorem int_mul_ins (k : Int) (t : Tok) (l : Addr) (C : Value) (dd : Option Addr) (sl : Array (Option Value)) :
    Meets (Builtin.«int.__mul__» ⟨[.int k t, .ref l], []⟩) (fun _ R s => s.heap.get? l = some { cls := C, dict := dd, data := .plain, slots := sl } ∧ R (.ok (.ret Value.notImplemented)) s) :=
  .of_wp fun prog w A R s h => by obtain ⟨hp, g, d, tk, os⟩ := s; obtain ⟨hl, h⟩ := h; wp_walk using wpAny_loadPart' hl; exact ⟨_, rfl, h⟩
/-- n op a, a of a class with the operator and its reflected one -/
structure OwnR (K : PySem.W.Frag) (C : Addr) (op : Operator) (f : Addr) : Prop where
  first : PySem.W.selfFirst K C = true
  mul : ∃ g, PySem.W.findIn K (.ref C) (PySem.dunder op.info.2) = some (some (.ref g))
  at_ : PySem.W.findIn K (.ref C) (dunderR op.info.2) = some (some (.ref f))
  fn : PySem.W.isFn K (.ref f) = true
  sub : PySem.W.subIn K (.ref C) (.type "int") = some false
def rOwnR (C : Addr) (sp : Sp) (E : XK) : R2 := fun x y H Q => ∃ a dx fs n, x = .int n ∧ y = .ref a ∧ H a = some (.ins C dx fs) ∧ sp [.ref a, .int n] H Q E
section
open PySem.W
theorem ksp_rbin {prog : Program} {w : World} {A : Around} {E : Value → Shared → Prop} {s : Shared} {K : Frag} {x C L f : Addr} {h₀ : Heap} {m : Str → Option Value} {od : Option Obj} {dx : Addr} {k : Int} {t : Tok} {op : Operator} {idl : String} {Q : Value → Shared → Prop}
    (Fr0 : Fr h₀ L s.heap m) (X₀ : K.In h₀) (I : InstAt s.heap x (instObj C dx) C od) (O : OwnR K C op f) (hf : fillsNumberSlot (.type "int") op.info.2 = pure true) (hl : Slot "int" (PySem.dunder op.info.2) idl)
    (hd : ∀ {Q' : Value → Shared → Prop}, Q' .notImplemented s → wpAny (model prog w) A (call (.builtin idl) [.int k t, .ref x]) Q' E s)
    (h : wpAny (model prog w) A (call (.ref f) [.ref x, .int k t]) (PySem.W.CmpBack Q) E s) : wpAny (model prog w) A (binaryOp op (.int k t) (.ref x)) Q E s := by
  have X := X₀.keeps Fr0.keep
  obtain ⟨cd, rest, hcd, hm⟩ := ksp_first O.first
  obtain ⟨g0, hg0⟩ := O.mul
  have one := ksp_try X I O.at_ O.fn h
  have two : ∀ {Q' : Option Value → Shared → Prop}, Q' none s → wpAny (model prog w) A (tryMethod (.int k t) (PySem.dunder op.info.2) (.ref x)) Q' E s := fun {Q'} q =>
    wpAny_tryMethod_declines (typeIs_int s k t) hl (hd ⟨rfl, q⟩)
  have oat := O.at_
  rcases hi : op.info with ⟨sym, nm'⟩
  rw [hi] at hg0 hf two one
  dsimp only at hg0 hf two one
  obtain ⟨hh, gg, d, tt, os⟩ := s
  have L1 : Looks (model prog w) hh (typeOf (.ref x)) (.ref C) := I.type
  have L2 : Looks (model prog w) hh (typeOf (.int k t)) (.type "int") := Looks.of_pure rfl
  have L3 : Looks (model prog w) hh (fillsNumberSlot (.ref C) nm') true := fills_K X hcd hm hg0
  have L4 : Looks (model prog w) hh (fillsNumberSlot (.type "int") nm') true := Looks.of_pure hf
  have L5 : Looks (model prog w) hh (isSubtype (.ref C) (.type "int")) false := looks_subIn X O.sub
  have L7 : Looks (model prog w) hh (numberSlotInPython (.type "int") nm') false := Looks.of_pure rfl
  have hne : (Value.type "int" == Value.ref C) = false := Bool.eq_false_iff.mpr fun q => by cases beq_iff_eq.mp q
  simp only [binaryOp, hi]
  refine wpAny_holding (wpAny_bind ?_)
  unfold binaryOp1
  refine wpAny_bind (L2.at (wpAny_bind (L1.at (wpAny_bind (L4.at ?_)))))
  simp only [hne, Bool.false_eq_true, if_false]
  refine wpAny_bind (L3.at ?_)
  simp only [Bool.and_self, if_true]
  refine wpAny_bind (L5.at ?_)
  simp only [Bool.false_eq_true, if_false, pure_bind, Bool.not_false, Bool.and_self, if_true]
  refine wpAny_bind (L7.at ?_)
  simp only [Bool.false_eq_true, if_false, pure_bind, Bool.not_false, Bool.and_self, if_true]
  refine wpAny_bind (two ?_)
  simp only [Bool.false_eq_true, if_false, pure_bind]
  refine wpAny_bind (wpAny_mono one (fun r s' hr' => ?_) fun _ _ e => e)
  obtain ⟨v, rfl, hq⟩ := hr'
  exact wpAny_bind (wpAny_rule (wpAny_pure (wpAny_pure hq)))
end
section
variable {X : Cx} {CX : CXT} {C f : Addr} {fd : FuncData} {ps : List Str} {sp : Sp} {E : XK} {k : Nat}
theorem op_ownR (O : OwnR X.K C .Mult f) (F0 : FnOk X.prog X.w X.K X.mg X.base CX k f fd ps sp) (hb : Binds X.K fd ps []) (hr : Room k X.A) (hx : Passes CX X E) :
    OpR X (binaryOp .Mult) (rOwnR C sp E) := by
  intro pins s σ H x y v u Q I rx ry h
  obtain ⟨a, dx, fs, n, rfl, rfl, ha, hsp⟩ := h
  obtain ⟨t, rfl⟩ := rx
  cases ry
  obtain ⟨mA, J0, rel, _⟩ := ins_get I.hok ha
  obtain ⟨od, J, _⟩ := J0.look
  obtain ⟨m, hF⟩ := I.fr
  refine ksp_rbin hF I.ok.mod.kin J O F.fills_int_mul F.slot_int_mul (fun q => call_meets F.slot_int_mul (typeIs_int s n t) F.entry_int_mul (F.args_int_mul_2 _ _) (int_mul_ins n t a (.ref C) (some dx) #[]) ⟨J0.obj, q⟩) (wpAny_mono (run_fn F0 hr hb .nil hx I (us := [.ref a, .int n t]) (vs := [.ref a, .int n]) (.cons rfl (.cons ⟨t, rfl⟩ .nil)) hsp) (fun r s' q => back_of q) fun _ _ z => z)
/-- a def called within a built-in's call -/
theorem run_fnA {A : Around} {pins : List (Addr × Obj)} {σ : St} {H : Hp} {s : Shared} {Q : VK} {us : List Value} {vs : List V} (F : FnOk X.prog X.w X.K X.mg X.base CX k f fd ps sp) (hb : Binds X.K fd ps []) (hr : Room k A) (e0 : Env0 X.prog X.w X.K X.mg X.base A X.stack s H) (hx : Passes CX X E)
    (I : Inv X pins σ H s) (r : Vals vs us) (h : sp vs H Q E) : wpAny (model X.prog X.w) A (call (.ref f) us) (EP X pins σ Q) X.xe s := by
  have hl : us.length = ps.length := r.length.symm.trans (F.len _ _ _ _ h)
  have B : BindsTo s fd ⟨us, []⟩ (ps.zip us) := by
    have := hb s us I.kIn (by rw [List.append_nil]; exact hl)
    rwa [List.append_nil] at this
  refine wpAny_call (codeAny_mono (F.run A X.stack s H ⟨us, []⟩ us vs Q E hr e0 B r h) fun r s' hq => ?_)
  cases r with
  | error e => exact hx pins σ H s e s' I hq
  | ok fl =>
    cases fl with
    | ret u => exact I.after hq
    | next => exact False.elim hq
    | brk => exact False.elim hq
    | cont => exact False.elim hq
/-- abs(a), a of a class with __abs__ -/
def rOwnAbs (C : Addr) (sp : Sp) (E : XK) : List V → Hp → VK → Prop := fun xs H Q => ∃ a dx fs, xs = [.ref a] ∧ H a = some (.ins C dx fs) ∧ sp [.ref a] H Q E
theorem call_ownAbs (hs : PySem.W.findIn X.K (.ref C) "__abs__" = some (some (.ref f))) (hf : PySem.W.isFn X.K (.ref f) = true) (F : FnOk X.prog X.w X.K X.mg X.base CX k f fd ps sp) (hb : Binds X.K fd ps []) (hr : Room (k + 1) X.A) (hx : Passes CX X E) :
    CallR X (.builtin "abs") (rOwnAbs C sp E) := by
  intro pins s σ H xs us Q I r h
  obtain ⟨a, dx, fs, rfl, ha, hsp⟩ := h
  cases r with
  | cons r rr =>
  cases rr
  cases r
  obtain ⟨od, J⟩ := inst_of I.hok ha
  refine Calls.call_function_entry kind_abs plain_abs entry_abs (args_abs _) ?_
  unfold Builtin.«abs»
  refine wpAny_bind (m := oneArg "abs" _) (wpAny_of_eq (a := Value.ref a) (by first | rfl | kernel_rfl!) ?_)
  refine wpAny_bind (PySem.W.special_fn I.kIn J hs (beq_iff_eq.mp hf) (wpAny_mono (run_fnA F hb hr.in1 I.env0.in1 hx I (us := [.ref a]) (vs := [.ref a]) (.cons rfl .nil) hsp) (fun v s' q => ?_) fun _ _ z => z))
  exact wpAny_pure ⟨_, rfl, q⟩
/-- len(a), a of a class with __len__ -/
def rOwnLen (C : Addr) (sp : Sp) (E : XK) : List V → Hp → VK → Prop := fun xs H Q => ∃ a dx fs, xs = [.ref a] ∧ H a = some (.ins C dx fs) ∧ sp [.ref a] H (fun v H' => ∃ n : Nat, v = .int n ∧ n ≤ sizeLine ∧ Q v H') E
end
end L2

set_option maxRecDepth 100000
set_option maxHeartbeats 4000000
/-! # Facts of a class by one Bool each; walks over own instances, over lists or tuples -/
namespace FB
open PySem PySem.W PySem.Calls PyProof.Rows He He5 HX
abbrev mT : Value := .type "type"
def creadB (K : Frag) (C : Addr) : Bool := readsIn K C mT && eqO (specialIn K (.ref C) "__getattribute__") (some (some (.builtin "type.__getattribute__")))
theorem cread_ok {K : Frag} {C : Addr} (h : creadB K C = true) : ClX.CRead K C mT := by
  obtain ⟨h1, h2⟩ := ba h
  exact ⟨h1, eqO_ok h2⟩
def cintB (K : Frag) (C : Addr) (f : Str) (i : Int) : Bool := match findCls K (.ref C) mT f with
  | some (.val (.int j _)) => decide (j = i)
  | _ => false
theorem cint_ok {K : Frag} {C : Addr} {f : Str} {i : Int} (h : cintB K C f i = true) : ∃ u, ClX.CVal K C mT f (.int i) u := by
  unfold cintB at h
  split at h
  · rename_i j t e
    have := of_decide_eq_true h
    subst this
    exact ⟨_, e, ⟨t, rfl⟩⟩
  · cases h
def addrO : Option (Option Value) → Bool
  | some none => true
  | some (some (.ref _)) => true
  | _ => false
theorem addrO_ok {o : Option (Option Value)} (h : addrO o = true) : ∃ rc, o = some rc ∧ (rc = none ∨ ∃ g : Addr, rc = some (.ref g)) := by
  cases o with
  | none => cases h
  | some o =>
    cases o with
    | none => exact ⟨_, rfl, .inl rfl⟩
    | some v => cases v <;> first | exact ⟨_, rfl, .inr ⟨_, rfl⟩⟩ | (cases h; done)
def opB (K : Frag) (C : Addr) (op : Operator) (f : Addr) : Bool := selfFirst K C && (eqO (findIn K (.ref C) (PySem.dunder op.info.2)) (some (some (.ref f))) && isFn K (.ref f))
theorem op_ok {K : Frag} {C f : Addr} {op : Operator} (h : opB K C op f = true) : L2.OwnOp K C op f := by
  obtain ⟨h1, h⟩ := ba h
  obtain ⟨h2, h3⟩ := ba h
  exact ⟨h1, eqO_ok h2, h3⟩
def opTB (K : Frag) (C : Addr) (op : Operator) (f : Addr) (T : String) : Bool := opB K C op f && (addrO (findIn K (.ref C) (dunderR op.info.2)) && ((findIn K (.type T) (PySem.dunder op.info.2)).isSome && ((findIn K (.type T) (dunderR op.info.2)).isSome && decide (subIn K (.type T) (.ref C) = some false))))
theorem opT_ok {K : Frag} {C f : Addr} {op : Operator} {T : String} (h : opTB K C op f T = true) : L2.OwnOpT K C op f T := by
  obtain ⟨h1, h⟩ := ba h
  obtain ⟨h2, h⟩ := ba h
  obtain ⟨h3, h⟩ := ba h
  obtain ⟨h4, h5⟩ := ba h
  exact { op_ok h1 with rev := addrO_ok h2, tf := Option.isSome_iff_exists.mp h3, tr := Option.isSome_iff_exists.mp h4, sub := of_decide_eq_true h5 }
def opRB (K : Frag) (C : Addr) (op : Operator) (f : Addr) : Bool := selfFirst K C && ((match findIn K (.ref C) (PySem.dunder op.info.2) with | some (some (.ref _)) => true | _ => false) && (eqO (findIn K (.ref C) (dunderR op.info.2)) (some (some (.ref f))) && (isFn K (.ref f) && decide (subIn K (.ref C) (.type "int") = some false))))
theorem opR_ok {K : Frag} {C f : Addr} {op : Operator} (h : opRB K C op f = true) : L2.OwnR K C op f := by
  obtain ⟨h1, h⟩ := ba h
  obtain ⟨h2, h⟩ := ba h
  obtain ⟨h3, h⟩ := ba h
  obtain ⟨h4, h5⟩ := ba h
  refine ⟨h1, ?_, eqO_ok h3, h4, of_decide_eq_true h5⟩
  split at h2
  · rename_i g e
    exact ⟨g, e⟩
  · cases h2
/-- a special method m of C at f -/
def spB (K : Frag) (C : Addr) (m : Str) (f : Addr) : Bool := eqO (findIn K (.ref C) m) (some (some (.ref f))) && isFn K (.ref f)
theorem sp_ok {K : Frag} {C f : Addr} {m : Str} (h : spB K C m f = true) : findIn K (.ref C) m = some (some (.ref f)) ∧ isFn K (.ref f) = true := by
  obtain ⟨h1, h2⟩ := ba h
  exact ⟨eqO_ok h1, h2⟩
/-- a classmethod m of C, its def at g -/
def cmetB (K : Frag) (C : Addr) (m : Str) (g : Addr) : Bool := match findCls K (.ref C) mT m with
  | some (.get (.builtin n) (.ref p) .none (.ref D)) => decide (n = "classmethod.__get__") && (decide (D = C) && ((match recIn K p "classmethod" with
    | some (.ref g' :: _) => decide (g' = g)
    | _ => false) && fnIn K g))
  | _ => false
theorem cmet_ok {K : Frag} {C g : Addr} {m : Str} (h : cmetB K C m g = true) : ∃ p, ClX.CMet K C mT m p g := by
  unfold cmetB at h
  split at h
  · rename_i n p D e
    obtain ⟨h1, h⟩ := ba h
    obtain ⟨h2, h⟩ := ba h
    obtain ⟨h3, h4⟩ := ba h
    have e1 := of_decide_eq_true h1
    have e2 := of_decide_eq_true h2
    subst e1 e2
    split at h3
    · rename_i g' r er
      have e3 := of_decide_eq_true h3
      subst e3
      exact ⟨p, e, ⟨r, er⟩, h4⟩
    · cases h3
  · cases h
end FB
namespace L2
open PySem PySem.Spec PyProof.Rows PySem.W
/-- the facts of __iter__ from its text -/
theorem ownIt_of {K : Frag} {mg : Str → Option Value} {C f : Addr} {fld qual : Str} {fd : FuncData} {st : Stmt} (c : Cls K C) (n : NoAttr K C fld) (a : findIn K (.ref C) "__iter__" = some (some (.ref f))) (hf : isFn K (.ref f) = true) (hm : mg "iter" = none)
    (F : FunD K "__iter__" qual (defArgs st) (defBody st) (defScope st) [] [] f fd)
    (tx : ∃ p1 p2 p3 p4 p5, defBody st = [.Return (some (.Call (.Name "iter" p1) [.Attribute (.Name "self" p2) fld p3] [] p4)) p5] ∧ ∀ env : Env, env.scope = defScope st → attributeBase (.Name "self" p2) fld env (eval (.Name "self" p2) env) = eval (.Name "self" p2) env)
    (sc : (defScope st).names.lookup ("self" : Str) = some .local ∧ (defScope st).names.lookup ("iter" : Str) = some .globalImplicit ∧ (∀ x ∈ (defScope st).names, x.2 ≠ .cell) ∧ (defScope st).kind = .function ∧ (defScope st).isCoroutine = false ∧ (defScope st).isGenerator = false)
    (hb : ∀ (s : Shared) (fd : FuncData) (v : Value), fd.params = defArgs st → fd.scope = defScope st → fd.defaults = .none → BindsTo s fd ⟨[v], []⟩ [("self", v)]) : OwnIt K mg C f fld := by
  obtain ⟨oc, od, dV, kV, doc, pm, an, cdv, ct, osl, rfl, lk, hcd, hD, _⟩ := F.ex
  obtain ⟨p1, p2, p3, p4, p5, hbody, hbase⟩ := tx
  have e : dV = .none := by
    rcases hD with ⟨_, e⟩ | ⟨e, _⟩
    · exact e
    · exact absurd rfl e
  subst e
  rw [hbody] at lk
  exact ⟨c, n, a, hf, hm, qual, defArgs st, defScope st, p1, p2, p3, p4, p5, ⟨oc, od, kV, doc, pm, an, cdv, ct, osl, lk, hcd⟩, sc.1, sc.2.1, sc.2.2.1, sc.2.2.2.1, sc.2.2.2.2.1, sc.2.2.2.2.2, hb, hbase⟩
section
variable {X : Cx} {tg : Expr}
/-- for x in a, a an own instance whose field is a tuple -/
def iOwn (K : Frag) (C : Addr) (fld : Str) (te : TE) : TI := fun σ H R => te σ H fun x H1 => ∃ a dx fs t xs, x = .ref a ∧ H1 a = some (.ins C dx fs) ∧ fs.lookup fld = some (.ref t) ∧ SqT K H1 t xs ∧ R (Itt K t) H1
theorem pi_own {C f : Addr} {fld : Str} {k : Nat} {e : Expr} {te : TE} (O : OwnIt X.K X.mg C f fld) (hr : Room k X.A) (he : PE X e te) : PI X tg e (iOwn X.K C fld te) := by
  refine ⟨fun pins s σ H R I h => ?_⟩
  refine thn (he.run pins s σ H _ I h) fun v s1 ⟨x, H1, I1, r1, q1⟩ => ?_
  obtain ⟨a, dx, fs, t, xs, ex, ha, hl, hT, q⟩ := q1
  subst ex
  cases r1
  refine own_iter O hr I1 ha hl hT fun h' tk it hk hit ho => ?_
  have I2 : Inv X pins σ H1 { s1 with heap := h', toks := tk } := I1.kept (t' := tk) hk
  refine ⟨it, [it], _, _, H1, rfl, I2, turn_tuple t it, ⟨_, ho, rfl, rfl⟩, fun b hb => ?_, q⟩
  have e : b = it := by simpa using hb
  subst e
  exact I1.fpOk hit (I1.hok.fresh hit)
/-- for x in a, a a list or a tuple -/
def iSeqW (K : Frag) (te : TE) : TI := fun σ H R => te σ H fun x H1 => ∃ a xs, x = .ref a ∧ SqA K H1 a xs ∧ ∀ (J : It) (G : Hp → Prop), (∀ H', Same H1 H' → G H') → Walk J xs.length G (YAt xs) → R J H1
theorem pi_seqW {l : Expr} {tl : TE} (hl : PE X l tl) : PI X tg l (iSeqW X.K tl) := by
  refine ⟨fun pins s σ H R I h => ?_⟩
  refine thn (hl.run pins s σ H _ I h) fun v s1 ⟨x, H1, I1, r1, q1⟩ => ?_
  obtain ⟨a, xs, e, hq, q⟩ := q1
  subst e
  cases r1
  rcases hq with hq | hq
  · obtain ⟨its, rv, p, hz⟩ := I1.list hq
    refine wpAny_pyIter_list p.isList ?_
    refine ⟨s1.heap.objs.size, [s1.heap.objs.size], _, _, H1, rfl, I1.kept (t' := s1.toks) fun b o e => Heap.get?_push_of_some _ e, turn_list a _, ⟨_, Heap.get?_push_size _ rfl, rfl, rfl⟩, fun b hb => ?_, q _ _ (fun _ sm => sm.seq hq) walk_list⟩
    have e : b = s1.heap.objs.size := by simpa using hb
    subst e
    exact I1.fpOk (Nat.le_refl _) (I1.hok.fresh (Nat.le_refl _))
  · obtain ⟨its, rv, p, hz⟩ := I1.tuple hq
    refine wpAny_pyIter_tuple (show s1.heap.IsTuple a its.toArray from p) ?_
    refine ⟨s1.heap.objs.size, [s1.heap.objs.size], _, _, H1, rfl, I1.kept (t' := s1.toks) fun b o e => Heap.get?_push_of_some _ e, turn_tuple a _, ⟨_, Heap.get?_push_size _ rfl, rfl, rfl⟩, fun b hb => ?_, q _ _ (fun _ sm => sm.seqT hq) walk_tup⟩
    have e : b = s1.heap.objs.size := by simpa using hb
    subst e
    exact I1.fpOk (Nat.le_refl _) (I1.hok.fresh (Nat.le_refl _))
end
end L2

set_option maxRecDepth 100000
set_option maxHeartbeats 4000000
/-! # A def that keeps its promise, in one word; calls of it -/
namespace L2
open PySem PySem.Spec PyProof.Rows
structure Ok (P : Program) (w : World) (K : PySem.W.Frag) (mg : Str → Option Value) (base : Heap) (CX : CXT) (k : Nat) (f : Addr) (ps : List Str) (sp : Sp) : Prop where
  ex : ∃ fd, FnOk P w K mg base CX k f fd ps sp ∧ Binds K fd ps [] ∧ PySem.W.keepIn K (.ref f) = true
section
variable {P : Program} {w : World} {K : PySem.W.Frag} {mg : Str → Option Value} {base : Heap} {CX : CXT} {k j : Nat} {f : Addr} {ps : List Str} {sp sp' : Sp}
theorem Ok.mono (O : Ok P w K mg base CX k f ps sp) (h : k ≤ j) : Ok P w K mg base CX j f ps sp := let ⟨fd, a, b, c⟩ := O.ex; ⟨fd, a.mono h, b, c⟩
theorem Ok.imp (O : Ok P w K mg base CX k f ps sp) (h : ∀ vs H Q E, sp' vs H Q E → sp vs H Q E) : Ok P w K mg base CX k f ps sp' := let ⟨fd, a, b, c⟩ := O.ex; ⟨fd, a.imp h, b, c⟩
/-- the proof of a def: its names' number, then its body -/
theorem Ok.of {x qual : Str} {params : Arguments} {body : List Stmt} {scope : Scope} {N : List Str} (n : Nat) (hf : ∃ fd, FunD K x qual params body scope [] [] f fd) (S : FnScope N ps scope) (hb : ∀ {fd : FuncData}, FunD K x qual params body scope [] [] f fd → Binds K fd ps []) (hk : n + 1 ≤ k)
    (len : ∀ vs H Q E, sp vs H Q E → vs.length = ps.length)
    (hbody : ∀ (cdv : Value) (A : Around) (outer : List Env) (s : Shared) (H : Hp) (vs : List V) (Q : VK) (E : XK), Room n (A.deeper (envOfC qual scope s.heap.objs.size f cdv)) → sp vs H Q E →
      ∃ t, PSs (cxOf CX P w K mg base N qual scope f cdv A outer s H E) body t ∧ t { nx := fun _ H' => Q .non H', rt := Q } (start N vs) H) : Ok P w K mg base CX k f ps sp := by
  obtain ⟨fd, F⟩ := hf
  exact ⟨fd, (F.ok S len hbody).mono hk, hb F, F.kp⟩
end
section
variable {X : Cx} {CX : CXT} {k : Nat} {f C : Addr} {ps : List Str} {sp : Sp} {E : XK} {x m : Str} {p pos apos : Pos} {e o : Expr} {es : List Expr} {ta : TE} {t : TA}
theorem pc (O : Ok X.prog X.w X.K X.mg X.base CX k f ps sp) (hr : Room k X.A) (hm : X.mg x = some (.ref f)) (hx : Passes CX X E) (ha : PA X (e :: es) t) (hg : Gl X x := by rfl) (hdb : (x == ("__debug__" : Str)) = false := by decide)
    (he : starEach (e :: es) X.env = (false, eval e X.env) :: starEach es X.env := by rfl) (hpl : (backTo pos (starEach es X.env)).any (·.1) = false := by rfl) :
    PE X (.Call (.Name x p) (e :: es) [] pos) (tCall sp [] E t) := let ⟨fd, a, b, c⟩ := O.ex; pe_call a hr hg hm c b .nil hx ha hdb he hpl
theorem pc0 (O : Ok X.prog X.w X.K X.mg X.base CX k f ps sp) (hr : Room k X.A) (hm : X.mg x = some (.ref f)) (hx : Passes CX X E) (hg : Gl X x := by rfl) (hdb : (x == ("__debug__" : Str)) = false := by decide) :
    PE X (.Call (.Name x p) [] [] pos) (tCall sp [] E tNil) := let ⟨fd, a, b, c⟩ := O.ex; pe_call0 a hr hg hm c b .nil hx hdb
theorem pmk (O : Ok X.prog X.w X.K X.mg X.base CX k f ps sp) (M : Mk X.K C f) (hr : Room (k + 1) X.A) (hm : X.mg x = some (.ref C)) (hx : Passes CX X E) (ha : PA X (e :: es) t) (hg : Gl X x := by rfl) (hdb : (x == ("__debug__" : Str)) = false := by decide)
    (he : starEach (e :: es) X.env = (false, eval e X.env) :: starEach es X.env := by rfl) (hpl : (backTo pos (starEach es X.env)).any (·.1) = false := by rfl) :
    PE X (.Call (.Name x p) (e :: es) [] pos) (tMake C sp [] E t) := let ⟨fd, a, b, c⟩ := O.ex; pe_make M a hr hg hm b .nil hx ha hdb he hpl
theorem pmeth {pl : Sem Bool} (O : Ok X.prog X.w X.K X.mg X.base CX k f ps sp) (he : PE X o ta) (c : Cls X.K C) (hm : Meth X.K C m f) (hr : Room k X.A) (hx : Passes CX X E) (ha : PA X (e :: es) t)
    (hst : starEach (e :: es) X.env = (false, eval e X.env) :: starEach es X.env := by rfl) (hpl : (backTo pos (starEach es X.env)).any (·.1) = false := by rfl)
    (ht : eval (.Call (.Attribute o m apos) (e :: es) [] pos) X.env = (do
      let ov ← eval o X.env
      standAt apos.atName
      let (f, first) ← holding [ov] (getMethod ov m pl)
      callWith pos f first (backTo pos (starEach (e :: es) X.env)) (backToKw pos (keywordEach [] X.env))) := by rfl) :
    PE X (.Call (.Attribute o m apos) (e :: es) [] pos) (tMeth C m sp [] E ta t) := let ⟨fd, a, b, d⟩ := O.ex; pe_meth (pl := pl) he c hm a hr b .nil hx ha hst hpl ht
theorem pmeth0 {pl : Sem Bool} (O : Ok X.prog X.w X.K X.mg X.base CX k f ps sp) (he : PE X o ta) (c : Cls X.K C) (hm : Meth X.K C m f) (hr : Room k X.A) (hx : Passes CX X E)
    (ht : eval (.Call (.Attribute o m apos) [] [] pos) X.env = (do
      let ov ← eval o X.env
      standAt apos.atName
      let (f, first) ← holding [ov] (getMethod ov m pl)
      callWith pos f first (backTo pos (starEach [] X.env)) (backToKw pos (keywordEach [] X.env))) := by rfl) :
    PE X (.Call (.Attribute o m apos) [] [] pos) (tMeth C m sp [] E ta tNil) := let ⟨fd, a, b, d⟩ := O.ex; pe_meth0 (pl := pl) he c hm a hr b .nil hx ht
/-- a class or a def of the module by its name -/
theorem pgC (hm : X.mg x = some (.ref C)) (hg : Gl X x := by rfl) (hdb : (x == ("__debug__" : Str)) = false := by decide) : PE X (.Name x p) (tC (.ref C)) := pe_glob (v := .ref C) hg hm rfl hdb
theorem oOwn {op : Operator} (O : Ok X.prog X.w X.K X.mg X.base CX k f ps sp) (W : OwnOp X.K C op f) (hr : Room k X.A) (hx : Passes CX X E) : OpR X (binaryOp op) (rOwnOp C sp E) := let ⟨fd, a, b, c⟩ := O.ex; op_own W a b hr hx
theorem oOwnI {op : Operator} (O : Ok X.prog X.w X.K X.mg X.base CX k f ps sp) (W : OwnOpT X.K C op f "int") (hr : Room k X.A) (hx : Passes CX X E) : OpR X (binaryOp op) (rOwnOpI C sp E) := let ⟨fd, a, b, c⟩ := O.ex; op_ownI W a b hr hx
theorem oOwnR (O : Ok X.prog X.w X.K X.mg X.base CX k f ps sp) (W : OwnR X.K C .Mult f) (hr : Room k X.A) (hx : Passes CX X E) : OpR X (binaryOp .Mult) (rOwnR C sp E) := let ⟨fd, a, b, c⟩ := O.ex; op_ownR W a b hr hx
theorem uOwn (O : Ok X.prog X.w X.K X.mg X.base CX k f ps sp) (W : PySem.W.findIn X.K (.ref C) "__neg__" = some (some (.ref f)) ∧ PySem.W.isFn X.K (.ref f) = true) (hr : Room k X.A) (hx : Passes CX X E) : UnR X (unaryOp .USub) (rOwnNeg C sp E) := let ⟨fd, a, b, c⟩ := O.ex; un_own W.1 W.2 a b hr hx
theorem cAbs (O : Ok X.prog X.w X.K X.mg X.base CX k f ps sp) (W : PySem.W.findIn X.K (.ref C) "__abs__" = some (some (.ref f)) ∧ PySem.W.isFn X.K (.ref f) = true) (hr : Room (k + 1) X.A) (hx : Passes CX X E) : CallR X (.builtin "abs") (rOwnAbs C sp E) := let ⟨fd, a, b, c⟩ := O.ex; call_ownAbs W.1 W.2 a b hr hx
end
/-- a def that may raise: what its callees let out goes on -/
theorem px {X : Cx} {E : XK} {E₁ : Value → Shared → Prop} (hs : X.stack = X.env :: X.outer := by rfl) (hf : X.env.frame = some X.env.locals := by rfl) (hex : X.ex = [] := by rfl)
    (hx : X.xe = fun e s' => wpAny (model X.prog X.w) X.A (leaving X.env e) (fun _ s'' => CX X.prog X.w X.outer X.H_0 X.s_0 E e s'') E₁ s' := by rfl) : Passes (CX X.prog X.w) X E :=
  passes_call (takes_of hs hf hex hx) fun _ _ _ _ h => h
end L2

set_option maxRecDepth 100000
set_option maxHeartbeats 4000000
/-! # try with several clauses, each with or without a name -/
namespace L2
open PySem PySem.Spec PyProof.Rows
abbrev Cls3 : Type := Value × Option Nat × (Addr → Value → Option Addr → TS)
/-- the ends behind a suite whose name is slot i: it is gone -/
def Ends.gone (D : Ends) (i : Nat) : Ends := { nx := fun σ' H' => D.nx (σ'.set i none) H', rt := D.rt, bk := fun σ' H' => D.bk (σ'.set i none) H', ct := fun σ' H' => D.ct (σ'.set i none) H' }
def wAny (K : PySem.W.Frag) (Wo : WX) (D : Ends) : List Cls3 → WX
  | [] => Wo
  | (c, none, ts) :: r => fun cls d σ H => ∃ b, PySem.W.exmOne K cls c = some b ∧ (b = true → ∀ a, H a = none → ts a cls d D σ H) ∧ (b = false → wAny K Wo D r cls d σ H)
  | (c, some i, ts) :: r => fun cls d σ H => ∃ b, PySem.W.exmOne K cls c = some b ∧ (b = true → ∀ a, H a = none → ts a cls d (D.gone i) (σ.set i (some (.ref a))) H) ∧ (b = false → wAny K Wo D r cls d σ H)
inductive HdA (X : Cx) : List ExceptHandler → List Cls3 → Prop
  | nil : HdA X [] []
  | cons {x : Str} {c : Value} {ts : Addr → Value → Option Addr → TS} {b₀ : Stmt} {su : List Stmt} {np p2 : Pos} {hds : List ExceptHandler} {l : List Cls3} (hc : Names X x c)
      (hsu : ∀ (a : Addr) (oe : Obj) (cls : Value) (d : Option Addr) (pn : List (Addr × Obj)), Zc cls d oe → (∃ vs, oe.data = .fields vs) → PSs (X.suite a ((a, oe) :: pn)) (b₀ :: su) (ts a cls d)) (r : HdA X hds l) :
      HdA X (.ExceptHandler (some (.Name x np)) none (b₀ :: su) p2 :: hds) ((c, none, ts) :: l)
  | as {x n : Str} {i : Nat} {c : Value} {ts : Addr → Value → Option Addr → TS} {b₀ : Stmt} {su : List Stmt} {np p2 : Pos} {hds : List ExceptHandler} {l : List Cls3} (hc : Names X x c) (hi : X.N[i]? = some n) (hln : X.env.kindOf n = some .local)
      (hsu : ∀ (a : Addr) (oe : Obj) (cls : Value) (d : Option Addr) (pn : List (Addr × Obj)), Zc cls d oe → (∃ vs, oe.data = .fields vs) → PSs (X.suite a ((a, oe) :: pn)) (b₀ :: su) (ts a cls d)) (r : HdA X hds l) :
      HdA X (.ExceptHandler (some (.Name x np)) (some n) (b₀ :: su) p2 :: hds) ((c, some i, ts) :: l)
section
variable {X : Cx} {body : List Stmt} {h₀ : ExceptHandler} {hds : List ExceptHandler} {l : List Cls3} {pos : Pos} {tb : WX → TS} {Wo : WX}
theorem ps_try_any (hs : X.stack = X.env :: X.outer) (hf : X.env.frame = some X.env.locals) (hN : X.N.Nodup) (tk : Takes X Wo)
    (hb : ∀ (W : WX) (pn : List (Addr × Obj)) (xe : Value → Shared → Prop), Takes (X.tr pn xe) W → PassesOwn (model X.prog X.w) X.A X.env xe → PSs (X.tr pn xe) body (tb W))
    (hh : HdA X (h₀ :: hds) l) : PS X (.Try body (h₀ :: hds) [] [] pos) (fun D σ H => tb (wAny X.K Wo D l) D σ H) := by
  refine ⟨fun pins s σ H D I h => ?_⟩
  have ok := I.ok
  have hfr : X.A.frames = some (X.env :: X.outer) := by rw [ok.frames, hs]
  refine wpAny_Try_except ?_
  refine wpAny_mono ((hb (wAny X.K Wo D l) (X.pn ++ pins) (fun e s₁ => wpAny (model X.prog X.w) X.A (noteFrame e X.env) (fun _ s₂ => wpAny (model X.prog X.w) X.A (setFlight e none) (fun _ s₃ =>
    wpAny (model X.prog X.w) X.A (handleBy e X.env (h₀ :: hds)) (SP X pins D) X.xe s₃) X.xe s₂) X.xe s₁) (fun u s' xx => ?_) PassesOwn.looking).run [] s σ H D (I.toTry _) h) (fun f s1 hsp => ?_) (fun e s1 he => he)
  · obtain ⟨a, B, sI, pins', σ', H', cls, d, rfl, J', nb, up, sky, na, os, ag, w⟩ := xx
    have J : Inv X pins σ' H' sI := J'.ofTry ok
    have sk2 : Sky B (X.env :: X.outer) a (Zc cls d) X.env.locals s'.heap := by rw [← hs]; exact sky
    show wpAny (model X.prog X.w) X.A (noteFrame (.ref a) X.env) _ _ _
    refine Sky.land Zc.steady hfr hf sk2 fun h3 fl3 up3 => ?_
    have J3 : Inv X pins σ' H' { s' with heap := h3 } := J.landed nb fl3.1 (up.trans up3) os ag
    obtain ⟨oe3, vs3, he3, hz3, hd3⟩ := fl3.there
    have nfr : a ∉ frs (X.env :: X.outer) := fun hm => by
      obtain ⟨_, o', e', hnf⟩ := fl3.2.2.1.mem hm
      rw [he3] at e'; cases e'
      exact hnf _ hd3
    have nL : a ≠ X.env.locals := fun z => nfr (List.mem_filterMap.mpr ⟨X.env, List.mem_cons_self, by rw [hf, z]⟩)
    have nF : a ∉ X.fs := fun hm => by
      obtain ⟨e, he, q⟩ := List.mem_filterMap.mp hm
      exact nfr (List.mem_filterMap.mpr ⟨e, List.mem_cons_of_mem _ he, q⟩)
    have S3 := J3.suite he3 hd3 na nL nF
    have LT : PySem.W.Looks (model X.prog X.w) h3 (typeOf (.ref a)) cls := fun A Q E s k q => wpAny_typeOf_ref (k _ _ he3) (by rw [hz3.1]; exact q)
    have test : ∀ {x : Str} {np : Pos} {c : Value} {Q : Value → Shared → Prop} {E : Value → Shared → Prop}, Names X x c → Q c { s' with heap := h3 } → wpAny (model X.prog X.w) (X.A.mark (some (.ref a))) (eval (.Name x np) X.env) Q E { s' with heap := h3 } := fun {x np c Q E} hc q => by
      obtain ⟨hg, hdbg, hm | ⟨hm, hv, hnn⟩⟩ := hc
      · exact ld_glob (X := X.suite a ((a, oe3) :: (X.pn ++ pins))) S3 hg hm q hdbg
      · exact ld_blt (X := X.suite a ((a, oe3) :: (X.pn ++ pins))) S3 hg hm hv q hnn hdbg
    have go : ∀ {hds' : List ExceptHandler} {l' : List Cls3}, HdA X hds' l' → wAny X.K Wo D l' cls d σ' H' →
        wpAny (model X.prog X.w) X.A (handleBy (.ref a) X.env hds') (SP X pins D) X.xe { s' with heap := h3 } := by
      intro hds' l' hk
      induction hk with
      | nil =>
        intro w
        refine wpAny_handleBy_nil ?_
        obtain ⟨k1, k2, k3, oe, vs, T, oT, ts', he, hz, hd, h1, hr⟩ := id fl3
        unfold PySem.passOn
        refine wpAny_bind (wpAny_field he hd h1 ?_)
        rw [if_neg (show ¬ ((Value.ref T == Value.none) = true) from by simp)]
        have fin : wpAny (model X.prog X.w) X.A (setFlight (.ref a) X.env.frame) (fun _ s4 => wpAny (model X.prog X.w) X.A (throw (.ref a) : Sem Flow) (SP X pins D) X.xe s4) X.xe { s' with heap := h3 } := by
          rw [hf]
          refine HandSPX.setFlight_upZ fl3 fun h4 hh4 up4 => wpAny_throw (tk _ _ ?_)
          exact ⟨a, B, sI, pins, σ', H', cls, d, rfl, J, nb, (up.trans up3).trans up4, .inr (.inr (by rw [hs]; exact hh4)), na, os, ag, w⟩
        first
          | exact wpAny_bind (wpAny_pure (wpAny_bind fin))
          | exact wpAny_bind fin
      | @cons x c ts b₀ suite np pos' hds2 l2 hc hsu r ih =>
        intro w
        obtain ⟨b, hb1, hyes, hno⟩ := w
        refine wpAny_handleBy_cons (codeAny_handlers_test ?_) (by intro q; cases q)
        refine test hc ((PySem.W.exm_one (M := model X.prog X.w) (J3.kIn) LT hb1).here ?_)
        cases b with
        | true =>
          refine codeAny_handlers_suite ?_
          refine HandSPX.lands_againZ fl3 fun h4 fl4 up4 => ?_
          have J4 : Inv X pins σ' H' { s' with heap := h4 } := J.landed nb fl4.1 ((up.trans up3).trans up4) os ag
          obtain ⟨oe4, vs4, he4, hz4, hd4⟩ := fl4.there
          have S4 := J4.suite he4 hd4 na nL nF
          refine wpAny_mono ((hsu a oe4 cls d (X.pn ++ pins) hz4 ⟨_, hd4⟩).run [] _ _ H' _ S4 (hyes rfl a na)) (fun f s6 hsp => ?_) (fun _ _ z => False.elim z)
          cases f with
          | next => obtain ⟨σ6, H6, S6, q6⟩ := hsp; exact ⟨_, _, S6.unsuite ok, q6⟩
          | brk => obtain ⟨σ6, H6, S6, q6⟩ := hsp; exact ⟨_, _, S6.unsuite ok, q6⟩
          | cont => obtain ⟨σ6, H6, S6, q6⟩ := hsp; exact ⟨_, _, S6.unsuite ok, q6⟩
          | ret u => obtain ⟨v6, σ6, H6, S6, r6, q6⟩ := hsp; exact ⟨_, _, _, S6.unsuite ok, r6, q6⟩
        | false =>
          show wpAny _ X.A (handleBy (.ref a) X.env hds2) _ _ _
          exact ih (hno rfl)
      | @as x n i c ts b₀ suite np pos' hds2 l2 hc hi hln hsu r ih =>
        intro w
        obtain ⟨b, hb1, hyes, hno⟩ := w
        refine wpAny_handleBy_cons (codeAny_handlers_test ?_) (by intro q; cases q)
        refine test hc ((PySem.W.exm_one (M := model X.prog X.w) (J3.kIn) LT hb1).here ?_)
        cases b with
        | true =>
          refine codeAny_handlers_suite_as ?_
          refine HandSPX.lands_againZ fl3 fun h4 fl4 up4 => ?_
          have J4 : Inv X pins σ' H' { s' with heap := h4 } := J.landed nb fl4.1 ((up.trans up3).trans up4) os ag
          obtain ⟨oe4, vs4, he4, hz4, hd4⟩ := fl4.there
          have S4 := J4.suite he4 hd4 na nL nF
          refine store_ok (X := X.suite a ((a, oe4) :: (X.pn ++ pins))) (v := .ref a) S4 hN hi (.inl hln) rfl (fun s5 S5 => ?_) (.inr hln)
          refine wpAny_mono ((hsu a oe4 cls d (X.pn ++ pins) hz4 ⟨_, hd4⟩).run [] s5 _ H' _ S5 (hyes rfl a na)) (fun f s6 hsp => ?_) (fun _ _ z => False.elim z)
          have end_ : ∀ {σ6 : St} {H6 : Hp} {Q : Shared → Prop}, Inv (X.suite a ((a, oe4) :: (X.pn ++ pins))) [] σ6 H6 s6 → (∀ s7, Inv X pins (σ6.set i none) H6 s7 → Q s7) →
              wpAny (model X.prog X.w) X.A (do bindName X.env n .none; unbindBehindTheSuite X.env n pos') (fun _ s7 => Q s7) X.xe s6 := fun {σ6 H6 Q} S6 hq => gone_ok (S6.unsuite ok) hN hi hln hq
          cases f with
          | next => obtain ⟨σ6, H6, S6, q6⟩ := hsp; exact end_ S6 fun s7 J7 => ⟨_, _, J7, q6⟩
          | brk => obtain ⟨σ6, H6, S6, q6⟩ := hsp; exact end_ S6 fun s7 J7 => ⟨_, _, J7, q6⟩
          | cont => obtain ⟨σ6, H6, S6, q6⟩ := hsp; exact end_ S6 fun s7 J7 => ⟨_, _, J7, q6⟩
          | ret u => obtain ⟨v6, σ6, H6, S6, r6, q6⟩ := hsp; exact end_ S6 fun s7 J7 => ⟨_, _, _, J7, r6, q6⟩
        | false =>
          show wpAny _ X.A (handleBy (.ref a) X.env hds2) _ _ _
          exact ih (hno rfl)
    exact go hh w
  · cases f with
    | next => obtain ⟨σ', H', J', q⟩ := hsp; exact wpAny_execs_nil ⟨σ', H', J'.ofTry ok, q⟩
    | brk => obtain ⟨σ', H', J', q⟩ := hsp; exact ⟨σ', H', J'.ofTry ok, q⟩
    | cont => obtain ⟨σ', H', J', q⟩ := hsp; exact ⟨σ', H', J'.ofTry ok, q⟩
    | ret u => obtain ⟨v, σ', H', J', r, q⟩ := hsp; exact ⟨v, σ', H', J'.ofTry ok, r, q⟩
end
end L2

set_option maxRecDepth 100000
set_option maxHeartbeats 4000000
/-! # isinstance(e, C) in a suite, e an error with a dict -/
namespace EI
open PySem PySem.W PySem.Spec PySem.Calls PyProof.Rows
theorem cls_of_exc {prog : Program} {w : World} {A : Around} {E : Value → Shared → Prop} {s : Shared} {K : Frag} {x D : Addr} {ox od : Obj} {Q : Option Value → Shared → Prop} (C : L2.ExcC K D) (X : K.In s.heap) (I : InstAt s.heap x ox D (some od)) (h : Q (some (.ref D)) { s with toks := s.toks + 1 }) :
    wpAny (model prog w) A (getAttr? (.ref x) "__class__") Q E s := by
  have hf : findObj K D (some od) "__class__" = some (.bind (.builtin "getset_descriptor.__get__") (.builtin "object.__class__")) := findObj_data (by obtain ⟨cd, hc, _⟩ := any_some C.hd; rw [hc]; rfl) C.ha C.hn C.ht
  obtain ⟨hp, g, d, t, os⟩ := s
  have L0 := I.type (M := model prog w)
  have L1 := looks_findIn (M := model prog w) X C.hg
  have L2 := looks_findIn (M := model prog w) X C.hk
  have L3 := looks_find (M := model prog w) X I hf
  have sub : Looks (model prog w) hp (isInstance (.ref x) (.type "BaseException")) true := L0.andThen (looks_subIn X C.hs)
  have n2 : (Value.builtin "BaseException.__getattribute__" == Value.builtin "object.__getattribute__") = false := by decide +kernel
  have n1 : (onTheHeap (Value.ref D) && Value.builtin "BaseException.__getattribute__" == Value.builtin "object.__getattribute__") = false := by rw [n2]; rfl
  unfold getAttr? getAttrBy? getAttrBy
  refine wpAny_bind (wpAny_mkText (wpAny_bind (wpAny_attempt (wpAny_holding (wpAny_bind (L0.at (wpAny_bind (L1.at (by
    show wpAny _ _ (if (onTheHeap (Value.ref D) && Value.builtin "BaseException.__getattribute__" == Value.builtin "object.__getattribute__") = true then _ else _) _ _ _
    rw [n1, if_neg Bool.false_ne_true]
    unfold getAttrByItsOwn hookBefore
    refine wpAny_bind ?_
    rw [if_pos (show onTheHeap (Value.ref D) = true from rfl)]
    refine L2.at (wpAny_bind (wpAny_attempt (wpAny_holding ?_)))
    unfold callGetattribute
    rw [show (false && onTheHeap (Value.builtin "BaseException.__getattribute__")) = false from rfl, if_neg Bool.false_ne_true]
    unfold boundAndCalled
    rw [PySem.F.excAttr_ValueError.ga.bind (.ref x)]
    refine wpAny_bind (wpAny_pure ?_)
    show wpAny _ _ (call (.builtin "BaseException.__getattribute__") [.ref x, .str "__class__" t]) _ _ _
    refine wpAny_call (codeAny_call_builtin PySem.F.excAttr_ValueError.ga.plain PySem.F.entry_bexc_ga (@check_slot (model prog w) _ _ ⟨hp, g, d, t + 1, os⟩ "BaseException.__getattribute__" "BaseException" "__getattribute__" (.ref x) [.str "__class__" t] [] _ (by decide +kernel) (by decide +kernel) sub (PySem.F.args_bexc_ga (.ref x) (.str "__class__" t)) ?_))
    unfold Builtin.«object.__getattribute__»
    refine wpAny_bind (wpAny_of_eq (a := ((Value.ref x : Value), [Value.str "__class__" t])) (by first | rfl | (simp only [slotArgs]; rfl)) ?_)
    refine wpAny_bind (wpAny_pure (wpAny_bind (L0.at (wpAny_bind (L3.at ?_)))))
    show wpAny _ _ (holding [Value.builtin "object.__class__"] (call (.builtin "getset_descriptor.__get__") [.builtin "object.__class__", .ref x, .ref D]) >>= ret) _ _ _
    refine wpAny_bind (wpAny_holding (wpAny_call (class_get (s := ⟨hp, g, d, t + 1, os⟩) (ox := ox) (od := some od) X I C.hm ?_)))
    refine wpAny_pure ?_
    show wpAny _ _ (handedOut (.ref D)) _ _ _
    rw [handedOut_of (v := .ref D) rfl]
    first
      | exact wpAny_pure (wpAny_pure h)
      | exact wpAny_pure h
      | exact wpAny_pure (wpAny_bind (wpAny_pure (wpAny_pure h))))))))))))
theorem kit_exc {K : Frag} {x D : Addr} {ox od : Obj} (C : L2.ExcC K D) : KitX K (.ref x) (.ref D) (fun h => InstAt h x ox D (some od)) where
  ty := fun _ _ _ I => I.type
  it := fun _ _ X _ => by
    obtain ⟨cdD, hcD, _⟩ := any_some C.hd
    unfold clsIn at hcD
    split at hcD
    · rename_i c' d' cd' sl' ho
      intro A' Q' E' s' k q
      unfold isType loadHead
      exact wpAny_bind (wpAny_loadPart (k _ _ (X _ _ ho)) (wpAny_pure q))
    · cases hcD
  ne := fun h tp dd its n sl X htp => by
    obtain ⟨cdD, hcD, _⟩ := any_some C.hd
    refine Bool.eq_false_iff.mpr fun q => ?_
    have e : D = tp := Value.ref.inj (beq_iff_eq.mp q)
    subst e
    unfold clsIn at hcD
    split at hcD
    · rename_i c' d' cd' sl' ho
      cases (X _ _ ho).symm.trans htp
    · cases hcD
  ca := fun X I k => cls_of_exc C X I k
end EI
namespace L2
open PySem PySem.Spec PyProof.Rows
/-- isinstance(e, c), e the suite's error, with a dict -/
def rIsD (K : PySem.W.Frag) (D a : Addr) (d : Option Addr) : List V → Hp → VK → Prop := fun xs H Q => ∃ (c : V) (cv : Value) (b : Bool) (dd : Addr) (fs : List (Str × V)), xs = [.ref a, c] ∧ (∀ u, RelV c u → u = cv) ∧ d = some dd ∧ H dd = some (.xd fs) ∧ PySem.W.kitOne K (.ref D) cv = some b ∧ Q (.bl b) H
theorem call_isD {X : Cx} {a D : Addr} {d : Option Addr} {oe : Obj} {pn : List (Addr × Obj)} {cls : Value} (C : ExcC X.K D) (hz : Zc cls d oe) (hf : ∃ vs, oe.data = .fields vs) :
    CallR (X.suite a ((a, oe) :: pn)) (.builtin "isinstance") (fun xs H Q => cls = .ref D ∧ rIsD X.K D a d xs H Q) := by
  intro pins s σ H xs us Q I r h
  obtain ⟨rfl, c, cv, b, dd, fs, rfl, hcv, rfl, ea, e, q⟩ := h
  cases r with
  | cons rx rr =>
  cases rr with
  | cons rt rr =>
  cases rr
  cases rx
  have ec := hcv _ rt
  subst ec
  obtain ⟨hget, _⟩ := I.pin (a, oe) (List.mem_append.mpr (.inl List.mem_cons_self))
  obtain ⟨vs, hv⟩ := hf
  obtain ⟨mA, hns, hr⟩ := (show ObjOk X.prog X.w H s.heap dd (.xd fs) from I.hok dd _ ea)
  obtain ⟨od, ho, _⟩ := lookIn_ns hns
  have J : PySem.W.InstAt s.heap a oe D (some od) := ⟨hget, hz.1, by unfold PySem.W.notCls; rw [hv] <;> rfl, by rw [hz.2]; exact ho⟩
  exact PySem.W.kia_one (EI.kit_exc C) I.kIn J e (fun z => nomatch z) fun tk => ⟨.bl b, H, I.kept (t' := tk) fun _ _ z => z, rfl, q⟩
end L2

set_option maxRecDepth 100000
set_option maxHeartbeats 4000000
namespace EF
open PySem PySem.W PySem.Calls PyProof.Rows He He5 HX
def clsB (K : Frag) (D : Addr) : Bool := eqO (findIn K (.ref D) "__class__") (some (some (.builtin "object.__class__"))) && (eqO (specialIn K (.builtin "object.__class__") "__get__") (some (some (.builtin "getset_descriptor.__get__"))) && (decide (takesIn K (.builtin "object.__class__") = some true) && decide (mroIn K D (.type "object") = some true)))
structure ClsT (K : Frag) (D : Addr) : Prop where
  ha : findIn K (.ref D) "__class__" = some (some (.builtin "object.__class__"))
  hn : specialIn K (.builtin "object.__class__") "__get__" = some (some (.builtin "getset_descriptor.__get__"))
  ht : takesIn K (.builtin "object.__class__") = some true
  hm : mroIn K D (.type "object") = some true
theorem cls_ok {K : Frag} {D : Addr} (h : clsB K D = true) : ClsT K D := by
  obtain ⟨h1, h⟩ := ba h
  obtain ⟨h2, h⟩ := ba h
  obtain ⟨h3, h4⟩ := ba h
  exact ⟨eqO_ok h1, eqO_ok h2, of_decide_eq_true h3, of_decide_eq_true h4⟩
/-- an error's class: its fields are read, isinstance asks it -/
def excB (K : Frag) (D : Addr) : Bool := L2.xfB K D && clsB K D
theorem exc_ok {K : Frag} {D : Addr} (h : excB K D = true) : L2.XfC K D ∧ L2.ExcC K D := by
  obtain ⟨h1, h2⟩ := ba h
  have x := L2.xfB_ok h1
  have c := cls_ok h2
  exact ⟨x, x.ga, x.gg, x.exC, x.hdC, c.ha, c.hn, c.ht, c.hm⟩
end EF

set_option maxRecDepth 100000
set_option maxHeartbeats 4000000
/-! # A classmethod with *numbers and a keyword: C.m(a, .., k = v) -/
namespace L2
open PySem PySem.Spec PyProof.Rows
abbrev SpS : Type := List V → List V → Hp → VK → XK → Prop
def FnS (P : Program) (w : World) (K : PySem.W.Frag) (mg : Str → Option Value) (base : Heap) (CX : CXT) (k : Nat) (f : Addr) (ks : List Str) (sp : SpS) : Prop :=
  ∀ (A : Around) (outer : List Env) (s : Shared) (H : Hp) (us ws : List Value) (vs zs : List V) (Q : VK) (E : XK), Room k A → Env0 P w K mg base A outer s H → Vals vs us → Vals zs ws → sp vs zs H Q E →
    codeAny (model P w) A (.call (.ref f) ⟨us, ks.zip ws⟩) (CR CX outer P w H s Q E) s
section
variable {X : Cx} {CX : CXT} {k : Nat} {C p g : Addr} {mc : Value} {sp : SpS} {E : XK} {o e : Expr} {es : List Expr} {kws : List Keyword} {ks : List Str} {f m : Str} {pos apos : Pos} {ta : TE} {t tk : TA} {pl : Sem Bool}
theorem run_cms {pins : List (Addr × Obj)} {σ : L2.St} {H : Hp} {s : Shared} {q : Addr} {Q : VK} {us ws : List Value} {vs zs : List V} (F : FnS X.prog X.w X.K X.mg X.base CX k g ks sp) (hr : Room k X.A) (hx : Passes CX X E) (I : Inv X ((q, PySem.W.methodObj (.ref g) (.ref C)) :: pins) σ H s)
    (r : Vals vs us) (rz : Vals zs ws) (h : sp (.ref C :: vs) zs H Q E) : wpAny (model X.prog X.w) X.A (call (.ref q) us (ks.zip ws)) (EP X pins σ Q) X.xe s := by
  have z : wpAny (model X.prog X.w) X.A (call (.ref q) us (ks.zip ws)) (EP X ((q, PySem.W.methodObj (.ref g) (.ref C)) :: pins) σ Q) X.xe s := by
    refine wpAny_call (PySem.W.method_call (ClX.pin_at I) ?_)
    refine codeAny_mono (F X.A X.stack s H (.ref C :: us) ws (.ref C :: vs) zs Q E hr I.env0 (.cons rfl r) rz h) fun r s' hq => ?_
    cases r with
    | error e => exact hx _ σ H s e s' I hq
    | ok fl =>
      cases fl with
      | ret u => exact I.after hq
      | next => exact False.elim hq
      | brk => exact False.elim hq
      | cont => exact False.elim hq
  exact thn z fun _ _ y => ClX.unpinE y
def tCms (C : Addr) (sp : SpS) (E : XK) (ta : TE) (t tk : TA) : TE := fun σ H Q => ta σ H fun x H1 => x = .ref C ∧ t σ H1 fun vs H2 => tk σ H2 fun zs H3 => sp (.ref C :: vs) zs H3 Q E
theorem pe_cms (he : PE X o ta) (r : ClX.CRead X.K C mc) (c : ClX.CMet X.K C mc m p g) (F : FnS X.prog X.w X.K X.mg X.base CX k g ks sp) (hr : Room k X.A) (hx : Passes CX X E) (ha : PA X (e :: es) t) (hk : PK X kws tk)
    (hst : starEach (e :: es) X.env = (false, eval e X.env) :: starEach es X.env := by rfl) (hall : (backToKw pos (keywordEach kws X.env)).all (·.1.isSome) = true := by rfl) (hks : (backToKw pos (keywordEach kws X.env)).filterMap (·.1) = ks := by rfl)
    (hpl : ((backTo pos (starEach (e :: es) X.env)).any (·.1) || (backToKw pos (keywordEach kws X.env)).any (·.1.isNone)) = false := by rfl)
    (ht : eval (.Call (.Attribute o m apos) (e :: es) kws pos) X.env = (do
      let ov ← eval o X.env
      standAt apos.atName
      let (f, first) ← holding [ov] (getMethod ov m pl)
      callWith pos f first (backTo pos (starEach (e :: es) X.env)) (backToKw pos (keywordEach kws X.env))) := by rfl) :
    PE X (.Call (.Attribute o m apos) (e :: es) kws pos) (tCms C sp E ta t tk) := by
  refine ⟨fun pins s σ H Q I h => ?_⟩
  refine PySem.W.methodCall_KW (pl := pl) (thn (he.run pins s σ H _ I h) fun u s1 ⟨x, H1, I1, rx, ex, q⟩ => ?_) ht
  subst ex
  obtain rfl : u = Value.ref C := rx
  refine ClX.getmethcm_ok I1 r c fun s2 I2 => ?_
  refine PySem.W.callWith_of (P := PySem.W.MethP X.K s1.heap.objs.size g (.ref C)) hpl (PySem.W.keeps_M c.fi) (evalArgs_kw2 hall (thn (ha.run pos _ s2 σ H1 _ I2 q) fun us s3 ⟨vs, H2, I3, rv, q2⟩ => ?_) hst)
  refine thn (hk.run pos _ s3 σ H2 _ I3 q2) fun ws s4 ⟨zs, H3, I4, rz, q3⟩ => ⟨⟨ClX.pin_at I4, I4.kIn⟩, ?_⟩
  rw [hks]
  exact run_cms F hr hx I4 rv rz q3
theorem pe_cms0 (he : PE X o ta) (r : ClX.CRead X.K C mc) (c : ClX.CMet X.K C mc m p g) (F : FnS X.prog X.w X.K X.mg X.base CX k g ks sp) (hr : Room k X.A) (hx : Passes CX X E) (hk : PK X kws tk)
    (hall : (backToKw pos (keywordEach kws X.env)).all (·.1.isSome) = true := by rfl) (hks : (backToKw pos (keywordEach kws X.env)).filterMap (·.1) = ks := by rfl)
    (hpl : ((backTo pos (starEach [] X.env)).any (·.1) || (backToKw pos (keywordEach kws X.env)).any (·.1.isNone)) = false := by rfl)
    (ht : eval (.Call (.Attribute o m apos) [] kws pos) X.env = (do
      let ov ← eval o X.env
      standAt apos.atName
      let (f, first) ← holding [ov] (getMethod ov m pl)
      callWith pos f first (backTo pos (starEach [] X.env)) (backToKw pos (keywordEach kws X.env))) := by rfl) :
    PE X (.Call (.Attribute o m apos) [] kws pos) (tCms C sp E ta tNil tk) := by
  refine ⟨fun pins s σ H Q I h => ?_⟩
  refine PySem.W.methodCall_KW (pl := pl) (thn (he.run pins s σ H _ I h) fun u s1 ⟨x, H1, I1, rx, ex, q⟩ => ?_) ht
  subst ex
  obtain rfl : u = Value.ref C := rx
  refine ClX.getmethcm_ok I1 r c fun s2 I2 => ?_
  refine PySem.W.callWith_of (P := PySem.W.MethP X.K s1.heap.objs.size g (.ref C)) hpl (PySem.W.keeps_M c.fi) (evalArgs_kw2_nil hall ?_)
  refine thn (hk.run pos _ s2 σ H1 _ I2 q) fun ws s4 ⟨zs, H3, I4, rz, q3⟩ => ⟨⟨ClX.pin_at I4, I4.kIn⟩, ?_⟩
  rw [hks]
  exact run_cms (us := []) F hr hx I4 .nil rz q3
end
/-! ### def m(cls, *pv, kx=default) -/
section
variable {P : Program} {w : World} {K : PySem.W.Frag} {mg : Str → Option Value} {base : Heap} {CX : CXT} {k : Nat} {f : Addr} {x qual p1 kx pv : Str} {params : Arguments} {body : List Stmt} {scope : Scope} {N : List Str} {fd : FuncData} {dv : V} {sp : Sp}
theorem fnS_star1 (F : FunD K x qual params body scope [] [(kx, dv)] f fd) (S : FnScope N [p1, kx, pv] scope) (hCX : StX.CXUp CX)
    (hb : ∀ (kV doc pm : Value) (an : Option Addr) (cdv ct : Value) (c v : Value) (rest : List Value), bindArgs (PySem.W.fnOf x qual params body scope .none kV doc pm an cdv ct) ⟨c :: rest, [(kx, v)]⟩ = (newTuple rest >>= fun t => pure [(p1, c), (kx, v), (pv, t)]))
    (hbody : ∀ (cdv : Value) (A : Around) (outer : List Env) (s : Shared) (H : Hp) (vs : List V) (Q : VK) (E : XK), Room k (A.deeper (envOfC qual scope s.heap.objs.size f cdv)) → sp vs H Q E →
      ∃ t, PSs (cxOf CX P w K mg base N qual scope f cdv A outer s H E) body t ∧ t { nx := fun _ H' => Q .non H', rt := Q } (start N vs) H) :
    FnS P w K mg base CX (k + 1) f [kx] (fun vs zs H Q E => ∃ c rest v, vs = c :: rest ∧ zs = [v] ∧ rest.length ≤ sizeLine ∧ ∀ p, H p = Option.none → sp [c, v, V.ref p] (upd H p (.tup rest)) Q E) := by
  intro A outer s H us ws vs zs Q E hr e0 r rz hsp
  obtain ⟨c, rest, v, rfl, rfl, hz, hq⟩ := hsp
  obtain ⟨oc, od, dV, kV, doc, pm, an, cdv, ct, osl, rfl, lk, hcd, hD, _⟩ := F.ex
  have e : dV = .none := by
    rcases hD with ⟨_, e⟩ | ⟨e, _⟩
    · exact e
    · exact absurd rfl e
  subst e
  cases r with
  | cons rc rr =>
  rename_i uc ur
  cases rz with
  | cons rv rn =>
  cases rn
  rename_i uv
  have hn : H s.heap.objs.size = Option.none := e0.hok.fresh (Nat.le_refl _)
  have hl2 : ur.length ≤ sizeLine := by rw [← rr.length]; exact hz
  refine StX.run_bnd lk hcd S hr e0 (G := fun xs H2 => ∃ p, H p = Option.none ∧ xs = [c, v, V.ref p] ∧ H2 = upd H p (.tup rest)) (fun A' Ex Q' h => ?_) fun s2 H2 xs ⟨p, hp, ex, eH⟩ hr' => ?_
  · rw [show ([kx].zip [uv] : List (Str × Value)) = [(kx, uv)] from rfl, hb kV doc pm an cdv ct uc uv ur]
    refine wpAny_bind (wpAny_newTuple (wpAny_pure ?_) hl2)
    have new : ObjOk P w (upd H s.heap.objs.size (.tup rest)) (s.heap.push ({ cls := .type "tuple", data := .seq ur.toArray } : Obj)) s.heap.objs.size (.tup rest) := ⟨hz, ur, rr, ⟨_, Heap.get?_push_size _ rfl, rfl, _, rfl⟩⟩
    have un := StX.un_laid (fs := frs outer) (s := s) (o := ({ cls := .type "tuple", data := .seq ur.toArray } : Obj)) (u := .tup rest) hn
    exact h _ _ [c, v, V.ref s.heap.objs.size] [uc, uv, Value.ref s.heap.objs.size] (StX.env0_laid e0 new) un rfl (fun e s' => hCX outer s H _ _ E e s' un (fun b o q => Heap.get?_push_of_some _ q) rfl) (.cons rc (.cons rv (.cons rfl .nil))) rfl ⟨_, hn, rfl, rfl⟩
  · subst ex eH
    exact hbody cdv A outer s2 _ _ Q E hr' (hq p hp)
theorem fnS_star0 (F : FunD K x qual params body scope [] [(kx, dv)] f fd) (S : FnScope N [p1, kx, pv] scope) (hCX : StX.CXUp CX)
    (hb : ∀ (D : Addr) (doc pm : Value) (an : Option Addr) (cdv ct : Value) (c v : Value) (rest : List Value), ∃ (β γ : Type) (k1 : Option Value → Sem β) (k2 : β → Sem γ) (k3 : γ → Sem (List (Str × Value))) (a : β),
      bindArgs (PySem.W.fnOf x qual params body scope .none (.ref D) doc pm an cdv ct) ⟨c :: rest, []⟩ = ((nsGet D kx >>= k1) >>= k2) >>= k3 ∧ k1 (some v) = pure a ∧ (k2 a >>= k3) = (newTuple rest >>= fun t => pure [(p1, c), (kx, v), (pv, t)]))
    (hbody : ∀ (cdv : Value) (A : Around) (outer : List Env) (s : Shared) (H : Hp) (vs : List V) (Q : VK) (E : XK), Room k (A.deeper (envOfC qual scope s.heap.objs.size f cdv)) → sp vs H Q E →
      ∃ t, PSs (cxOf CX P w K mg base N qual scope f cdv A outer s H E) body t ∧ t { nx := fun _ H' => Q .non H', rt := Q } (start N vs) H) :
    FnS P w K mg base CX (k + 1) f [] (fun vs zs H Q E => ∃ c rest, vs = c :: rest ∧ zs = [] ∧ rest.length ≤ sizeLine ∧ ∀ p, H p = Option.none → sp [c, dv, V.ref p] (upd H p (.tup rest)) Q E) := by
  intro A outer s H us ws vs zs Q E hr e0 r rz hsp
  obtain ⟨c, rest, rfl, rfl, hz, hq⟩ := hsp
  obtain ⟨oc, od, dV, kV, doc, pm, an, cdv, ct, osl, rfl, lk, hcd, hD, hK⟩ := F.ex
  have e : dV = .none := by
    rcases hD with ⟨_, e⟩ | ⟨e, _⟩
    · exact e
    · exact absurd rfl e
  subst e
  rcases hK with e | ⟨D, rfl, hq0⟩
  · cases e
  obtain ⟨uv, hns, rv⟩ := hq0 (kx, dv) (List.mem_singleton.mpr rfl)
  cases rz
  cases r with
  | cons rc rr =>
  rename_i uc ur
  have hn : H s.heap.objs.size = Option.none := e0.hok.fresh (Nat.le_refl _)
  have hl2 : ur.length ≤ sizeLine := by rw [← rr.length]; exact hz
  have KX : K.In s.heap := e0.mod.kin.keeps fun b o e => (e0.bs b o e).1
  refine StX.run_bnd lk hcd S hr e0 (G := fun xs H2 => ∃ p, H p = Option.none ∧ xs = [c, dv, V.ref p] ∧ H2 = upd H p (.tup rest)) (fun A' Ex Q' h => ?_) fun s2 H2 xs ⟨p, hp, ex, eH⟩ hr' => ?_
  · obtain ⟨β, γ, k1, k2, k3, a, e1, e2, e3⟩ := hb D doc pm an cdv ct uc uv ur
    rw [show (([] : List Str).zip ([] : List Value)) = [] from rfl, e1, bind_assoc]
    refine wpAny_bind (wpAny_bind ((PySem.W.looks_nsIn KX hns).here ?_))
    rw [e2]
    refine wpAny_pure ?_
    rw [e3]
    refine wpAny_bind (wpAny_newTuple (wpAny_pure ?_) hl2)
    have new : ObjOk P w (upd H s.heap.objs.size (.tup rest)) (s.heap.push ({ cls := .type "tuple", data := .seq ur.toArray } : Obj)) s.heap.objs.size (.tup rest) := ⟨hz, ur, rr, ⟨_, Heap.get?_push_size _ rfl, rfl, _, rfl⟩⟩
    have un := StX.un_laid (fs := frs outer) (s := s) (o := ({ cls := .type "tuple", data := .seq ur.toArray } : Obj)) (u := .tup rest) hn
    exact h _ _ [c, dv, V.ref s.heap.objs.size] [uc, uv, Value.ref s.heap.objs.size] (StX.env0_laid e0 new) un rfl (fun e s' => hCX outer s H _ _ E e s' un (fun b o q => Heap.get?_push_of_some _ q) rfl) (.cons rc (.cons rv (.cons rfl .nil))) rfl ⟨_, hn, rfl, rfl⟩
  · subst ex eH
    exact hbody cdv A outer s2 _ _ Q E hr' (hq p hp)
end
end L2

set_option maxRecDepth 100000
set_option maxHeartbeats 4000000
namespace L2
open PySem PySem.Spec PyProof.Rows
/-- cls(e, ..), cls a local name that holds the class at C -/
def tMakeL (i : Nat) (C : Addr) (sp : Sp) (E : XK) (t : TA) : TE := fun σ H Q => σ[i]? = some (some (.ref C)) ∧ tMake C sp [] E t σ H Q
section
variable {X : Cx} {CX : CXT} {k i : Nat} {f C : Addr} {ps : List Str} {sp : Sp} {E : XK} {x : Str} {p pos : Pos} {e : Expr} {es : List Expr} {t : TA}
theorem pmkL (O : Ok X.prog X.w X.K X.mg X.base CX k f ps sp) (M : Mk X.K C f) (hr : Room (k + 1) X.A) (hN : X.N[i]? = some x) (hv : Vis X.env.scope x) (hx : Passes CX X E) (ha : PA X (e :: es) t) (hdb : (x == ("__debug__" : Str)) = false := by decide)  (hcd : (x == ("__classdict__" : Str)) = false := by decide)
    (he : starEach (e :: es) X.env = (false, eval e X.env) :: starEach es X.env := by rfl) (hpl : (backTo pos (starEach es X.env)).any (·.1) = false := by rfl) :
    PE X (.Call (.Name x p) (e :: es) [] pos) (tMakeL i C sp E t) := by
  obtain ⟨fd, F, hb, _⟩ := O.ex
  refine ⟨fun pins s σ H Q I h => ?_⟩
  obtain ⟨hs, h⟩ := h
  refine wpAny_Call_Name_kw (thn ((pe_var (pos := p) hN hv hdb hcd).run pins s σ H (fun v H1 => v = .ref C ∧ H1 = H) I ⟨.ref C, hs, rfl, rfl⟩) fun u s1 ⟨v, H1, I1, r1, q1⟩ => ?_)
  obtain ⟨rfl, rfl⟩ := q1
  cases r1
  refine PySem.W.callWith_K (h₀ := X.base) I.ok.mod.kin M.kp (thn (ha.run pos pins s1 σ _ _ I1 h) fun us s2 ⟨vs, H2, I2, r, q⟩ => ⟨I2.kIn, ?_⟩) he hpl
  exact run_make M F hr hb .nil hx I2 r q
end
end L2

set_option maxRecDepth 100000
set_option maxHeartbeats 4000000
/-! # calls and own operators in a try's body -/
namespace L2
open PySem PySem.Spec PyProof.Rows
section
variable {X : Cx} {CX : CXT} {k : Nat} {f C : Addr} {ps : List Str} {sp : Sp} {E : St → XK} {x : Str} {p pos : Pos} {e a b : Expr} {es : List Expr} {ta tb : TE} {t : TA} {op : Operator}
theorem pcS (O : Ok X.prog X.w X.K X.mg X.base CX k f ps sp) (hr : Room k X.A) (hm : X.mg x = some (.ref f)) (hx : ∀ σ, PassesAt CX X σ (E σ)) (ha : PA X (e :: es) t) (hg : Gl X x := by rfl) (hdb : (x == ("__debug__" : Str)) = false := by decide)
    (he : starEach (e :: es) X.env = (false, eval e X.env) :: starEach es X.env := by rfl) (hpl : (backTo pos (starEach es X.env)).any (·.1) = false := by rfl) :
    PE X (.Call (.Name x p) (e :: es) [] pos) (tCallS sp E t) := let ⟨fd, a, b, c⟩ := O.ex; pe_callS a hr hg hm c b hx ha hdb he hpl
/-- a op n in a try's body -/
def tOwnIS (C : Addr) (sp : Sp) (E : St → XK) (ta tb : TE) : TE := fun σ H Q => ta σ H fun x H1 => tb σ H1 fun y H2 => rOwnOpI C sp (E σ) x y H2 Q
theorem peOwnIS (O : Ok X.prog X.w X.K X.mg X.base CX k f ps sp) (W : OwnOpT X.K C op f "int") (hr : Room k X.A) (hx : ∀ σ, PassesAt CX X σ (E σ)) (ha : PE X a ta) (hb : PE X b tb) : PE X (.BinOp a op b pos) (tOwnIS C sp E ta tb) := by
  obtain ⟨fd, F, bn, _⟩ := O.ex
  refine ⟨fun pins s σ H Q I h => wpAny_BinOp (binT ha hb I h fun v u s2 x y H2 I2 rx ry q => ?_)⟩
  obtain ⟨a, dx, fs, n, rfl, rfl, ha, hsp⟩ := q
  cases rx
  obtain ⟨t, rfl⟩ := ry
  obtain ⟨od, J⟩ := inst_of I2.hok ha
  obtain ⟨m, hF⟩ := I2.fr
  obtain ⟨rc, h1, h2⟩ := W.rev
  obtain ⟨fo, h3⟩ := W.tf
  obtain ⟨ro, h4⟩ := W.tr
  refine PySem.W.ksp_binT (T := "int") hF I2.ok.mod.kin J rfl W.first W.at_ W.fn h1 h2 h3 h4 W.sub (wpAny_mono (run_fnS F hr bn (hx σ) I2 (us := [.ref a, .int n t]) (vs := [.ref a, .int n]) (.cons rfl (.cons ⟨t, rfl⟩ .nil)) hsp) (fun r s' q => back_of q) fun _ _ z => z)
end
end L2

set_option maxRecDepth 100000
set_option maxHeartbeats 4000000
/-! # Words of every law: all but the pool, data that are alike, errors that are due -/
namespace L2
open PySem PySem.Spec PyProof.Rows
/-- all but p is as it was -/
def But (p : Addr) (H H' : Hp) : Prop := ∀ b o, b ≠ p → H b = some o → H' b = some o
theorem But.refl (p : Addr) (H : Hp) : But p H H := fun _ _ _ h => h
theorem But.trans {p : Addr} {H H1 H2 : Hp} (a : But p H H1) (b : But p H1 H2) : But p H H2 := fun c o n h => b c o n (a c o n h)
theorem But.set {p : Addr} {H : Hp} {o : HO} : But p H (upd H p o) := fun b u n h => by rw [upd_ne n]; exact h
theorem But.of {p : Addr} {H H' : Hp} (s : Same H H') : But p H H' := fun b o _ h => s b o h
theorem But.sqL {K : PySem.W.Frag} {p a : Addr} {H H' : Hp} {xs : List V} (s : But p H H') (n : a ≠ p) (h : SqL K H a xs) : SqL K H' a xs := by
  rcases h with (h | ⟨o, h⟩) | h
  · exact .inl (.inl (s _ _ n h))
  · exact .inl (.inr ⟨o, s _ _ n h⟩)
  · exact .inr h
theorem yesT {A B : Hp → Prop} {σ : St} {H : Hp} (h : A H) : tYes σ H (fun b H3 => if b = true then A H3 else B H3) := by
  show (if true = true then A H else B H)
  exact iteT h
theorem nope {b : Bool} {A B : Prop} (h : b = false) (k : B) : if b = true then A else B := by
  rw [h]; exact iteF k
theorem yep {b : Bool} {A B : Prop} (h : b = true) (k : A) : if b = true then A else B := by
  rw [h]; exact iteT k
theorem SqT.ty {K : PySem.W.Frag} {H : Hp} {a : Addr} {xs : List V} (h : SqT K H a xs) : TyX K H (.ref a) (.type "tuple") := by
  rcases h with (h | ⟨o, h⟩) | ⟨o, its, n, h, c, _⟩
  · exact .base (.tup h)
  · exact .fTuple h
  · exact .kTuple h c
theorem SqL.ty {K : PySem.W.Frag} {H : Hp} {a : Addr} {xs : List V} (h : SqL K H a xs) : TyX K H (.ref a) (.type "list") := by
  rcases h with (h | ⟨o, h⟩) | ⟨o, its, n, h, c, _⟩
  · exact .base (.lst h)
  · exact .base (.frz h)
  · exact .kList h c
/-- None, a bool, a number, a text -/
inductive Atom : V → Prop where
  | non : Atom .non
  | bl (b : Bool) : Atom (.bl b)
  | int (i : Int) : Atom (.int i)
  | str (z : Str) : Atom (.str z)
/-- x and y are the same data, at most n deep -/
def Eqd (K : PySem.W.Frag) : Nat → Hp → V → V → Prop
  | 0, _, x, y => x = y ∧ Atom x
  | n + 1, H, x, y => (x = y ∧ Atom x) ∨ (∃ a b xs ys, x = .ref a ∧ y = .ref b ∧ ((SqT K H a xs ∧ SqT K H b ys) ∨ (SqL K H a xs ∧ SqL K H b ys)) ∧ xs.length = ys.length ∧ xs.length ≤ sizeLine ∧ ∀ (i : Nat) (u v : V), xs[i]? = some u → ys[i]? = some v → Eqd K n H u v)
theorem Eqd.atom {K : PySem.W.Frag} {n : Nat} {H : Hp} {x : V} (h : Atom x) : Eqd K n H x x := by
  cases n with
  | zero => exact ⟨rfl, h⟩
  | succ n => exact .inl ⟨rfl, h⟩
theorem Eqd.same {K : PySem.W.Frag} : ∀ {n : Nat} {H H' : Hp} {x y : V}, Eqd K n H x y → Same H H' → Eqd K n H' x y := by
  intro n
  induction n with
  | zero => intro H H' x y h _; exact h
  | succ n ih =>
    intro H H' x y h s
    rcases h with h | ⟨a, b, xs, ys, e1, e2, h, hl, hz, hi⟩
    · exact .inl h
    · exact .inr ⟨a, b, xs, ys, e1, e2, h.imp (fun z => ⟨s.seqT z.1, s.seqT z.2⟩) (fun z => ⟨s.seq z.1, s.seq z.2⟩), hl, hz, fun i u v h1 h2 => ih (hi i u v h1 h2) s⟩
theorem Eqd.ints {K : PySem.W.Frag} {n : Nat} {H : Hp} {ns : List Int} : ∀ (i : Nat) (u v : V), (ns.map V.int)[i]? = some u → (ns.map V.int)[i]? = some v → Eqd K n H u v := fun i u v h1 h2 => by
  obtain ⟨x, _, rfl⟩ := map_get h1
  rw [h1] at h2
  cases h2
  exact .atom (.int x)
theorem But.fresh {p : Addr} {o : HO} {H H' : Hp} (hn : H p = none) (bt : But p (upd H p o) H') : Same H H' := fun b u e => by
  have nb : b ≠ p := fun z => by rw [z, hn] at e; cases e
  exact bt b u nb (by rw [upd_ne nb]; exact e)
theorem But.seqT {K : PySem.W.Frag} {p a : Addr} {H H' : Hp} {xs ps : List V} (s : But p H H') (hp : H p = some (.lst ps)) (h : SqT K H a xs) : SqT K H' a xs := by
  rcases h with (h | ⟨o, h⟩) | h
  · exact .inl (.inl (s _ _ (fun z => by rw [z, hp] at h; cases h) h))
  · exact .inl (.inr ⟨o, s _ _ (fun z => by rw [z, hp] at h; cases h) h⟩)
  · exact .inr h
/-- an error of class C with the dict o is raised over a heap that has grown -/
def Rs (C : Addr) (o : HO) (H : Hp) (E : XK) : Prop := ∀ H' d, Same H H' → H' d = none → E (.ref C) (some d) (upd H' d o)
theorem Rs.now {C : Addr} {o : HO} {H : Hp} {E : XK} (h : Rs C o H E) (d : Addr) (hd : H d = none) : E (.ref C) (some d) (upd H d o) := h H d (.refl _) hd
theorem Rs.same {C : Addr} {o : HO} {H H' : Hp} {E : XK} (h : Rs C o H E) (s : Same H H') : Rs C o H' E := fun H2 d s2 hd => h H2 d (s.trans s2) hd
theorem passF {X : Cx} : Passes (L2.CX X.prog X.w) X (fun _ _ _ => False) := passes_call takes0 (fun _ _ _ _ h => h)
theorem sL {n : Nat} (h : n ≤ 1000) : n ≤ sizeLine := by rw [sizeLine_eq]; omega
theorem Eqd.row {K : PySem.W.Frag} {n : Nat} {H : Hp} {a b : Addr} {ns : List Int} (h : (SqT K H a (ns.map V.int) ∧ SqT K H b (ns.map V.int)) ∨ (SqL K H a (ns.map V.int) ∧ SqL K H b (ns.map V.int))) (l : ns.length ≤ 1000) : Eqd K (n + 1) H (.ref a) (.ref b) :=
  .inr ⟨a, b, _, _, rfl, rfl, h, rfl, by rw [List.length_map]; exact sL l, Eqd.ints⟩
theorem mod_lt {a m : Int} (h : 0 < m) : 0 ≤ a.fmod m ∧ a.fmod m < m := by
  rw [Int.fmod_eq_emod_of_nonneg a (by omega)]
  exact ⟨Int.emod_nonneg _ (by omega), Int.emod_lt_of_pos _ h⟩
/-- a law's pool of draws -/
def PoolOk (st : List V) : Prop := ∃ a b c : Int, st = [.int a, .int b, .int c] ∧ 0 ≤ b ∧ b < 2147483648
end L2

set_option maxRecDepth 100000
set_option maxHeartbeats 4000000
/-! # len(obj) of an own class -/
namespace L2
open PySem PySem.Spec PyProof.Rows
section
variable {X : Cx} {CX : CXT} {C f : Addr} {ps : List Str} {sp : Sp} {E : XK} {k : Nat}
/-- len(a), a of a class with __len__, which gives a number below 2 ^ 62 -/
def rOwnLenW (C : Addr) (sp : Sp) (E : XK) : List V → Hp → VK → Prop := fun xs H Q => ∃ a dx fs, xs = [.ref a] ∧ H a = some (.ins C dx fs) ∧ sp [.ref a] H (fun v H' => ∃ n : Nat, v = .int (n : Nat) ∧ n < 2 ^ 62 ∧ Q v H') E
theorem cLen (O : Ok X.prog X.w X.K X.mg X.base CX k f ps sp) (W : PySem.W.findIn X.K (.ref C) "__len__" = some (some (.ref f)) ∧ PySem.W.isFn X.K (.ref f) = true) (hr : Room (k + 1) X.A) (hx : Passes CX X E) : CallR X (.builtin "len") (rOwnLenW C sp E) := by
  obtain ⟨fd, F, hb, _⟩ := O.ex
  intro pins s σ H xs us Q I r h
  obtain ⟨a, dx, fs, rfl, ha, hsp⟩ := h
  cases r with
  | cons r rr =>
  cases rr
  cases r
  obtain ⟨od, J⟩ := inst_of I.hok ha
  obtain ⟨m, hF⟩ := I.fr
  refine PySem.W.len_K hF I.ok.mod.kin J W.1 W.2 (wpAny_mono (run_fnA F hb hr.in1 I.env0.in1 hx I (us := [.ref a]) (vs := [.ref a]) (.cons rfl .nil) hsp) (fun v s' q => ?_) fun _ _ z => z)
  obtain ⟨x, H', I', rx, n, rfl, hn, q⟩ := q
  obtain ⟨t, rfl⟩ := rx
  exact ⟨⟨by omega, by omega⟩, .int (n : Nat), H', I'.tok _, ⟨_, rfl⟩, q⟩
/-- a def called within a built-in's call, in a try's body -/
theorem run_fnAS {E : St → XK} {fd : FuncData} {A : Around} {pins : List (Addr × Obj)} {σ : St} {H : Hp} {s : Shared} {Q : VK} {us : List Value} {vs : List V} (F : FnOk X.prog X.w X.K X.mg X.base CX k f fd ps sp) (hb : Binds X.K fd ps []) (hr : Room k A) (e0 : Env0 X.prog X.w X.K X.mg X.base A X.stack s H) (hx : PassesAt CX X σ (E σ))
    (I : Inv X pins σ H s) (r : Vals vs us) (h : sp vs H Q (E σ)) : wpAny (model X.prog X.w) A (call (.ref f) us) (EP X pins σ Q) X.xe s := by
  have hl : us.length = ps.length := r.length.symm.trans (F.len _ _ _ _ h)
  have B : BindsTo s fd ⟨us, []⟩ (ps.zip us) := by
    have := hb s us I.kIn (by rw [List.append_nil]; exact hl)
    rwa [List.append_nil] at this
  refine wpAny_call (codeAny_mono (F.run A X.stack s H ⟨us, []⟩ us vs Q (E σ) hr e0 B r h) fun r s' hq => ?_)
  cases r with
  | error e => exact hx pins H s e s' I hq
  | ok fl =>
    cases fl with
    | ret u => exact I.after hq
    | next => exact hq.elim
    | brk => exact hq.elim
    | cont => exact hq.elim
/-- a[i], a of a class with __getitem__, i a number; E may hang on the slots (a try's body) -/
def tOwnIx (C : Addr) (sp : Sp) (E : St → XK) (ta tb : TE) : TE := fun σ H Q => ta σ H fun x H1 => tb σ H1 fun y H2 => ∃ p dx fs i, x = .ref p ∧ y = .int i ∧ H2 p = some (.ins C dx fs) ∧ sp [.ref p, .int i] H2 Q (E σ)
structure OwnIx (K : PySem.W.Frag) (C f : Addr) : Prop where
  at_ : PySem.W.findIn K (.ref C) "__getitem__" = some (some (.ref f))
  fi : PySem.W.fnIn K f = true
  fn : PySem.W.isFn K (.ref f) = true
theorem peOwnIx {E : St → XK} {a b : Expr} {ta tb : TE} {pos : Pos} (O : Ok X.prog X.w X.K X.mg X.base CX k f ps sp) (W : OwnIx X.K C f) (hr : Room (k + 1) X.A) (hx : ∀ σ, PassesAt CX X σ (E σ)) (ha : PE X a ta) (hb : PE X b tb)
    (hsl : ∀ (p : Addr) (i : Value), subscripted b true (.ref p) i = runValue (.builtin "lifetime.subscript" ⟨[.ref p, i], []⟩) := by intro _ _; with_unfolding_all rfl) : PE X (.Subscript a b pos) (tOwnIx C sp E ta tb) := by
  obtain ⟨fd, F, bn, _⟩ := O.ex
  refine ⟨fun pins s σ H Q I h => Subscript_ (binT ha hb I h fun v u s2 x y H2 I2 rx ry q => ?_)⟩
  obtain ⟨p, dx, fs, i, rfl, rfl, hp, hsp⟩ := q
  cases rx
  obtain ⟨t, rfl⟩ := ry
  obtain ⟨od, J⟩ := inst_of I2.hok hp
  obtain ⟨m, hF⟩ := I2.fr
  exact PySem.W.sub_K hF I2.ok.mod.kin J W.at_ W.fi W.fn (run_fnAS F bn hr.in1 I2.env0.in1 (hx σ) I2 (us := [.ref p, .int i t]) (vs := [.ref p, .int i]) (.cons rfl (.cons ⟨t, rfl⟩ .nil)) hsp) (hsl p _)
/-- outside a try -/
theorem atP {E : XK} (h : Passes CX X E) : ∀ σ : St, PassesAt CX X σ E := fun σ pins H s e s' I c => h pins σ H s e s' I c
end
end L2

set_option maxRecDepth 100000
set_option maxHeartbeats 4000000
/-! # obj == x, obj < x: an own class's comparison with a value of any of four kinds -/
namespace L2
open PySem PySem.Spec PyProof.Rows
/-- what the right side may be, and its type -/
inductive CmpTy (K : PySem.W.Frag) (H : Hp) : V → Value → Prop
  | int (n : Int) : CmpTy K H (.int n) (.type "int")
  | lst {a : Addr} {xs : List V} (h : SqL K H a xs) : CmpTy K H (.ref a) (.type "list")
  | tup {a : Addr} {xs : List V} (h : SqT K H a xs) : CmpTy K H (.ref a) (.type "tuple")
  | own {a C dx : Addr} {fs : List (Str × V)} (h : H a = some (.ins C dx fs)) : CmpTy K H (.ref a) (.ref C)
theorem CmpTy.looks {X : Cx} {pins : List (Addr × Obj)} {σ : St} {H : Hp} {s : Shared} {y : V} {u tb : Value} (I : Inv X pins σ H s) (c : CmpTy X.K H y tb) (r : RelV y u) : PySem.W.Looks (model X.prog X.w) s.heap (typeOf u) tb := by
  cases c with
  | int n => obtain ⟨t, rfl⟩ := r; exact PySem.W.Looks.of_pure rfl
  | lst h =>
    cases r
    obtain ⟨its, _, p, _⟩ := I.list h
    obtain ⟨o, ho, hc, _⟩ := p.isList
    exact fun A Q E s' k q => wpAny_typeOf_ref (k _ _ ho) (by rw [hc]; exact q)
  | tup h =>
    cases r
    obtain ⟨its, _, ⟨o, ho, hc, _⟩, _⟩ := I.tuple h
    exact fun A Q E s' k q => wpAny_typeOf_ref (k _ _ ho) (by rw [hc]; exact q)
  | own h =>
    cases r
    obtain ⟨od, J⟩ := inst_of I.hok h
    exact J.type
/-- a op y, a of the class at C, whose def for op is at f -/
structure OwnCmp (K : PySem.W.Frag) (C : Addr) (op : CmpOp) (f : Addr) (tb : Value) : Prop where
  at_ : PySem.W.findIn K (.ref C) (cmpInfo op).2.1 = some (some (.ref f))
  fn : PySem.W.isFn K (.ref f) = true
  nf : PySem.W.notFirst K C tb = true
def rOwnCmp (K : PySem.W.Frag) (C : Addr) (tb : Value) (sp : Sp) (E : XK) : R2 := fun x y H Q => ∃ a dx fs, x = .ref a ∧ H a = some (.ins C dx fs) ∧ CmpTy K H y tb ∧ sp [.ref a, y] H Q E
section
variable {X : Cx} {CX : CXT} {C f : Addr} {ps : List Str} {sp : Sp} {E : XK} {k : Nat}
theorem oCmp {op : CmpOp} {tb : Value} (hop : ∀ a b, compareOp op a b = richCompare op a b) (O : Ok X.prog X.w X.K X.mg X.base CX k f ps sp) (W : OwnCmp X.K C op f tb) (hr : Room k X.A) (hx : Passes CX X E) : OpR X (compareOp op) (rOwnCmp X.K C tb sp E) := by
  obtain ⟨fd, F, hb, _⟩ := O.ex
  intro pins s σ H x y v u Q I rx ry h
  obtain ⟨a, dx, fs, rfl, ha, ct, hsp⟩ := h
  cases rx
  obtain ⟨od, J⟩ := inst_of I.hok ha
  obtain ⟨m, hF⟩ := I.fr
  rw [hop]
  exact PySem.W.cmp_K (op := op) hr.units0 hF I.ok.mod.kin J (ct.looks I ry) W.nf W.at_ W.fn (wpAny_mono (run_fn F hr hb .nil hx I (us := [.ref a, u]) (vs := [.ref a, y]) (.cons rfl (.cons ry .nil)) hsp) (fun r s' q => back_of q) fun _ _ z => z)
/-- xs[i] as it is read in xs[i] += n, 0 ≤ i -/
def gIxL (K : PySem.W.Frag) : V → V → Hp → VK → Prop := fun o i H Q => ∃ p xs j v, o = .ref p ∧ i = .int ((j : Nat) : Int) ∧ SqL K H p xs ∧ xs[j]? = some v ∧ Q v H
theorem get_list : PGet X (gIxL X.K) := by
  intro pins s σ H o i ov iv Q I ro ri h
  obtain ⟨p, xs, j, v, rfl, rfl, hp, hj, q⟩ := h
  cases ro
  obtain ⟨t, rfl⟩ := ri
  obtain ⟨its, r, pl, hz⟩ := I.list hp
  obtain ⟨w, ew, rw'⟩ := r.get hj
  have hl := r.length
  have lt : j < xs.length := (List.getElem?_eq_some_iff.mp hj).1
  have hn := line63
  exact wpAny_getItem_list pl.isList (by omega) (by omega) (by rw [Int.toNat_natCast]; simpa using ew) ⟨v, H, I, rw', q⟩
end
end L2

set_option maxRecDepth 100000
set_option maxHeartbeats 4000000
namespace FC
open PySem PySem.W PySem.Calls PyProof.Rows He He5 HX
def cmpB (K : Frag) (C : Addr) (op : CmpOp) (f : Addr) (tb : Value) : Bool := eqO (findIn K (.ref C) (cmpInfo op).2.1) (some (some (.ref f))) && (isFn K (.ref f) && notFirst K C tb)
theorem cmp_ok {K : Frag} {C f : Addr} {op : CmpOp} {tb : Value} (h : cmpB K C op f tb = true) : L2.OwnCmp K C op f tb := by
  obtain ⟨h1, h⟩ := ba h
  obtain ⟨h2, h3⟩ := ba h
  exact ⟨eqO_ok h1, h2, h3⟩
def ixB (K : Frag) (C f : Addr) : Bool := eqO (findIn K (.ref C) "__getitem__") (some (some (.ref f))) && (fnIn K f && isFn K (.ref f))
theorem ix_ok {K : Frag} {C f : Addr} (h : ixB K C f = true) : L2.OwnIx K C f := by
  obtain ⟨h1, h⟩ := ba h
  obtain ⟨h2, h3⟩ := ba h
  exact ⟨eqO_ok h1, h2, h3⟩
end FC

set_option maxRecDepth 100000
set_option maxHeartbeats 4000000
/-! # obj.m(e, .., k = v) -/
namespace L2
open PySem PySem.Spec PyProof.Rows
def tMethN (C : Addr) (m : Str) (n mm : Nat) (sp : Sp) (gV : List V → List V → List V) (E : XK) (ta : TE) (t tk : TA) : TE := fun σ H Q => ta σ H fun x H1 => ∃ a dx fs, x = .ref a ∧ H1 a = some (.ins C dx fs) ∧ fs.lookup m = none ∧
  t σ H1 fun vs H2 => tk σ H2 fun zs H3 => vs.length = n ∧ zs.length = mm ∧ sp (gV (.ref a :: vs) zs) H3 Q E
theorem pe_methN {X : Cx} {CX : CXT} {k n : Nat} {f C : Addr} {fd : FuncData} {ps ks : List Str} {sp : Sp} {E : XK} {m : Str} {o e : Expr} {es : List Expr} {kws : List Keyword} {ta : TE} {t tk : TA} {apos pos : Pos} {pl : Sem Bool} {g : List Value → List Value → List Value} {gV : List V → List V → List V}
    (he : PE X o ta) (c : Cls X.K C) (hm : Meth X.K C m f) (F : FnOk X.prog X.w X.K X.mg X.base CX k f fd ps sp) (hr : Room k X.A) (hb : KBn X.K fd ps (n + 1) ks g gV) (hx : Passes CX X E) (ha : PA X (e :: es) t) (hkw : PK X kws tk)
    (hall : (backToKw pos (keywordEach kws X.env)).all (·.1.isSome) = true := by rfl) (hks : (backToKw pos (keywordEach kws X.env)).filterMap (·.1) = ks := by rfl)
    (hst : starEach (e :: es) X.env = (false, eval e X.env) :: starEach es X.env := by rfl) (hpl : ((backTo pos (starEach (e :: es) X.env)).any (·.1) || (backToKw pos (keywordEach kws X.env)).any (·.1.isNone)) = false := by rfl)
    (ht : eval (.Call (.Attribute o m apos) (e :: es) kws pos) X.env = (do
      let ov ← eval o X.env
      standAt apos.atName
      let (f, first) ← holding [ov] (getMethod ov m pl)
      callWith pos f first (backTo pos (starEach (e :: es) X.env)) (backToKw pos (keywordEach kws X.env))) := by rfl) :
    PE X (.Call (.Attribute o m apos) (e :: es) kws pos) (tMethN C m n ks.length sp gV E ta t tk) := by
  refine ⟨fun pins s σ H Q I h => ?_⟩
  refine PySem.W.methodCall_KW (pl := pl) (thn (he.run pins s σ H _ I h) fun u s1 ⟨x, H1, I1, rx, a, dx, fs, ex, ea, l, q⟩ => ?_) ht
  subst ex
  obtain rfl : u = Value.ref a := rx
  refine getmeth_ok I1 ea c hm l ?_
  refine PySem.W.callWith_KW (first := [.ref a]) (h₀ := X.base) I.ok.mod.kin hm.kp hall (thn (ha.run pos pins s1 σ H1 _ I1 q) fun us s2 ⟨vs, H2, I2, r, q2⟩ => ?_) hpl hst
  refine thn (hkw.run pos pins s2 σ H2 _ I2 q2) fun ws s3 ⟨zs, H3, I3, rz, l1, l2, q3⟩ => ⟨I3.kIn, ?_⟩
  rw [hks]
  exact run_fnN (us := .ref a :: us) (vs := .ref a :: vs) F hr hb hx I3 (.cons rfl r) rz (congrArg Nat.succ l1) l2 q3
end L2

set_option maxRecDepth 100000
set_option maxHeartbeats 4000000
/-! # Properties as facts; obj.m(k = v), C.m(a, .., k = v), cls(a, .., k = v) -/
namespace L2
open PySem PySem.Spec PyProof.Rows
def propObj (K : PySem.W.Frag) (C : Addr) (f : Str) : Addr := match PySem.W.findIn K (.ref C) f with
  | some (some (.ref p)) => p
  | _ => 0
def propAt (K : PySem.W.Frag) (C : Addr) (f : Str) : Addr := match PySem.W.recIn K (propObj K C f) "property" with
  | some (.ref g :: _) => g
  | _ => 0
def propB (K : PySem.W.Frag) (C : Addr) (f : Str) : Bool :=
  decide (PySem.W.findIn K (.ref C) f = some (some (.ref (propObj K C f)))) && (decide (PySem.W.specialIn K (.ref (propObj K C f)) "__get__" = some (some (.builtin "property.__get__"))) &&
    (decide (PySem.W.takesIn K (.ref (propObj K C f)) = some true) && (match PySem.W.recIn K (propObj K C f) "property" with
      | some (.ref _ :: _) => true
      | _ => false)))
theorem prop_ok {K : PySem.W.Frag} {C : Addr} {f : Str} (h : propB K C f = true) : PropOf K C f (propObj K C f) (propAt K C f) := by
  unfold propB at h
  simp only [Bool.and_eq_true, decide_eq_true_eq] at h
  obtain ⟨h1, h2, h3, h4⟩ := h
  refine ⟨h1, h2, h3, ?_⟩
  unfold propAt
  split at h4
  · rename_i g rest e
    exact ⟨rest, by rw [e]⟩
  · cases h4
section
variable {X : Cx} {CX : CXT} {k n i : Nat} {f C : Addr} {fd : FuncData} {ps ks : List Str} {sp : Sp} {E : XK} {x m : Str} {o e : Expr} {es : List Expr} {kws : List Keyword} {ta : TE} {t tk : TA} {p apos pos : Pos} {pl : Sem Bool} {g : List Value → List Value → List Value} {gV : List V → List V → List V}
/-- o.m(k = v, ..) -/
theorem pe_methN0 (he : PE X o ta) (c : Cls X.K C) (hm : Meth X.K C m f) (F : FnOk X.prog X.w X.K X.mg X.base CX k f fd ps sp) (hr : Room k X.A) (hb : KBn X.K fd ps 1 ks g gV) (hx : Passes CX X E) (hkw : PK X kws tk)
    (hall : (backToKw pos (keywordEach kws X.env)).all (·.1.isSome) = true := by rfl) (hks : (backToKw pos (keywordEach kws X.env)).filterMap (·.1) = ks := by rfl)
    (hpl : ((backTo pos (starEach [] X.env)).any (·.1) || (backToKw pos (keywordEach kws X.env)).any (·.1.isNone)) = false := by rfl)
    (ht : eval (.Call (.Attribute o m apos) [] kws pos) X.env = (do
      let ov ← eval o X.env
      standAt apos.atName
      let (f, first) ← holding [ov] (getMethod ov m pl)
      callWith pos f first (backTo pos (starEach [] X.env)) (backToKw pos (keywordEach kws X.env))) := by rfl) :
    PE X (.Call (.Attribute o m apos) [] kws pos) (tMethN C m 0 ks.length sp gV E ta tNil tk) := by
  refine ⟨fun pins s σ H Q I h => ?_⟩
  refine PySem.W.methodCall_KW (pl := pl) (thn (he.run pins s σ H _ I h) fun u s1 ⟨y, H1, I1, rx, a, dx, fs, ex, ea, l, q⟩ => ?_) ht
  subst ex
  obtain rfl : u = Value.ref a := rx
  refine getmeth_ok I1 ea c hm l ?_
  refine PySem.W.callWith_KW0 (first := [.ref a]) (h₀ := X.base) I.ok.mod.kin hm.kp hall ?_ hpl
  refine thn (hkw.run pos pins s1 σ H1 _ I1 q) fun ws s3 ⟨zs, H3, I3, rz, l1, l2, q3⟩ => ⟨I3.kIn, ?_⟩
  rw [hks]
  exact run_fnN (us := [.ref a]) (vs := [.ref a]) F hr hb hx I3 (.cons rfl .nil) rz rfl l2 q3
/-- cls(e, .., k = v), cls a local name that holds the class at C -/
def tMakeLK (i : Nat) (C : Addr) (n m : Nat) (sp : Sp) (gV : List V → List V → List V) (E : XK) (t tk : TA) : TE := fun σ H Q => σ[i]? = some (some (.ref C)) ∧ tMakeK C n m sp gV E t tk σ H Q
theorem pmkLK (M : Mk X.K C f) (F : FnOk X.prog X.w X.K X.mg X.base CX k f fd ps sp) (hr : Room (k + 1) X.A) (hN : X.N[i]? = some x) (hv : Vis X.env.scope x) (hb : KBn X.K fd ps (n + 1) ks g gV) (hx : Passes CX X E) (ha : PA X (e :: es) t) (hkw : PK X kws tk)
    (hall : (backToKw pos (keywordEach kws X.env)).all (·.1.isSome) = true := by rfl) (hks : (backToKw pos (keywordEach kws X.env)).filterMap (·.1) = ks := by rfl) (hdb : (x == ("__debug__" : Str)) = false := by decide) (hcd : (x == ("__classdict__" : Str)) = false := by decide)
    (he : starEach (e :: es) X.env = (false, eval e X.env) :: starEach es X.env := by rfl) (hpl : ((backTo pos (starEach (e :: es) X.env)).any (·.1) || (backToKw pos (keywordEach kws X.env)).any (·.1.isNone)) = false := by rfl) :
    PE X (.Call (.Name x p) (e :: es) kws pos) (tMakeLK i C n ks.length sp gV E t tk) := by
  refine ⟨fun pins s σ H Q I h => ?_⟩
  obtain ⟨hs, h⟩ := h
  refine wpAny_Call_Name_kw (thn ((pe_var (pos := p) hN hv hdb hcd).run pins s σ H (fun v H1 => v = .ref C ∧ H1 = H) I ⟨.ref C, hs, rfl, rfl⟩) fun u s1 ⟨v, H1, I1, r1, q1⟩ => ?_)
  obtain ⟨rfl, rfl⟩ := q1
  cases r1
  refine PySem.W.callWith_KW (h₀ := X.base) I.ok.mod.kin M.kp hall (thn (ha.run pos pins s1 σ _ _ I1 h) fun us s2 ⟨vs, H2, I2, r, q⟩ => ?_) hpl he
  refine thn (hkw.run pos pins s2 σ H2 _ I2 q) fun ws s3 ⟨zs, H3, I3, rz, l1, l2, q2⟩ => ⟨I3.kIn, ?_⟩
  rw [hks]
  exact run_makeK M F hr hb hx I3 r rz l1 l2 q2
end
/-- a def with keywords, as a classmethod's def -/
theorem fnS_of {P : Program} {w : World} {K : PySem.W.Frag} {mg : Str → Option Value} {base : Heap} {CX : CXT} {k n : Nat} {f : Addr} {fd : FuncData} {ps ks : List Str} {sp : Sp} {g : List Value → List Value → List Value} {gV : List V → List V → List V} (F : FnOk P w K mg base CX k f fd ps sp) (hb : KBn K fd ps n ks g gV) :
    FnS P w K mg base CX k f ks (fun vs zs H Q E => vs.length = n ∧ zs.length = ks.length ∧ sp (gV vs zs) H Q E) := by
  intro A outer s H us ws vs zs Q E hr e0 r rz h
  obtain ⟨l1, l2, h⟩ := h
  have KX : K.In s.heap := e0.mod.kin.keeps fun b o e => (e0.bs b o e).1
  exact F.run A outer s H ⟨us, ks.zip ws⟩ (g us ws) (gV vs zs) Q E hr e0 (hb.to s us ws KX (r.length.symm.trans l1) (rz.length.symm.trans l2)) (hb.rel r rz) h
end L2

set_option maxRecDepth 100000
set_option maxHeartbeats 4000000
/-! # max(xs, default=d), min(xs, default=d) of a list of numbers -/
namespace L2
open PySem PySem.W PySem.Spec PyProof.Rows
section
variable {prog : Program} {w : World} {A : Around} {E : Value → Shared → Prop} {s : Shared} {l : Addr} {its : List Value} {ns : List Int} {d : Value} {Q : Value → Shared → Prop}
theorem maxD_raw (hh : A.handled = none) (hl : s.heap.IsList l its.toArray) (hi : IntsAre its ns)
    (h0 : ns = [] → ∀ h' tk, (∀ b o, s.heap.get? b = some o → h'.get? b = some o) → Q d { s with heap := h', toks := tk })
    (h : ∀ h' tk M t', (∀ b o, s.heap.get? b = some o → h'.get? b = some o) → M ∈ ns → (∀ a, a ∈ ns → a ≤ M) → Q (.int M t') { s with heap := h', toks := tk }) :
    wpAny (model prog w) A (call (.builtin "max") [.ref l] [(Str.ofString "default", d)]) Q E s := by
  obtain ⟨xs, e⟩ := hi.allInts.items
  have hn : numsOf (intItems xs).toList = ns := by rw [← e]; exact hi.numsOf
  rw [nums_intItems] at hn
  subst hn
  rw [e] at hl
  refine call_max_walkD (iter_listW (A := A.in1) hh hl fun s₂ e2 W st hfp hw hk => ?_)
  refine ⟨_, _, _, _, _, _, _, s.heap, fun i j => decide (numAt xs i > numAt xs j), rfl, W, st, hfp, hw, hk, fun hz s' m => ?_, fun hp => ⟨fun i j vi vj s Q E _ a b c => CmpOf.ints_gt (prog := prog) (w := w) (A := A.in1) (P := fun i v => (intItems xs)[i]? = some v) (numAt xs) (fun _ _ => intItems_at) i j vi vj s Q E a b c, fun v s' hP m => ?_⟩⟩
  · obtain ⟨h', tk, rfl, hk'⟩ := moved_old e2 rfl m
    have z : xs.size = 0 := by simpa [intItems] using hz
    exact h0 (by rw [List.map_eq_nil_iff]; exact List.eq_nil_of_length_eq_zero (by rw [Array.length_toList]; exact z)) h' tk hk'
  · obtain ⟨h', tk, rfl, hk'⟩ := moved_old e2 rfl m
    have hsz : 0 < xs.size := by simpa [intItems] using hp
    have hP' : (intItems xs)[argBest (fun i j => decide (numAt xs i > numAt xs j)) (xs.size - 1)]? = some v := by simpa [intItems] using hP
    obtain ⟨t, rfl⟩ := intItems_at hP'
    obtain ⟨h1, h2⟩ := argBest_gt (numAt xs) (xs.size - 1)
    refine h h' tk _ t hk' ?_ fun a ha => ?_
    · rw [numAt_eq]; exact PySem.getD_mem (by rw [List.length_map, Array.length_toList]; omega)
    · obtain ⟨j, hj, rfl⟩ := mem_getD ha
      rw [List.length_map, Array.length_toList] at hj
      rw [← numAt_eq]; exact h2 j (by omega)
end
section
variable {X : Cx}
def rMaxD0 (K : PySem.W.Frag) : List V → List V → Hp → VK → Prop := fun vs zs H Q => ∃ (a : Addr) (ns : List Int) (d : Int), vs = [V.ref a] ∧ zs = [V.int d] ∧ SqL K H a (ns.map V.int) ∧ ∀ m, (ns = [] ∧ m = d) ∨ (m ∈ ns ∧ ∀ y, y ∈ ns → y ≤ m) → Q (.int m) H
/-- max(xs, default=d) of a list of ints -/
theorem cr_maxD0 (hc : X.calm = true) : CallRK X (.builtin "max") [Str.ofString "default"] (rMaxD0 X.K) := by
  intro pins s σ H vs zs us ws Q I r rz h
  obtain ⟨a, ns, d, rfl, rfl, hs, q⟩ := h
  obtain ⟨its, rv, hl, _⟩ := I.list hs
  obtain rfl := Vals.ref1 r
  obtain ⟨w1, rfl, e1⟩ := vals1 rz
  refine maxD_raw (I.ok.hd hc) hl.isList rv.ints (fun z h' tk hk => ⟨.int d, H, I.kept hk, e1, q d (.inl ⟨z, rfl⟩)⟩) fun h' tk m t' hk h1 h2 => ⟨.int _, H, I.kept hk, ⟨_, rfl⟩, q m (.inr ⟨h1, h2⟩)⟩
end
end L2

set_option maxRecDepth 100000
set_option maxHeartbeats 4000000
/-! # isinstance(e, (C, D, ..)) in a suite, e an error with a dict -/
namespace L2
open PySem PySem.Spec PyProof.Rows
def rIsDT (K : PySem.W.Frag) (D a : Addr) (d : Option Addr) : List V → Hp → VK → Prop := fun xs H Q => ∃ (tp : Addr) (cs : List V) (ws : List Value) (b : Bool) (dd : Addr) (fs : List (Str × V)), xs = [.ref a, .ref tp] ∧ H tp = some (.tup cs) ∧ Paired ClsV cs ws ∧ d = some dd ∧ H dd = some (.xd fs) ∧ PySem.W.kitAny K (.ref D) ws = some b ∧ Q (.bl b) H
theorem call_isDT {X : Cx} {a D : Addr} {d : Option Addr} {oe : Obj} {pn : List (Addr × Obj)} {cls : Value} (C : ExcC X.K D) (hz : Zc cls d oe) (hf : ∃ vs, oe.data = .fields vs) :
    CallR (X.suite a ((a, oe) :: pn)) (.builtin "isinstance") (fun xs H Q => cls = .ref D ∧ rIsDT X.K D a d xs H Q) := by
  intro pins s σ H xs us Q I r h
  obtain ⟨rfl, tp, cs, ws, b, dd, fs, rfl, hT, k, rfl, ea, e, q⟩ := h
  obtain ⟨u1, u2, rfl, r1, r2⟩ := vals2 r
  cases (show u2 = Value.ref tp from r2)
  cases (show u1 = Value.ref a from r1)
  obtain ⟨_, its, rv, o, h1, h2, n, h3⟩ := (show ObjOk X.prog X.w H s.heap tp (.tup cs) from I.hok tp _ hT)
  have e3 := ClsV.all k rv
  subst e3
  obtain ⟨oc, ot, dt, sl⟩ := o
  simp only at h2 h3
  subst h2 h3
  obtain ⟨hget, _⟩ := I.pin (a, oe) (List.mem_append.mpr (.inl List.mem_cons_self))
  obtain ⟨vs, hv⟩ := hf
  obtain ⟨mA, hns, hr⟩ := (show ObjOk X.prog X.w H s.heap dd (.xd fs) from I.hok dd _ ea)
  obtain ⟨od, ho, _⟩ := lookIn_ns hns
  have J : PySem.W.InstAt s.heap a oe D (some od) := ⟨hget, hz.1, by unfold PySem.W.notCls; rw [hv] <;> rfl, by rw [hz.2]; exact ho⟩
  exact PySem.W.kia_tup (EI.kit_exc C) I.kIn J h1 e (fun z => nomatch z) fun tk => ⟨.bl b, H, I.kept (t' := tk) fun _ _ z => z, rfl, q⟩
theorem kn_nil {K : PySem.W.Frag} {t : Value} : PySem.W.kitAny K t [] = some false := rfl
theorem kn_cons {K : PySem.W.Frag} {t c : Value} {cs : List Value} (h : PySem.W.kitOne K t c = some false) (r : PySem.W.kitAny K t cs = some false) : PySem.W.kitAny K t (c :: cs) = some false := by
  rw [PySem.W.kitAny, h]
  exact r
end L2

set_option maxRecDepth 100000
set_option maxHeartbeats 0
namespace K09
open PySem PySem.W PySem.Spec PySem.Calls PyProof.Rows L2 He He5 HX
/-! ### the text by its places -/
abbrev PG : Program := PySem.Challenge.pw_nightsoff_k09_growth
def topS (i : Nat) : Stmt := PG.main.body.getD i (.Pass ⟨0, 0, 0, 0⟩)
abbrev s_wall : Stmt := topS 0
abbrev s_check_count : Stmt := topS 13
abbrev s_check_number : Stmt := topS 14
abbrev s_check_numbers : Stmt := topS 15
abbrev s_check_not_negative : Stmt := topS 16
abbrev s_check_rest : Stmt := topS 17
abbrev s_check_night : Stmt := topS 18
abbrev s_check_person : Stmt := topS 19
abbrev s_check_people : Stmt := topS 20
abbrev s_first_choice : Stmt := topS 22
abbrev s_choose_first : Stmt := topS 23
abbrev s_room_left : Stmt := topS 24
abbrev s_growth : Stmt := topS 25
abbrev s_nights_with_room : Stmt := topS 26
abbrev s_House_init : Stmt := inClass (topS 28) 0
abbrev s_House_all_there : Stmt := inClass (topS 28) 1
abbrev s_House_nights : Stmt := inClass (topS 28) 2
abbrev s_House_people : Stmt := inClass (topS 28) 3
abbrev s_House_whole : Stmt := inClass (topS 28) 4
abbrev s_House_changed : Stmt := inClass (topS 28) 5
abbrev s_House_here : Stmt := inClass (topS 28) 6
abbrev s_House_stretch : Stmt := inClass (topS 28) 7
abbrev s_Wants_init : Stmt := inClass (topS 30) 2
abbrev s_Wants_of : Stmt := inClass (topS 30) 3
abbrev s_Wants_len : Stmt := inClass (topS 30) 4
abbrev s_Wants_iter : Stmt := inClass (topS 30) 5
abbrev s_Wants_getitem : Stmt := inClass (topS 30) 6
abbrev s_Wants_add : Stmt := inClass (topS 30) 7
abbrev s_Wants_mul : Stmt := inClass (topS 30) 8
abbrev s_Wants_rmul : Stmt := inClass (topS 30) 9
abbrev s_Wants_lshift : Stmt := inClass (topS 30) 10
abbrev s_Wants_rshift : Stmt := inClass (topS 30) 11
abbrev s_Wants_neg : Stmt := inClass (topS 30) 12
abbrev s_Wants_abs : Stmt := inClass (topS 30) 13
abbrev s_law_pool : Stmt := topS 32
abbrev s_law_draw : Stmt := topS 33
abbrev s_law_comings : Stmt := topS 34
abbrev s_law_wants : Stmt := topS 35
abbrev s_law_size : Stmt := topS 36
abbrev s_law_int : Stmt := topS 37
abbrev s_law_same : Stmt := topS 38
abbrev s_law_first : Stmt := topS 39
abbrev s_law_shuffled : Stmt := topS 40
abbrev s_law_house : Stmt := topS 41
abbrev s_law_groups : Stmt := topS 42
abbrev s_law_spoiled : Stmt := topS 43
abbrev s_law_person : Stmt := topS 44
abbrev s_law_growth : Stmt := topS 45
abbrev s_law_due : Stmt := topS 46
abbrev s_law_try : Stmt := topS 47
abbrev s_law_grows : Stmt := topS 48
abbrev s_law : Stmt := topS 49
abbrev e_NoNight : Stmt := inClass (topS 3) 0
abbrev e_NoPerson : Stmt := inClass (topS 4) 0
abbrev e_NamedTwice : Stmt := inClass (topS 5) 0
abbrev e_BadNumber : Stmt := inClass (topS 6) 0
abbrev e_TooLong : Stmt := inClass (topS 7) 0
abbrev e_BadRest : Stmt := inClass (topS 8) 0
abbrev e_BadComing : Stmt := inClass (topS 9) 0
/-! ### the errors: what their __init__ says -/
theorem tx_NoNight : InitTx PG e_NoNight "NoNight.__init__" ["night"] [("night", "night")] where
  txt := ⟨_, _, _, _, _, _, _, _, _, rfl, .cons (.nil), fun env h => (by rw [show interactive env = (env.scope.kind == ScopeKind.module && env.scope.more.any fun (n, _) => n == ("interactive" : Str)) from rfl, h]; rfl), fun env h => ⟨_, by obtain ⟨⟩ := env; cases h; rfl⟩⟩
  par := ⟨_, rfl, rfl⟩
  sc := ⟨⟨rfl, rfl, rfl⟩, by decide +kernel, rfl, rfl, rfl⟩
  loc := by decide +kernel
  nod := by decide +kernel
  bind := fun s e fd us hl h1 h2 h3 => (match us, hl with | [_], _ => .of_eq (by obtain ⟨⟩ := fd; cases h1; cases h2; cases h3; rfl))
  top := by decide +kernel
  few := by decide
theorem tx_NoPerson : InitTx PG e_NoPerson "NoPerson.__init__" ["person"] [("person", "person")] where
  txt := ⟨_, _, _, _, _, _, _, _, _, rfl, .cons (.nil), fun env h => (by rw [show interactive env = (env.scope.kind == ScopeKind.module && env.scope.more.any fun (n, _) => n == ("interactive" : Str)) from rfl, h]; rfl), fun env h => ⟨_, by obtain ⟨⟩ := env; cases h; rfl⟩⟩
  par := ⟨_, rfl, rfl⟩
  sc := ⟨⟨rfl, rfl, rfl⟩, by decide +kernel, rfl, rfl, rfl⟩
  loc := by decide +kernel
  nod := by decide +kernel
  bind := fun s e fd us hl h1 h2 h3 => (match us, hl with | [_], _ => .of_eq (by obtain ⟨⟩ := fd; cases h1; cases h2; cases h3; rfl))
  top := by decide +kernel
  few := by decide
theorem tx_NamedTwice : InitTx PG e_NamedTwice "NamedTwice.__init__" ["person"] [("person", "person")] where
  txt := ⟨_, _, _, _, _, _, _, _, _, rfl, .cons (.nil), fun env h => (by rw [show interactive env = (env.scope.kind == ScopeKind.module && env.scope.more.any fun (n, _) => n == ("interactive" : Str)) from rfl, h]; rfl), fun env h => ⟨_, by obtain ⟨⟩ := env; cases h; rfl⟩⟩
  par := ⟨_, rfl, rfl⟩
  sc := ⟨⟨rfl, rfl, rfl⟩, by decide +kernel, rfl, rfl, rfl⟩
  loc := by decide +kernel
  nod := by decide +kernel
  bind := fun s e fd us hl h1 h2 h3 => (match us, hl with | [_], _ => .of_eq (by obtain ⟨⟩ := fd; cases h1; cases h2; cases h3; rfl))
  top := by decide +kernel
  few := by decide
theorem tx_BadNumber : InitTx PG e_BadNumber "BadNumber.__init__" ["place", "number"] [("place", "place"), ("number", "number")] where
  txt := ⟨_, _, _, _, _, _, _, _, _, rfl, .cons (.cons (.nil)), fun env h => (by rw [show interactive env = (env.scope.kind == ScopeKind.module && env.scope.more.any fun (n, _) => n == ("interactive" : Str)) from rfl, h]; rfl), fun env h => ⟨_, by obtain ⟨⟩ := env; cases h; rfl⟩⟩
  par := ⟨_, rfl, rfl⟩
  sc := ⟨⟨rfl, rfl, rfl⟩, by decide +kernel, rfl, rfl, rfl⟩
  loc := by decide +kernel
  nod := by decide +kernel
  bind := fun s e fd us hl h1 h2 h3 => (match us, hl with | [_, _], _ => .of_eq (by obtain ⟨⟩ := fd; cases h1; cases h2; cases h3; rfl))
  top := by decide +kernel
  few := by decide
theorem tx_TooLong : InitTx PG e_TooLong "TooLong.__init__" ["count"] [("count", "count")] where
  txt := ⟨_, _, _, _, _, _, _, _, _, rfl, .cons (.nil), fun env h => (by rw [show interactive env = (env.scope.kind == ScopeKind.module && env.scope.more.any fun (n, _) => n == ("interactive" : Str)) from rfl, h]; rfl), fun env h => ⟨_, by obtain ⟨⟩ := env; cases h; rfl⟩⟩
  par := ⟨_, rfl, rfl⟩
  sc := ⟨⟨rfl, rfl, rfl⟩, by decide +kernel, rfl, rfl, rfl⟩
  loc := by decide +kernel
  nod := by decide +kernel
  bind := fun s e fd us hl h1 h2 h3 => (match us, hl with | [_], _ => .of_eq (by obtain ⟨⟩ := fd; cases h1; cases h2; cases h3; rfl))
  top := by decide +kernel
  few := by decide
theorem tx_BadRest : InitTx PG e_BadRest "BadRest.__init__" ["rest"] [("rest", "rest")] where
  txt := ⟨_, _, _, _, _, _, _, _, _, rfl, .cons (.nil), fun env h => (by rw [show interactive env = (env.scope.kind == ScopeKind.module && env.scope.more.any fun (n, _) => n == ("interactive" : Str)) from rfl, h]; rfl), fun env h => ⟨_, by obtain ⟨⟩ := env; cases h; rfl⟩⟩
  par := ⟨_, rfl, rfl⟩
  sc := ⟨⟨rfl, rfl, rfl⟩, by decide +kernel, rfl, rfl, rfl⟩
  loc := by decide +kernel
  nod := by decide +kernel
  bind := fun s e fd us hl h1 h2 h3 => (match us, hl with | [_], _ => .of_eq (by obtain ⟨⟩ := fd; cases h1; cases h2; cases h3; rfl))
  top := by decide +kernel
  few := by decide
theorem tx_BadComing : InitTx PG e_BadComing "BadComing.__init__" ["person", "coming"] [("person", "person"), ("coming", "coming")] where
  txt := ⟨_, _, _, _, _, _, _, _, _, rfl, .cons (.cons (.nil)), fun env h => (by rw [show interactive env = (env.scope.kind == ScopeKind.module && env.scope.more.any fun (n, _) => n == ("interactive" : Str)) from rfl, h]; rfl), fun env h => ⟨_, by obtain ⟨⟩ := env; cases h; rfl⟩⟩
  par := ⟨_, rfl, rfl⟩
  sc := ⟨⟨rfl, rfl, rfl⟩, by decide +kernel, rfl, rfl, rfl⟩
  loc := by decide +kernel
  nod := by decide +kernel
  bind := fun s e fd us hl h1 h2 h3 => (match us, hl with | [_, _], _ => .of_eq (by obtain ⟨⟩ := fd; cases h1; cases h2; cases h3; rfl))
  top := by decide +kernel
  few := by decide
/-! ### facts -/
def fn : List DefA := [
  { at_ := fun K => ga K "_wall", name := "_wall", qual := "_wall", params := defArgs s_wall, body := defBody s_wall, scope := defScope s_wall },
  { at_ := fun K => ga K "check_count", name := "check_count", qual := "check_count", params := defArgs s_check_count, body := defBody s_check_count, scope := defScope s_check_count },
  { at_ := fun K => ga K "check_number", name := "check_number", qual := "check_number", params := defArgs s_check_number, body := defBody s_check_number, scope := defScope s_check_number },
  { at_ := fun K => ga K "check_numbers", name := "check_numbers", qual := "check_numbers", params := defArgs s_check_numbers, body := defBody s_check_numbers, scope := defScope s_check_numbers },
  { at_ := fun K => ga K "check_not_negative", name := "check_not_negative", qual := "check_not_negative", params := defArgs s_check_not_negative, body := defBody s_check_not_negative, scope := defScope s_check_not_negative },
  { at_ := fun K => ga K "check_rest", name := "check_rest", qual := "check_rest", params := defArgs s_check_rest, body := defBody s_check_rest, scope := defScope s_check_rest },
  { at_ := fun K => ga K "check_night", name := "check_night", qual := "check_night", params := defArgs s_check_night, body := defBody s_check_night, scope := defScope s_check_night },
  { at_ := fun K => ga K "check_person", name := "check_person", qual := "check_person", params := defArgs s_check_person, body := defBody s_check_person, scope := defScope s_check_person },
  { at_ := fun K => ga K "check_people", name := "check_people", qual := "check_people", params := defArgs s_check_people, body := defBody s_check_people, scope := defScope s_check_people },
  { at_ := fun K => ga K "first_choice", name := "first_choice", qual := "first_choice", params := defArgs s_first_choice, body := defBody s_first_choice, scope := defScope s_first_choice },
  { at_ := fun K => ga K "choose_first", name := "choose_first", qual := "choose_first", params := defArgs s_choose_first, body := defBody s_choose_first, scope := defScope s_choose_first },
  { at_ := fun K => ga K "room_left", name := "room_left", qual := "room_left", params := defArgs s_room_left, body := defBody s_room_left, scope := defScope s_room_left },
  { at_ := fun K => ga K "growth", name := "growth", qual := "growth", params := defArgs s_growth, body := defBody s_growth, scope := defScope s_growth },
  { at_ := fun K => ga K "nights_with_room", name := "nights_with_room", qual := "nights_with_room", params := defArgs s_nights_with_room, body := defBody s_nights_with_room, scope := defScope s_nights_with_room },
  { at_ := fun K => ma K (ga K "House") "__init__", name := "__init__", qual := "House.__init__", params := defArgs s_House_init, body := defBody s_House_init, scope := defScope s_House_init, kwd := [("rest", .int 1)] },
  { at_ := fun K => wf K (ga K "House") "classmethod" "all_there", name := "all_there", qual := "House.all_there", params := defArgs s_House_all_there, body := defBody s_House_all_there, scope := defScope s_House_all_there, kwd := [("rest", .int 1)] },
  { at_ := fun K => propAt K (ga K "House") "nights", name := "nights", qual := "House.nights", params := defArgs s_House_nights, body := defBody s_House_nights, scope := defScope s_House_nights },
  { at_ := fun K => propAt K (ga K "House") "people", name := "people", qual := "House.people", params := defArgs s_House_people, body := defBody s_House_people, scope := defScope s_House_people },
  { at_ := fun K => propAt K (ga K "House") "whole", name := "whole", qual := "House.whole", params := defArgs s_House_whole, body := defBody s_House_whole, scope := defScope s_House_whole },
  { at_ := fun K => ma K (ga K "House") "changed", name := "changed", qual := "House.changed", params := defArgs s_House_changed, body := defBody s_House_changed, scope := defScope s_House_changed, kwd := [("wants", .non), ("comings", .non), ("rest", .non)] },
  { at_ := fun K => ma K (ga K "House") "here", name := "here", qual := "House.here", params := defArgs s_House_here, body := defBody s_House_here, scope := defScope s_House_here },
  { at_ := fun K => ma K (ga K "House") "stretch", name := "stretch", qual := "House.stretch", params := defArgs s_House_stretch, body := defBody s_House_stretch, scope := defScope s_House_stretch },
  { at_ := fun K => ma K (ga K "Wants") "__init__", name := "__init__", qual := "Wants.__init__", params := defArgs s_Wants_init, body := defBody s_Wants_init, scope := defScope s_Wants_init },
  { at_ := fun K => wf K (ga K "Wants") "classmethod" "of", name := "of", qual := "Wants.of", params := defArgs s_Wants_of, body := defBody s_Wants_of, scope := defScope s_Wants_of, kwd := [("times", .int 1)] },
  { at_ := fun K => ma K (ga K "Wants") "__len__", name := "__len__", qual := "Wants.__len__", params := defArgs s_Wants_len, body := defBody s_Wants_len, scope := defScope s_Wants_len },
  { at_ := fun K => ma K (ga K "Wants") "__iter__", name := "__iter__", qual := "Wants.__iter__", params := defArgs s_Wants_iter, body := defBody s_Wants_iter, scope := defScope s_Wants_iter },
  { at_ := fun K => ma K (ga K "Wants") "__getitem__", name := "__getitem__", qual := "Wants.__getitem__", params := defArgs s_Wants_getitem, body := defBody s_Wants_getitem, scope := defScope s_Wants_getitem },
  { at_ := fun K => ma K (ga K "Wants") "__add__", name := "__add__", qual := "Wants.__add__", params := defArgs s_Wants_add, body := defBody s_Wants_add, scope := defScope s_Wants_add },
  { at_ := fun K => ma K (ga K "Wants") "__mul__", name := "__mul__", qual := "Wants.__mul__", params := defArgs s_Wants_mul, body := defBody s_Wants_mul, scope := defScope s_Wants_mul },
  { at_ := fun K => ma K (ga K "Wants") "__rmul__", name := "__rmul__", qual := "Wants.__rmul__", params := defArgs s_Wants_rmul, body := defBody s_Wants_rmul, scope := defScope s_Wants_rmul },
  { at_ := fun K => ma K (ga K "Wants") "__lshift__", name := "__lshift__", qual := "Wants.__lshift__", params := defArgs s_Wants_lshift, body := defBody s_Wants_lshift, scope := defScope s_Wants_lshift },
  { at_ := fun K => ma K (ga K "Wants") "__rshift__", name := "__rshift__", qual := "Wants.__rshift__", params := defArgs s_Wants_rshift, body := defBody s_Wants_rshift, scope := defScope s_Wants_rshift },
  { at_ := fun K => ma K (ga K "Wants") "__neg__", name := "__neg__", qual := "Wants.__neg__", params := defArgs s_Wants_neg, body := defBody s_Wants_neg, scope := defScope s_Wants_neg },
  { at_ := fun K => ma K (ga K "Wants") "__abs__", name := "__abs__", qual := "Wants.__abs__", params := defArgs s_Wants_abs, body := defBody s_Wants_abs, scope := defScope s_Wants_abs },
  { at_ := fun K => ga K "_law_pool", name := "_law_pool", qual := "_law_pool", params := defArgs s_law_pool, body := defBody s_law_pool, scope := defScope s_law_pool },
  { at_ := fun K => ga K "_law_draw", name := "_law_draw", qual := "_law_draw", params := defArgs s_law_draw, body := defBody s_law_draw, scope := defScope s_law_draw },
  { at_ := fun K => ga K "_law_comings", name := "_law_comings", qual := "_law_comings", params := defArgs s_law_comings, body := defBody s_law_comings, scope := defScope s_law_comings },
  { at_ := fun K => ga K "_law_wants", name := "_law_wants", qual := "_law_wants", params := defArgs s_law_wants, body := defBody s_law_wants, scope := defScope s_law_wants },
  { at_ := fun K => ga K "_law_size", name := "_law_size", qual := "_law_size", params := defArgs s_law_size, body := defBody s_law_size, scope := defScope s_law_size },
  { at_ := fun K => ga K "_law_int", name := "_law_int", qual := "_law_int", params := defArgs s_law_int, body := defBody s_law_int, scope := defScope s_law_int },
  { at_ := fun K => ga K "_law_same", name := "_law_same", qual := "_law_same", params := defArgs s_law_same, body := defBody s_law_same, scope := defScope s_law_same },
  { at_ := fun K => ga K "_law_first", name := "_law_first", qual := "_law_first", params := defArgs s_law_first, body := defBody s_law_first, scope := defScope s_law_first },
  { at_ := fun K => ga K "_law_shuffled", name := "_law_shuffled", qual := "_law_shuffled", params := defArgs s_law_shuffled, body := defBody s_law_shuffled, scope := defScope s_law_shuffled },
  { at_ := fun K => ga K "_law_house", name := "_law_house", qual := "_law_house", params := defArgs s_law_house, body := defBody s_law_house, scope := defScope s_law_house },
  { at_ := fun K => ga K "_law_groups", name := "_law_groups", qual := "_law_groups", params := defArgs s_law_groups, body := defBody s_law_groups, scope := defScope s_law_groups },
  { at_ := fun K => ga K "_law_spoiled", name := "_law_spoiled", qual := "_law_spoiled", params := defArgs s_law_spoiled, body := defBody s_law_spoiled, scope := defScope s_law_spoiled },
  { at_ := fun K => ga K "_law_person", name := "_law_person", qual := "_law_person", params := defArgs s_law_person, body := defBody s_law_person, scope := defScope s_law_person },
  { at_ := fun K => ga K "_law_growth", name := "_law_growth", qual := "_law_growth", params := defArgs s_law_growth, body := defBody s_law_growth, scope := defScope s_law_growth },
  { at_ := fun K => ga K "_law_due", name := "_law_due", qual := "_law_due", params := defArgs s_law_due, body := defBody s_law_due, scope := defScope s_law_due },
  { at_ := fun K => ga K "_law_try", name := "_law_try", qual := "_law_try", params := defArgs s_law_try, body := defBody s_law_try, scope := defScope s_law_try },
  { at_ := fun K => ga K "_law_grows", name := "_law_grows", qual := "_law_grows", params := defArgs s_law_grows, body := defBody s_law_grows, scope := defScope s_law_grows },
  { at_ := fun K => ga K "law", name := "law", qual := "law", params := defArgs s_law, body := defBody s_law, scope := defScope s_law }]
def er : List ErrD := [⟨"NoNight", e_NoNight, "NoNight.__init__", ["night"]⟩, ⟨"NoPerson", e_NoPerson, "NoPerson.__init__", ["person"]⟩, ⟨"NamedTwice", e_NamedTwice, "NamedTwice.__init__", ["person"]⟩, ⟨"BadNumber", e_BadNumber, "BadNumber.__init__", ["place", "number"]⟩, ⟨"TooLong", e_TooLong, "TooLong.__init__", ["count"]⟩, ⟨"BadRest", e_BadRest, "BadRest.__init__", ["rest"]⟩, ⟨"BadComing", e_BadComing, "BadComing.__init__", ["person", "coming"]⟩]
def bl (K : Frag) : List Bool := [
  (Fa.free "super").ok K,
  eqO (nsIn K cStatics "thirdparty.any") (some none),
  (Fa.free "len").ok K,
  (Fa.free "enumerate").ok K,
  (Fa.free "tuple").ok K,
  (Fa.free "sum").ok K,
  (Fa.free "abs").ok K,
  (Fa.free "int").ok K,
  (Fa.free "range").ok K,
  (Fa.free "isinstance").ok K,
  (Fa.free "bool").ok K,
  (Fa.free "str").ok K,
  (Fa.free "list").ok K,
  (Fa.free "max").ok K,
  (Fa.free "min").ok K,
  (Fa.free "zip").ok K,
  (Fa.free "iter").ok K,
  (Fa.free "ValueError").ok K,
  (Fa.glo "_wall").ok K,
  (Fa.glo "check_count").ok K,
  (Fa.glo "check_number").ok K,
  (Fa.glo "check_numbers").ok K,
  (Fa.glo "check_not_negative").ok K,
  (Fa.glo "check_rest").ok K,
  (Fa.glo "check_night").ok K,
  (Fa.glo "check_person").ok K,
  (Fa.glo "check_people").ok K,
  (Fa.glo "first_choice").ok K,
  (Fa.glo "choose_first").ok K,
  (Fa.glo "room_left").ok K,
  (Fa.glo "growth").ok K,
  (Fa.glo "nights_with_room").ok K,
  (Fa.glo "_law_pool").ok K,
  (Fa.glo "_law_draw").ok K,
  (Fa.glo "_law_comings").ok K,
  (Fa.glo "_law_wants").ok K,
  (Fa.glo "_law_size").ok K,
  (Fa.glo "_law_int").ok K,
  (Fa.glo "_law_same").ok K,
  (Fa.glo "_law_first").ok K,
  (Fa.glo "_law_shuffled").ok K,
  (Fa.glo "_law_house").ok K,
  (Fa.glo "_law_groups").ok K,
  (Fa.glo "_law_spoiled").ok K,
  (Fa.glo "_law_person").ok K,
  (Fa.glo "_law_growth").ok K,
  (Fa.glo "_law_due").ok K,
  (Fa.glo "_law_try").ok K,
  (Fa.glo "_law_grows").ok K,
  (Fa.glo "law").ok K,
  (Fa.cls "House").ok K,
  (Fa.glo "House").ok K,
  EF.clsB K (ga K "House"),
  (Fa.mkr "House").ok K,
  (Fa.noat "House" "wants").ok K,
  (Fa.noat "House" "comings").ok K,
  (Fa.noat "House" "rest").ok K,
  (Fa.cls "Wants").ok K,
  (Fa.glo "Wants").ok K,
  EF.clsB K (ga K "Wants"),
  (Fa.mkr "Wants").ok K,
  (Fa.noat "Wants" "numbers").ok K,
  FB.creadB K (ga K "House"),
  FB.creadB K (ga K "Wants"),
  FB.cintB K (ga K "Wants") "MOST" 60,
  FB.cintB K (ga K "Wants") "GREATEST" 30,
  (Fa.int "MOST_PEOPLE" 30).ok K,
  (Fa.int "GREATEST_REST" 60).ok K,
  FB.spB K (ga K "Wants") "__len__" (ma K (ga K "Wants") "__len__"),
  FB.spB K (ga K "Wants") "__abs__" (ma K (ga K "Wants") "__abs__"),
  FB.spB K (ga K "Wants") "__iter__" (ma K (ga K "Wants") "__iter__"),
  FB.spB K (ga K "Wants") "__getitem__" (ma K (ga K "Wants") "__getitem__"),
  FC.ixB K (ga K "Wants") (ma K (ga K "Wants") "__getitem__"),
  propB K (ga K "House") "nights",
  propB K (ga K "House") "people",
  (Fa.glo "NightsError").ok K,
  EF.excB K (ga K "NoNight"),
  (Fa.noat "NoNight" "night").ok K,
  EF.excB K (ga K "BadNumber"),
  (Fa.noat "BadNumber" "place").ok K,
  (Fa.noat "BadNumber" "number").ok K,
  EF.excB K (ga K "TooLong"),
  (Fa.noat "TooLong" "count").ok K,
  EF.excB K (ga K "BadRest"),
  (Fa.noat "BadRest" "rest").ok K,
  EF.excB K (ga K "BadComing"),
  (Fa.noat "BadComing" "person").ok K,
  (Fa.noat "BadComing" "coming").ok K,
  EF.excB K (ga K "NoPerson"),
  (Fa.noat "NoPerson" "person").ok K,
  EF.excB K (ga K "NamedTwice"),
  (Fa.noat "NamedTwice" "person").ok K,
  (Fa.exm "NoPerson" "NoPerson" true).ok K,
  (Fa.exm "NoPerson" "NamedTwice" false).ok K,
  decide (kitOne K (.ref (ga K "NoPerson")) (.ref (ga K "NightsError")) = some true),
  decide (kitOne K (.ref (ga K "NoPerson")) (.type "ValueError") = some true),
  (Fa.exm "NamedTwice" "NoPerson" false).ok K,
  (Fa.exm "NamedTwice" "NamedTwice" true).ok K,
  decide (kitOne K (.ref (ga K "NamedTwice")) (.ref (ga K "NightsError")) = some true),
  decide (kitOne K (.ref (ga K "NamedTwice")) (.type "ValueError") = some true),
  decide (kitOne K (.ref (ga K "NoPerson")) (.ref (ga K "NamedTwice")) = some false)]
def bx (K : Frag) : Bool := (bl K).all fun b => b
abbrev R : OpenRow := OpenLaw.row PySem.Challenge.rw_nightsoff_k09_growth
abbrev hk : Hook := hookX 6 bx fn er "/claim/cut.py"
def ob (s : SharedT) : AlX := obsXG 6 bx fn er "/claim/cut.py" (HandSHeadRun.getT s)
theorem ob_eq (s : SharedT) : ob s = hk.obs s.abs := obsXG_eq (HandSHeadRun.getT_eq s)
def nm0 : List Str := ["_wall", "NightsError", "NoNight", "NoPerson", "NamedTwice", "BadNumber", "TooLong", "BadRest", "BadComing", "MOST_PEOPLE", "GREATEST_REST", "check_count", "check_number", "check_numbers", "check_not_negative", "check_rest", "check_night", "check_person", "check_people", "first_choice", "choose_first", "room_left", "growth", "nights_with_room", "House", "Wants", "_law_pool", "_law_draw", "_law_comings", "_law_wants"]
def nm1 : List Str := ["_law_size", "_law_int", "_law_same", "_law_first", "_law_shuffled", "_law_house", "_law_groups", "_law_spoiled", "_law_person", "_law_growth", "_law_due", "_law_try", "_law_grows"]
def names : List Str := nm0 ++ nm1
theorem run (w : World) : HandSHeadRun.RunEq R (view R.prog [49]) hk ob 20000 names w := by
  intro os
  kernel_rfl
theorem fact {K : Frag} (c : SaysX bx fn er "/claim/cut.py" K) (i : Nat) {b : Bool} (h : (bl K)[i]? = some b := by rfl) : b = true := List.all_eq_true.mp (SaysX.bool c) b (List.mem_of_getElem? h)
/-! ### where the defs stand, their names, their facts in one bundle -/
abbrev c_NightsError (K : Frag) : Addr := ga K "NightsError"
abbrev c_NoNight (K : Frag) : Addr := ga K "NoNight"
abbrev c_NoPerson (K : Frag) : Addr := ga K "NoPerson"
abbrev c_NamedTwice (K : Frag) : Addr := ga K "NamedTwice"
abbrev c_BadNumber (K : Frag) : Addr := ga K "BadNumber"
abbrev c_TooLong (K : Frag) : Addr := ga K "TooLong"
abbrev c_BadRest (K : Frag) : Addr := ga K "BadRest"
abbrev c_BadComing (K : Frag) : Addr := ga K "BadComing"
abbrev c_House (K : Frag) : Addr := ga K "House"
abbrev c_Wants (K : Frag) : Addr := ga K "Wants"
abbrev a_wall (K : Frag) : Addr := (fun K => ga K "_wall") K
abbrev a_check_count (K : Frag) : Addr := (fun K => ga K "check_count") K
abbrev a_check_number (K : Frag) : Addr := (fun K => ga K "check_number") K
abbrev a_check_numbers (K : Frag) : Addr := (fun K => ga K "check_numbers") K
abbrev a_check_not_negative (K : Frag) : Addr := (fun K => ga K "check_not_negative") K
abbrev a_check_rest (K : Frag) : Addr := (fun K => ga K "check_rest") K
abbrev a_check_night (K : Frag) : Addr := (fun K => ga K "check_night") K
abbrev a_check_person (K : Frag) : Addr := (fun K => ga K "check_person") K
abbrev a_check_people (K : Frag) : Addr := (fun K => ga K "check_people") K
abbrev a_first_choice (K : Frag) : Addr := (fun K => ga K "first_choice") K
abbrev a_choose_first (K : Frag) : Addr := (fun K => ga K "choose_first") K
abbrev a_room_left (K : Frag) : Addr := (fun K => ga K "room_left") K
abbrev a_growth (K : Frag) : Addr := (fun K => ga K "growth") K
abbrev a_nights_with_room (K : Frag) : Addr := (fun K => ga K "nights_with_room") K
abbrev a_House_init (K : Frag) : Addr := (fun K => ma K (ga K "House") "__init__") K
abbrev a_House_all_there (K : Frag) : Addr := (fun K => wf K (ga K "House") "classmethod" "all_there") K
abbrev a_House_nights (K : Frag) : Addr := (fun K => propAt K (ga K "House") "nights") K
abbrev a_House_people (K : Frag) : Addr := (fun K => propAt K (ga K "House") "people") K
abbrev a_House_whole (K : Frag) : Addr := (fun K => propAt K (ga K "House") "whole") K
abbrev a_House_changed (K : Frag) : Addr := (fun K => ma K (ga K "House") "changed") K
abbrev a_House_here (K : Frag) : Addr := (fun K => ma K (ga K "House") "here") K
abbrev a_House_stretch (K : Frag) : Addr := (fun K => ma K (ga K "House") "stretch") K
abbrev a_Wants_init (K : Frag) : Addr := (fun K => ma K (ga K "Wants") "__init__") K
abbrev a_Wants_of (K : Frag) : Addr := (fun K => wf K (ga K "Wants") "classmethod" "of") K
abbrev a_Wants_len (K : Frag) : Addr := (fun K => ma K (ga K "Wants") "__len__") K
abbrev a_Wants_iter (K : Frag) : Addr := (fun K => ma K (ga K "Wants") "__iter__") K
abbrev a_Wants_getitem (K : Frag) : Addr := (fun K => ma K (ga K "Wants") "__getitem__") K
abbrev a_Wants_add (K : Frag) : Addr := (fun K => ma K (ga K "Wants") "__add__") K
abbrev a_Wants_mul (K : Frag) : Addr := (fun K => ma K (ga K "Wants") "__mul__") K
abbrev a_Wants_rmul (K : Frag) : Addr := (fun K => ma K (ga K "Wants") "__rmul__") K
abbrev a_Wants_lshift (K : Frag) : Addr := (fun K => ma K (ga K "Wants") "__lshift__") K
abbrev a_Wants_rshift (K : Frag) : Addr := (fun K => ma K (ga K "Wants") "__rshift__") K
abbrev a_Wants_neg (K : Frag) : Addr := (fun K => ma K (ga K "Wants") "__neg__") K
abbrev a_Wants_abs (K : Frag) : Addr := (fun K => ma K (ga K "Wants") "__abs__") K
abbrev a_law_pool (K : Frag) : Addr := (fun K => ga K "_law_pool") K
abbrev a_law_draw (K : Frag) : Addr := (fun K => ga K "_law_draw") K
abbrev a_law_comings (K : Frag) : Addr := (fun K => ga K "_law_comings") K
abbrev a_law_wants (K : Frag) : Addr := (fun K => ga K "_law_wants") K
abbrev a_law_size (K : Frag) : Addr := (fun K => ga K "_law_size") K
abbrev a_law_int (K : Frag) : Addr := (fun K => ga K "_law_int") K
abbrev a_law_same (K : Frag) : Addr := (fun K => ga K "_law_same") K
abbrev a_law_first (K : Frag) : Addr := (fun K => ga K "_law_first") K
abbrev a_law_shuffled (K : Frag) : Addr := (fun K => ga K "_law_shuffled") K
abbrev a_law_house (K : Frag) : Addr := (fun K => ga K "_law_house") K
abbrev a_law_groups (K : Frag) : Addr := (fun K => ga K "_law_groups") K
abbrev a_law_spoiled (K : Frag) : Addr := (fun K => ga K "_law_spoiled") K
abbrev a_law_person (K : Frag) : Addr := (fun K => ga K "_law_person") K
abbrev a_law_growth (K : Frag) : Addr := (fun K => ga K "_law_growth") K
abbrev a_law_due (K : Frag) : Addr := (fun K => ga K "_law_due") K
abbrev a_law_try (K : Frag) : Addr := (fun K => ga K "_law_try") K
abbrev a_law_grows (K : Frag) : Addr := (fun K => ga K "_law_grows") K
abbrev a_law (K : Frag) : Addr := (fun K => ga K "law") K
abbrev i_NoNight (K : Frag) : Addr := ma K (ga K "NoNight") "__init__"
abbrev i_NoPerson (K : Frag) : Addr := ma K (ga K "NoPerson") "__init__"
abbrev i_NamedTwice (K : Frag) : Addr := ma K (ga K "NamedTwice") "__init__"
abbrev i_BadNumber (K : Frag) : Addr := ma K (ga K "BadNumber") "__init__"
abbrev i_TooLong (K : Frag) : Addr := ma K (ga K "TooLong") "__init__"
abbrev i_BadRest (K : Frag) : Addr := ma K (ga K "BadRest") "__init__"
abbrev i_BadComing (K : Frag) : Addr := ma K (ga K "BadComing") "__init__"
abbrev n_wall : List Str := ["k"]
abbrev p_wall : List Str := ["k"]
theorem sc_wall : FnScope n_wall p_wall (defScope s_wall) := ⟨rfl, rfl, rfl, by decide +kernel, rfl, by decide +kernel, by decide +kernel⟩
abbrev n_check_count : List Str := ["count", "most"]
abbrev p_check_count : List Str := ["count", "most"]
theorem sc_check_count : FnScope n_check_count p_check_count (defScope s_check_count) := ⟨rfl, rfl, rfl, by decide +kernel, rfl, by decide +kernel, by decide +kernel⟩
abbrev n_check_number : List Str := ["place", "number", "greatest"]
abbrev p_check_number : List Str := ["place", "number", "greatest"]
theorem sc_check_number : FnScope n_check_number p_check_number (defScope s_check_number) := ⟨rfl, rfl, rfl, by decide +kernel, rfl, by decide +kernel, by decide +kernel⟩
abbrev n_check_numbers : List Str := ["numbers", "greatest", "index", "number"]
abbrev p_check_numbers : List Str := ["numbers", "greatest"]
theorem sc_check_numbers : FnScope n_check_numbers p_check_numbers (defScope s_check_numbers) := ⟨rfl, rfl, rfl, by decide +kernel, rfl, by decide +kernel, by decide +kernel⟩
abbrev n_check_not_negative : List Str := ["number"]
abbrev p_check_not_negative : List Str := ["number"]
theorem sc_check_not_negative : FnScope n_check_not_negative p_check_not_negative (defScope s_check_not_negative) := ⟨rfl, rfl, rfl, by decide +kernel, rfl, by decide +kernel, by decide +kernel⟩
abbrev n_check_rest : List Str := ["rest"]
abbrev p_check_rest : List Str := ["rest"]
theorem sc_check_rest : FnScope n_check_rest p_check_rest (defScope s_check_rest) := ⟨rfl, rfl, rfl, by decide +kernel, rfl, by decide +kernel, by decide +kernel⟩
abbrev n_check_night : List Str := ["night", "nights"]
abbrev p_check_night : List Str := ["night", "nights"]
theorem sc_check_night : FnScope n_check_night p_check_night (defScope s_check_night) := ⟨rfl, rfl, rfl, by decide +kernel, rfl, by decide +kernel, by decide +kernel⟩
abbrev n_check_person : List Str := ["house", "person"]
abbrev p_check_person : List Str := ["house", "person"]
theorem sc_check_person : FnScope n_check_person p_check_person (defScope s_check_person) := ⟨rfl, rfl, rfl, by decide +kernel, rfl, by decide +kernel, by decide +kernel⟩
abbrev n_check_people : List Str := ["house", "people", "index", "person"]
abbrev p_check_people : List Str := ["house", "people"]
theorem sc_check_people : FnScope n_check_people p_check_people (defScope s_check_people) := ⟨rfl, rfl, rfl, by decide +kernel, rfl, by decide +kernel, by decide +kernel⟩
abbrev n_first_choice : List Str := ["house", "people", "here", "night", "person"]
abbrev p_first_choice : List Str := ["house", "people"]
theorem sc_first_choice : FnScope n_first_choice p_first_choice (defScope s_first_choice) := ⟨rfl, rfl, rfl, by decide +kernel, rfl, by decide +kernel, by decide +kernel⟩
abbrev n_choose_first : List Str := ["wants", "rest", "here", "taken", "want", "count", "resting"]
abbrev p_choose_first : List Str := ["wants", "rest", "here"]
theorem sc_choose_first : FnScope n_choose_first p_choose_first (defScope s_choose_first) := ⟨rfl, rfl, rfl, by decide +kernel, rfl, by decide +kernel, by decide +kernel⟩
abbrev n_room_left : List Str := ["house", "people", "want", "taken"]
abbrev p_room_left : List Str := ["house", "people"]
theorem sc_room_left : FnScope n_room_left p_room_left (defScope s_room_left) := ⟨rfl, rfl, rfl, by decide +kernel, rfl, by decide +kernel, by decide +kernel⟩
abbrev n_growth : List Str := ["house", "people", "person", "room"]
abbrev p_growth : List Str := ["house", "people", "person"]
theorem sc_growth : FnScope n_growth p_growth (defScope s_growth) := ⟨rfl, rfl, rfl, by decide +kernel, rfl, by decide +kernel, by decide +kernel⟩
abbrev n_nights_with_room : List Str := ["house", "room", "person", "nights", "night", "rested"]
abbrev p_nights_with_room : List Str := ["house", "room", "person"]
theorem sc_nights_with_room : FnScope n_nights_with_room p_nights_with_room (defScope s_nights_with_room) := ⟨rfl, rfl, rfl, by decide +kernel, rfl, by decide +kernel, by decide +kernel⟩
abbrev n_House_init : List Str := ["self", "wants", "comings", "rest", "person", "coming"]
abbrev p_House_init : List Str := ["self", "wants", "comings", "rest"]
theorem sc_House_init : FnScope n_House_init p_House_init (defScope s_House_init) := ⟨rfl, rfl, rfl, by decide +kernel, rfl, by decide +kernel, by decide +kernel⟩
abbrev n_House_all_there : List Str := ["cls", "wants", "people", "rest"]
abbrev p_House_all_there : List Str := ["cls", "wants", "people", "rest"]
theorem sc_House_all_there : FnScope n_House_all_there p_House_all_there (defScope s_House_all_there) := ⟨rfl, rfl, rfl, by decide +kernel, rfl, by decide +kernel, by decide +kernel⟩
abbrev n_House_nights : List Str := ["self"]
abbrev p_House_nights : List Str := ["self"]
theorem sc_House_nights : FnScope n_House_nights p_House_nights (defScope s_House_nights) := ⟨rfl, rfl, rfl, by decide +kernel, rfl, by decide +kernel, by decide +kernel⟩
abbrev n_House_people : List Str := ["self"]
abbrev p_House_people : List Str := ["self"]
theorem sc_House_people : FnScope n_House_people p_House_people (defScope s_House_people) := ⟨rfl, rfl, rfl, by decide +kernel, rfl, by decide +kernel, by decide +kernel⟩
abbrev n_House_whole : List Str := ["self"]
abbrev p_House_whole : List Str := ["self"]
theorem sc_House_whole : FnScope n_House_whole p_House_whole (defScope s_House_whole) := ⟨rfl, rfl, rfl, by decide +kernel, rfl, by decide +kernel, by decide +kernel⟩
abbrev n_House_changed : List Str := ["self", "wants", "comings", "rest", "new_wants", "new_comings", "new_rest"]
abbrev p_House_changed : List Str := ["self", "wants", "comings", "rest"]
theorem sc_House_changed : FnScope n_House_changed p_House_changed (defScope s_House_changed) := ⟨rfl, rfl, rfl, by decide +kernel, rfl, by decide +kernel, by decide +kernel⟩
abbrev n_House_here : List Str := ["self", "night", "person", "coming"]
abbrev p_House_here : List Str := ["self", "night"]
theorem sc_House_here : FnScope n_House_here p_House_here (defScope s_House_here) := ⟨rfl, rfl, rfl, by decide +kernel, rfl, by decide +kernel, by decide +kernel⟩
abbrev n_House_stretch : List Str := ["self", "end"]
abbrev p_House_stretch : List Str := ["self", "end"]
theorem sc_House_stretch : FnScope n_House_stretch p_House_stretch (defScope s_House_stretch) := ⟨rfl, rfl, rfl, by decide +kernel, rfl, by decide +kernel, by decide +kernel⟩
abbrev n_Wants_init : List Str := ["self", "numbers"]
abbrev p_Wants_init : List Str := ["self", "numbers"]
theorem sc_Wants_init : FnScope n_Wants_init p_Wants_init (defScope s_Wants_init) := ⟨rfl, rfl, rfl, by decide +kernel, rfl, by decide +kernel, by decide +kernel⟩
abbrev n_Wants_of : List Str := ["cls", "times", "numbers"]
abbrev p_Wants_of : List Str := ["cls", "times", "numbers"]
theorem sc_Wants_of : FnScope n_Wants_of p_Wants_of (defScope s_Wants_of) := ⟨rfl, rfl, rfl, by decide +kernel, rfl, by decide +kernel, by decide +kernel⟩
abbrev n_Wants_len : List Str := ["self"]
abbrev p_Wants_len : List Str := ["self"]
theorem sc_Wants_len : FnScope n_Wants_len p_Wants_len (defScope s_Wants_len) := ⟨rfl, rfl, rfl, by decide +kernel, rfl, by decide +kernel, by decide +kernel⟩
abbrev n_Wants_iter : List Str := ["self"]
abbrev p_Wants_iter : List Str := ["self"]
theorem sc_Wants_iter : FnScope n_Wants_iter p_Wants_iter (defScope s_Wants_iter) := ⟨rfl, rfl, rfl, by decide +kernel, rfl, by decide +kernel, by decide +kernel⟩
abbrev n_Wants_getitem : List Str := ["self", "at"]
abbrev p_Wants_getitem : List Str := ["self", "at"]
theorem sc_Wants_getitem : FnScope n_Wants_getitem p_Wants_getitem (defScope s_Wants_getitem) := ⟨rfl, rfl, rfl, by decide +kernel, rfl, by decide +kernel, by decide +kernel⟩
abbrev n_Wants_add : List Str := ["self", "other"]
abbrev p_Wants_add : List Str := ["self", "other"]
theorem sc_Wants_add : FnScope n_Wants_add p_Wants_add (defScope s_Wants_add) := ⟨rfl, rfl, rfl, by decide +kernel, rfl, by decide +kernel, by decide +kernel⟩
abbrev n_Wants_mul : List Str := ["self", "other", "nights"]
abbrev p_Wants_mul : List Str := ["self", "other"]
theorem sc_Wants_mul : FnScope n_Wants_mul p_Wants_mul (defScope s_Wants_mul) := ⟨rfl, rfl, rfl, by decide +kernel, rfl, by decide +kernel, by decide +kernel⟩
abbrev n_Wants_rmul : List Str := ["self", "other"]
abbrev p_Wants_rmul : List Str := ["self", "other"]
theorem sc_Wants_rmul : FnScope n_Wants_rmul p_Wants_rmul (defScope s_Wants_rmul) := ⟨rfl, rfl, rfl, by decide +kernel, rfl, by decide +kernel, by decide +kernel⟩
abbrev n_Wants_lshift : List Str := ["self", "other"]
abbrev p_Wants_lshift : List Str := ["self", "other"]
theorem sc_Wants_lshift : FnScope n_Wants_lshift p_Wants_lshift (defScope s_Wants_lshift) := ⟨rfl, rfl, rfl, by decide +kernel, rfl, by decide +kernel, by decide +kernel⟩
abbrev n_Wants_rshift : List Str := ["self", "other"]
abbrev p_Wants_rshift : List Str := ["self", "other"]
theorem sc_Wants_rshift : FnScope n_Wants_rshift p_Wants_rshift (defScope s_Wants_rshift) := ⟨rfl, rfl, rfl, by decide +kernel, rfl, by decide +kernel, by decide +kernel⟩
abbrev n_Wants_neg : List Str := ["self"]
abbrev p_Wants_neg : List Str := ["self"]
theorem sc_Wants_neg : FnScope n_Wants_neg p_Wants_neg (defScope s_Wants_neg) := ⟨rfl, rfl, rfl, by decide +kernel, rfl, by decide +kernel, by decide +kernel⟩
abbrev n_Wants_abs : List Str := ["self"]
abbrev p_Wants_abs : List Str := ["self"]
theorem sc_Wants_abs : FnScope n_Wants_abs p_Wants_abs (defScope s_Wants_abs) := ⟨rfl, rfl, rfl, by decide +kernel, rfl, by decide +kernel, by decide +kernel⟩
abbrev n_law_pool : List Str := ["script", "at", "cell"]
abbrev p_law_pool : List Str := ["script", "at"]
theorem sc_law_pool : FnScope n_law_pool p_law_pool (defScope s_law_pool) := ⟨rfl, rfl, rfl, by decide +kernel, rfl, by decide +kernel, by decide +kernel⟩
abbrev n_law_draw : List Str := ["pool", "many", "value", "mixed"]
abbrev p_law_draw : List Str := ["pool", "many"]
theorem sc_law_draw : FnScope n_law_draw p_law_draw (defScope s_law_draw) := ⟨rfl, rfl, rfl, by decide +kernel, rfl, by decide +kernel, by decide +kernel⟩
abbrev n_law_comings : List Str := ["pool", "people", "nights", "comings", "person", "night"]
abbrev p_law_comings : List Str := ["pool", "people", "nights"]
theorem sc_law_comings : FnScope n_law_comings p_law_comings (defScope s_law_comings) := ⟨rfl, rfl, rfl, by decide +kernel, rfl, by decide +kernel, by decide +kernel⟩
abbrev n_law_wants : List Str := ["pool", "nights", "most", "night"]
abbrev p_law_wants : List Str := ["pool", "nights", "most"]
theorem sc_law_wants : FnScope n_law_wants p_law_wants (defScope s_law_wants) := ⟨rfl, rfl, rfl, by decide +kernel, rfl, by decide +kernel, by decide +kernel⟩
abbrev n_law_size : List Str := ["pool", "most"]
abbrev p_law_size : List Str := ["pool", "most"]
theorem sc_law_size : FnScope n_law_size p_law_size (defScope s_law_size) := ⟨rfl, rfl, rfl, by decide +kernel, rfl, by decide +kernel, by decide +kernel⟩
abbrev n_law_int : List Str := ["x"]
abbrev p_law_int : List Str := ["x"]
theorem sc_law_int : FnScope n_law_int p_law_int (defScope s_law_int) := ⟨rfl, rfl, rfl, by decide +kernel, rfl, by decide +kernel, by decide +kernel⟩
abbrev n_law_same : List Str := ["got", "due", "place"]
abbrev p_law_same : List Str := ["got", "due"]
theorem sc_law_same : FnScope n_law_same p_law_same (defScope s_law_same) := ⟨rfl, rfl, rfl, by decide +kernel, rfl, by decide +kernel, by decide +kernel⟩
abbrev n_law_first : List Str := ["days", "starts", "gap", "people", "row", "place", "here", "person"]
abbrev p_law_first : List Str := ["days", "starts", "gap", "people"]
theorem sc_law_first : FnScope n_law_first p_law_first (defScope s_law_first) := ⟨rfl, rfl, rfl, by decide +kernel, rfl, by decide +kernel, by decide +kernel⟩
abbrev n_law_shuffled : List Str := ["pool", "row", "left", "done", "turn", "place"]
abbrev p_law_shuffled : List Str := ["pool", "row"]
theorem sc_law_shuffled : FnScope n_law_shuffled p_law_shuffled (defScope s_law_shuffled) := ⟨rfl, rfl, rfl, by decide +kernel, rfl, by decide +kernel, by decide +kernel⟩
abbrev n_law_house : List Str := ["pool", "sizes", "nights", "people", "gap", "starts", "most"]
abbrev p_law_house : List Str := ["pool"]
theorem sc_law_house : FnScope n_law_house p_law_house (defScope s_law_house) := ⟨rfl, rfl, rfl, by decide +kernel, rfl, by decide +kernel, by decide +kernel⟩
abbrev n_law_groups : List Str := ["pool", "people", "ways", "person", "inner", "outer", "free"]
abbrev p_law_groups : List Str := ["pool", "people"]
theorem sc_law_groups : FnScope n_law_groups p_law_groups (defScope s_law_groups) := ⟨rfl, rfl, rfl, by decide +kernel, rfl, by decide +kernel, by decide +kernel⟩
abbrev n_law_spoiled : List Str := ["pool", "group", "people", "place", "entry"]
abbrev p_law_spoiled : List Str := ["pool", "group", "people"]
theorem sc_law_spoiled : FnScope n_law_spoiled p_law_spoiled (defScope s_law_spoiled) := ⟨rfl, rfl, rfl, by decide +kernel, rfl, by decide +kernel, by decide +kernel⟩
abbrev n_law_person : List Str := ["pool", "free", "people", "way"]
abbrev p_law_person : List Str := ["pool", "free", "people"]
theorem sc_law_person : FnScope n_law_person p_law_person (defScope s_law_person) := ⟨rfl, rfl, rfl, by decide +kernel, rfl, by decide +kernel, by decide +kernel⟩
abbrev n_law_growth : List Str := ["part", "group", "person", "chosen", "nights", "night", "near", "earlier"]
abbrev p_law_growth : List Str := ["part", "group", "person"]
theorem sc_law_growth : FnScope n_law_growth p_law_growth (defScope s_law_growth) := ⟨rfl, rfl, rfl, by decide +kernel, rfl, by decide +kernel, by decide +kernel⟩
abbrev n_law_due : List Str := ["part", "group", "person", "people", "place"]
abbrev p_law_due : List Str := ["part", "group", "person"]
theorem sc_law_due : FnScope n_law_due p_law_due (defScope s_law_due) := ⟨rfl, rfl, rfl, by decide +kernel, rfl, by decide +kernel, by decide +kernel⟩
abbrev n_law_try : List Str := ["house", "group", "person", "told", "word", "e"]
abbrev p_law_try : List Str := ["house", "group", "person"]
theorem sc_law_try : FnScope n_law_try p_law_try (defScope s_law_try) := ⟨rfl, rfl, rfl, by decide +kernel, rfl, by decide +kernel, by decide +kernel⟩
abbrev n_law_grows : List Str := ["house", "part", "group", "person", "place", "nights", "chosen", "due", "at", "wider"]
abbrev p_law_grows : List Str := ["house", "part", "group", "person", "place"]
theorem sc_law_grows : FnScope n_law_grows p_law_grows (defScope s_law_grows) := ⟨rfl, rfl, rfl, by decide +kernel, rfl, by decide +kernel, by decide +kernel⟩
abbrev n_law : List Str := ["script", "part", "house", "people", "pool", "drawn", "person", "groups", "turn", "group", "due", "given", "found", "handed"]
abbrev p_law : List Str := ["script"]
theorem sc_law : FnScope n_law p_law (defScope s_law) := ⟨rfl, rfl, rfl, by decide +kernel, rfl, by decide +kernel, by decide +kernel⟩
theorem bi_wall {K : Frag} {fd : FuncData} (F : FunD K "_wall" "_wall" (defArgs s_wall) (defBody s_wall) (defScope s_wall) [] [] (a_wall K) fd) : Binds K fd p_wall [] := F.bindsN fun _ _ _ _ _ _ us hl => (match us, hl with | [_], _ => rfl)
theorem bi_check_count {K : Frag} {fd : FuncData} (F : FunD K "check_count" "check_count" (defArgs s_check_count) (defBody s_check_count) (defScope s_check_count) [] [] (a_check_count K) fd) : Binds K fd p_check_count [] := F.bindsN fun _ _ _ _ _ _ us hl => (match us, hl with | [_, _], _ => rfl)
theorem bi_check_number {K : Frag} {fd : FuncData} (F : FunD K "check_number" "check_number" (defArgs s_check_number) (defBody s_check_number) (defScope s_check_number) [] [] (a_check_number K) fd) : Binds K fd p_check_number [] := F.bindsN fun _ _ _ _ _ _ us hl => (match us, hl with | [_, _, _], _ => rfl)
theorem bi_check_numbers {K : Frag} {fd : FuncData} (F : FunD K "check_numbers" "check_numbers" (defArgs s_check_numbers) (defBody s_check_numbers) (defScope s_check_numbers) [] [] (a_check_numbers K) fd) : Binds K fd p_check_numbers [] := F.bindsN fun _ _ _ _ _ _ us hl => (match us, hl with | [_, _], _ => rfl)
theorem bi_check_not_negative {K : Frag} {fd : FuncData} (F : FunD K "check_not_negative" "check_not_negative" (defArgs s_check_not_negative) (defBody s_check_not_negative) (defScope s_check_not_negative) [] [] (a_check_not_negative K) fd) : Binds K fd p_check_not_negative [] := F.bindsN fun _ _ _ _ _ _ us hl => (match us, hl with | [_], _ => rfl)
theorem bi_check_rest {K : Frag} {fd : FuncData} (F : FunD K "check_rest" "check_rest" (defArgs s_check_rest) (defBody s_check_rest) (defScope s_check_rest) [] [] (a_check_rest K) fd) : Binds K fd p_check_rest [] := F.bindsN fun _ _ _ _ _ _ us hl => (match us, hl with | [_], _ => rfl)
theorem bi_check_night {K : Frag} {fd : FuncData} (F : FunD K "check_night" "check_night" (defArgs s_check_night) (defBody s_check_night) (defScope s_check_night) [] [] (a_check_night K) fd) : Binds K fd p_check_night [] := F.bindsN fun _ _ _ _ _ _ us hl => (match us, hl with | [_, _], _ => rfl)
theorem bi_check_person {K : Frag} {fd : FuncData} (F : FunD K "check_person" "check_person" (defArgs s_check_person) (defBody s_check_person) (defScope s_check_person) [] [] (a_check_person K) fd) : Binds K fd p_check_person [] := F.bindsN fun _ _ _ _ _ _ us hl => (match us, hl with | [_, _], _ => rfl)
theorem bi_check_people {K : Frag} {fd : FuncData} (F : FunD K "check_people" "check_people" (defArgs s_check_people) (defBody s_check_people) (defScope s_check_people) [] [] (a_check_people K) fd) : Binds K fd p_check_people [] := F.bindsN fun _ _ _ _ _ _ us hl => (match us, hl with | [_, _], _ => rfl)
theorem bi_first_choice {K : Frag} {fd : FuncData} (F : FunD K "first_choice" "first_choice" (defArgs s_first_choice) (defBody s_first_choice) (defScope s_first_choice) [] [] (a_first_choice K) fd) : Binds K fd p_first_choice [] := F.bindsN fun _ _ _ _ _ _ us hl => (match us, hl with | [_, _], _ => rfl)
theorem bi_choose_first {K : Frag} {fd : FuncData} (F : FunD K "choose_first" "choose_first" (defArgs s_choose_first) (defBody s_choose_first) (defScope s_choose_first) [] [] (a_choose_first K) fd) : Binds K fd p_choose_first [] := F.bindsN fun _ _ _ _ _ _ us hl => (match us, hl with | [_, _, _], _ => rfl)
theorem bi_room_left {K : Frag} {fd : FuncData} (F : FunD K "room_left" "room_left" (defArgs s_room_left) (defBody s_room_left) (defScope s_room_left) [] [] (a_room_left K) fd) : Binds K fd p_room_left [] := F.bindsN fun _ _ _ _ _ _ us hl => (match us, hl with | [_, _], _ => rfl)
theorem bi_growth {K : Frag} {fd : FuncData} (F : FunD K "growth" "growth" (defArgs s_growth) (defBody s_growth) (defScope s_growth) [] [] (a_growth K) fd) : Binds K fd p_growth [] := F.bindsN fun _ _ _ _ _ _ us hl => (match us, hl with | [_, _, _], _ => rfl)
theorem bi_nights_with_room {K : Frag} {fd : FuncData} (F : FunD K "nights_with_room" "nights_with_room" (defArgs s_nights_with_room) (defBody s_nights_with_room) (defScope s_nights_with_room) [] [] (a_nights_with_room K) fd) : Binds K fd p_nights_with_room [] := F.bindsN fun _ _ _ _ _ _ us hl => (match us, hl with | [_, _, _], _ => rfl)
theorem bi_House_nights {K : Frag} {fd : FuncData} (F : FunD K "nights" "House.nights" (defArgs s_House_nights) (defBody s_House_nights) (defScope s_House_nights) [] [] (a_House_nights K) fd) : Binds K fd p_House_nights [] := F.bindsN fun _ _ _ _ _ _ us hl => (match us, hl with | [_], _ => rfl)
theorem bi_House_people {K : Frag} {fd : FuncData} (F : FunD K "people" "House.people" (defArgs s_House_people) (defBody s_House_people) (defScope s_House_people) [] [] (a_House_people K) fd) : Binds K fd p_House_people [] := F.bindsN fun _ _ _ _ _ _ us hl => (match us, hl with | [_], _ => rfl)
theorem bi_House_whole {K : Frag} {fd : FuncData} (F : FunD K "whole" "House.whole" (defArgs s_House_whole) (defBody s_House_whole) (defScope s_House_whole) [] [] (a_House_whole K) fd) : Binds K fd p_House_whole [] := F.bindsN fun _ _ _ _ _ _ us hl => (match us, hl with | [_], _ => rfl)
theorem bi_House_here {K : Frag} {fd : FuncData} (F : FunD K "here" "House.here" (defArgs s_House_here) (defBody s_House_here) (defScope s_House_here) [] [] (a_House_here K) fd) : Binds K fd p_House_here [] := F.bindsN fun _ _ _ _ _ _ us hl => (match us, hl with | [_, _], _ => rfl)
theorem bi_House_stretch {K : Frag} {fd : FuncData} (F : FunD K "stretch" "House.stretch" (defArgs s_House_stretch) (defBody s_House_stretch) (defScope s_House_stretch) [] [] (a_House_stretch K) fd) : Binds K fd p_House_stretch [] := F.bindsN fun _ _ _ _ _ _ us hl => (match us, hl with | [_, _], _ => rfl)
theorem bi_Wants_init {K : Frag} {fd : FuncData} (F : FunD K "__init__" "Wants.__init__" (defArgs s_Wants_init) (defBody s_Wants_init) (defScope s_Wants_init) [] [] (a_Wants_init K) fd) : Binds K fd p_Wants_init [] := F.bindsN fun _ _ _ _ _ _ us hl => (match us, hl with | [_, _], _ => rfl)
theorem bi_Wants_len {K : Frag} {fd : FuncData} (F : FunD K "__len__" "Wants.__len__" (defArgs s_Wants_len) (defBody s_Wants_len) (defScope s_Wants_len) [] [] (a_Wants_len K) fd) : Binds K fd p_Wants_len [] := F.bindsN fun _ _ _ _ _ _ us hl => (match us, hl with | [_], _ => rfl)
theorem bi_Wants_iter {K : Frag} {fd : FuncData} (F : FunD K "__iter__" "Wants.__iter__" (defArgs s_Wants_iter) (defBody s_Wants_iter) (defScope s_Wants_iter) [] [] (a_Wants_iter K) fd) : Binds K fd p_Wants_iter [] := F.bindsN fun _ _ _ _ _ _ us hl => (match us, hl with | [_], _ => rfl)
theorem bi_Wants_getitem {K : Frag} {fd : FuncData} (F : FunD K "__getitem__" "Wants.__getitem__" (defArgs s_Wants_getitem) (defBody s_Wants_getitem) (defScope s_Wants_getitem) [] [] (a_Wants_getitem K) fd) : Binds K fd p_Wants_getitem [] := F.bindsN fun _ _ _ _ _ _ us hl => (match us, hl with | [_, _], _ => rfl)
theorem bi_Wants_add {K : Frag} {fd : FuncData} (F : FunD K "__add__" "Wants.__add__" (defArgs s_Wants_add) (defBody s_Wants_add) (defScope s_Wants_add) [] [] (a_Wants_add K) fd) : Binds K fd p_Wants_add [] := F.bindsN fun _ _ _ _ _ _ us hl => (match us, hl with | [_, _], _ => rfl)
theorem bi_Wants_mul {K : Frag} {fd : FuncData} (F : FunD K "__mul__" "Wants.__mul__" (defArgs s_Wants_mul) (defBody s_Wants_mul) (defScope s_Wants_mul) [] [] (a_Wants_mul K) fd) : Binds K fd p_Wants_mul [] := F.bindsN fun _ _ _ _ _ _ us hl => (match us, hl with | [_, _], _ => rfl)
theorem bi_Wants_rmul {K : Frag} {fd : FuncData} (F : FunD K "__rmul__" "Wants.__rmul__" (defArgs s_Wants_rmul) (defBody s_Wants_rmul) (defScope s_Wants_rmul) [] [] (a_Wants_rmul K) fd) : Binds K fd p_Wants_rmul [] := F.bindsN fun _ _ _ _ _ _ us hl => (match us, hl with | [_, _], _ => rfl)
theorem bi_Wants_lshift {K : Frag} {fd : FuncData} (F : FunD K "__lshift__" "Wants.__lshift__" (defArgs s_Wants_lshift) (defBody s_Wants_lshift) (defScope s_Wants_lshift) [] [] (a_Wants_lshift K) fd) : Binds K fd p_Wants_lshift [] := F.bindsN fun _ _ _ _ _ _ us hl => (match us, hl with | [_, _], _ => rfl)
theorem bi_Wants_rshift {K : Frag} {fd : FuncData} (F : FunD K "__rshift__" "Wants.__rshift__" (defArgs s_Wants_rshift) (defBody s_Wants_rshift) (defScope s_Wants_rshift) [] [] (a_Wants_rshift K) fd) : Binds K fd p_Wants_rshift [] := F.bindsN fun _ _ _ _ _ _ us hl => (match us, hl with | [_, _], _ => rfl)
theorem bi_Wants_neg {K : Frag} {fd : FuncData} (F : FunD K "__neg__" "Wants.__neg__" (defArgs s_Wants_neg) (defBody s_Wants_neg) (defScope s_Wants_neg) [] [] (a_Wants_neg K) fd) : Binds K fd p_Wants_neg [] := F.bindsN fun _ _ _ _ _ _ us hl => (match us, hl with | [_], _ => rfl)
theorem bi_Wants_abs {K : Frag} {fd : FuncData} (F : FunD K "__abs__" "Wants.__abs__" (defArgs s_Wants_abs) (defBody s_Wants_abs) (defScope s_Wants_abs) [] [] (a_Wants_abs K) fd) : Binds K fd p_Wants_abs [] := F.bindsN fun _ _ _ _ _ _ us hl => (match us, hl with | [_], _ => rfl)
theorem bi_law_pool {K : Frag} {fd : FuncData} (F : FunD K "_law_pool" "_law_pool" (defArgs s_law_pool) (defBody s_law_pool) (defScope s_law_pool) [] [] (a_law_pool K) fd) : Binds K fd p_law_pool [] := F.bindsN fun _ _ _ _ _ _ us hl => (match us, hl with | [_, _], _ => rfl)
theorem bi_law_draw {K : Frag} {fd : FuncData} (F : FunD K "_law_draw" "_law_draw" (defArgs s_law_draw) (defBody s_law_draw) (defScope s_law_draw) [] [] (a_law_draw K) fd) : Binds K fd p_law_draw [] := F.bindsN fun _ _ _ _ _ _ us hl => (match us, hl with | [_, _], _ => rfl)
theorem bi_law_comings {K : Frag} {fd : FuncData} (F : FunD K "_law_comings" "_law_comings" (defArgs s_law_comings) (defBody s_law_comings) (defScope s_law_comings) [] [] (a_law_comings K) fd) : Binds K fd p_law_comings [] := F.bindsN fun _ _ _ _ _ _ us hl => (match us, hl with | [_, _, _], _ => rfl)
theorem bi_law_wants {K : Frag} {fd : FuncData} (F : FunD K "_law_wants" "_law_wants" (defArgs s_law_wants) (defBody s_law_wants) (defScope s_law_wants) [] [] (a_law_wants K) fd) : Binds K fd p_law_wants [] := F.bindsN fun _ _ _ _ _ _ us hl => (match us, hl with | [_, _, _], _ => rfl)
theorem bi_law_size {K : Frag} {fd : FuncData} (F : FunD K "_law_size" "_law_size" (defArgs s_law_size) (defBody s_law_size) (defScope s_law_size) [] [] (a_law_size K) fd) : Binds K fd p_law_size [] := F.bindsN fun _ _ _ _ _ _ us hl => (match us, hl with | [_, _], _ => rfl)
theorem bi_law_int {K : Frag} {fd : FuncData} (F : FunD K "_law_int" "_law_int" (defArgs s_law_int) (defBody s_law_int) (defScope s_law_int) [] [] (a_law_int K) fd) : Binds K fd p_law_int [] := F.bindsN fun _ _ _ _ _ _ us hl => (match us, hl with | [_], _ => rfl)
theorem bi_law_same {K : Frag} {fd : FuncData} (F : FunD K "_law_same" "_law_same" (defArgs s_law_same) (defBody s_law_same) (defScope s_law_same) [] [] (a_law_same K) fd) : Binds K fd p_law_same [] := F.bindsN fun _ _ _ _ _ _ us hl => (match us, hl with | [_, _], _ => rfl)
theorem bi_law_first {K : Frag} {fd : FuncData} (F : FunD K "_law_first" "_law_first" (defArgs s_law_first) (defBody s_law_first) (defScope s_law_first) [] [] (a_law_first K) fd) : Binds K fd p_law_first [] := F.bindsN fun _ _ _ _ _ _ us hl => (match us, hl with | [_, _, _, _], _ => rfl)
theorem bi_law_shuffled {K : Frag} {fd : FuncData} (F : FunD K "_law_shuffled" "_law_shuffled" (defArgs s_law_shuffled) (defBody s_law_shuffled) (defScope s_law_shuffled) [] [] (a_law_shuffled K) fd) : Binds K fd p_law_shuffled [] := F.bindsN fun _ _ _ _ _ _ us hl => (match us, hl with | [_, _], _ => rfl)
theorem bi_law_house {K : Frag} {fd : FuncData} (F : FunD K "_law_house" "_law_house" (defArgs s_law_house) (defBody s_law_house) (defScope s_law_house) [] [] (a_law_house K) fd) : Binds K fd p_law_house [] := F.bindsN fun _ _ _ _ _ _ us hl => (match us, hl with | [_], _ => rfl)
theorem bi_law_groups {K : Frag} {fd : FuncData} (F : FunD K "_law_groups" "_law_groups" (defArgs s_law_groups) (defBody s_law_groups) (defScope s_law_groups) [] [] (a_law_groups K) fd) : Binds K fd p_law_groups [] := F.bindsN fun _ _ _ _ _ _ us hl => (match us, hl with | [_, _], _ => rfl)
theorem bi_law_spoiled {K : Frag} {fd : FuncData} (F : FunD K "_law_spoiled" "_law_spoiled" (defArgs s_law_spoiled) (defBody s_law_spoiled) (defScope s_law_spoiled) [] [] (a_law_spoiled K) fd) : Binds K fd p_law_spoiled [] := F.bindsN fun _ _ _ _ _ _ us hl => (match us, hl with | [_, _, _], _ => rfl)
theorem bi_law_person {K : Frag} {fd : FuncData} (F : FunD K "_law_person" "_law_person" (defArgs s_law_person) (defBody s_law_person) (defScope s_law_person) [] [] (a_law_person K) fd) : Binds K fd p_law_person [] := F.bindsN fun _ _ _ _ _ _ us hl => (match us, hl with | [_, _, _], _ => rfl)
theorem bi_law_growth {K : Frag} {fd : FuncData} (F : FunD K "_law_growth" "_law_growth" (defArgs s_law_growth) (defBody s_law_growth) (defScope s_law_growth) [] [] (a_law_growth K) fd) : Binds K fd p_law_growth [] := F.bindsN fun _ _ _ _ _ _ us hl => (match us, hl with | [_, _, _], _ => rfl)
theorem bi_law_due {K : Frag} {fd : FuncData} (F : FunD K "_law_due" "_law_due" (defArgs s_law_due) (defBody s_law_due) (defScope s_law_due) [] [] (a_law_due K) fd) : Binds K fd p_law_due [] := F.bindsN fun _ _ _ _ _ _ us hl => (match us, hl with | [_, _, _], _ => rfl)
theorem bi_law_try {K : Frag} {fd : FuncData} (F : FunD K "_law_try" "_law_try" (defArgs s_law_try) (defBody s_law_try) (defScope s_law_try) [] [] (a_law_try K) fd) : Binds K fd p_law_try [] := F.bindsN fun _ _ _ _ _ _ us hl => (match us, hl with | [_, _, _], _ => rfl)
theorem bi_law_grows {K : Frag} {fd : FuncData} (F : FunD K "_law_grows" "_law_grows" (defArgs s_law_grows) (defBody s_law_grows) (defScope s_law_grows) [] [] (a_law_grows K) fd) : Binds K fd p_law_grows [] := F.bindsN fun _ _ _ _ _ _ us hl => (match us, hl with | [_, _, _, _, _], _ => rfl)
theorem bi_law {K : Frag} {fd : FuncData} (F : FunD K "law" "law" (defArgs s_law) (defBody s_law) (defScope s_law) [] [] (a_law K) fd) : Binds K fd p_law [] := F.bindsN fun _ _ _ _ _ _ us hl => (match us, hl with | [_], _ => rfl)
structure Tx (K : Frag) (mg : Str → Option Value) : Prop where
  any : nsIn K cStatics "thirdparty.any" = some none
  m_super : mg "super" = none
  m_len : mg "len" = none
  m_enumerate : mg "enumerate" = none
  m_tuple : mg "tuple" = none
  m_sum : mg "sum" = none
  m_abs : mg "abs" = none
  m_int : mg "int" = none
  m_range : mg "range" = none
  m_isinstance : mg "isinstance" = none
  m_bool : mg "bool" = none
  m_str : mg "str" = none
  m_list : mg "list" = none
  m_max : mg "max" = none
  m_min : mg "min" = none
  m_zip : mg "zip" = none
  m_iter : mg "iter" = none
  m_ValueError : mg "ValueError" = none
  g_wall : mg "_wall" = some (.ref (a_wall K))
  g_check_count : mg "check_count" = some (.ref (a_check_count K))
  g_check_number : mg "check_number" = some (.ref (a_check_number K))
  g_check_numbers : mg "check_numbers" = some (.ref (a_check_numbers K))
  g_check_not_negative : mg "check_not_negative" = some (.ref (a_check_not_negative K))
  g_check_rest : mg "check_rest" = some (.ref (a_check_rest K))
  g_check_night : mg "check_night" = some (.ref (a_check_night K))
  g_check_person : mg "check_person" = some (.ref (a_check_person K))
  g_check_people : mg "check_people" = some (.ref (a_check_people K))
  g_first_choice : mg "first_choice" = some (.ref (a_first_choice K))
  g_choose_first : mg "choose_first" = some (.ref (a_choose_first K))
  g_room_left : mg "room_left" = some (.ref (a_room_left K))
  g_growth : mg "growth" = some (.ref (a_growth K))
  g_nights_with_room : mg "nights_with_room" = some (.ref (a_nights_with_room K))
  g_law_pool : mg "_law_pool" = some (.ref (a_law_pool K))
  g_law_draw : mg "_law_draw" = some (.ref (a_law_draw K))
  g_law_comings : mg "_law_comings" = some (.ref (a_law_comings K))
  g_law_wants : mg "_law_wants" = some (.ref (a_law_wants K))
  g_law_size : mg "_law_size" = some (.ref (a_law_size K))
  g_law_int : mg "_law_int" = some (.ref (a_law_int K))
  g_law_same : mg "_law_same" = some (.ref (a_law_same K))
  g_law_first : mg "_law_first" = some (.ref (a_law_first K))
  g_law_shuffled : mg "_law_shuffled" = some (.ref (a_law_shuffled K))
  g_law_house : mg "_law_house" = some (.ref (a_law_house K))
  g_law_groups : mg "_law_groups" = some (.ref (a_law_groups K))
  g_law_spoiled : mg "_law_spoiled" = some (.ref (a_law_spoiled K))
  g_law_person : mg "_law_person" = some (.ref (a_law_person K))
  g_law_growth : mg "_law_growth" = some (.ref (a_law_growth K))
  g_law_due : mg "_law_due" = some (.ref (a_law_due K))
  g_law_try : mg "_law_try" = some (.ref (a_law_try K))
  g_law_grows : mg "_law_grows" = some (.ref (a_law_grows K))
  g_law : mg "law" = some (.ref (a_law K))
  f_wall : ∃ fd, FunD K "_wall" "_wall" (defArgs s_wall) (defBody s_wall) (defScope s_wall) [] [] (a_wall K) fd
  f_check_count : ∃ fd, FunD K "check_count" "check_count" (defArgs s_check_count) (defBody s_check_count) (defScope s_check_count) [] [] (a_check_count K) fd
  f_check_number : ∃ fd, FunD K "check_number" "check_number" (defArgs s_check_number) (defBody s_check_number) (defScope s_check_number) [] [] (a_check_number K) fd
  f_check_numbers : ∃ fd, FunD K "check_numbers" "check_numbers" (defArgs s_check_numbers) (defBody s_check_numbers) (defScope s_check_numbers) [] [] (a_check_numbers K) fd
  f_check_not_negative : ∃ fd, FunD K "check_not_negative" "check_not_negative" (defArgs s_check_not_negative) (defBody s_check_not_negative) (defScope s_check_not_negative) [] [] (a_check_not_negative K) fd
  f_check_rest : ∃ fd, FunD K "check_rest" "check_rest" (defArgs s_check_rest) (defBody s_check_rest) (defScope s_check_rest) [] [] (a_check_rest K) fd
  f_check_night : ∃ fd, FunD K "check_night" "check_night" (defArgs s_check_night) (defBody s_check_night) (defScope s_check_night) [] [] (a_check_night K) fd
  f_check_person : ∃ fd, FunD K "check_person" "check_person" (defArgs s_check_person) (defBody s_check_person) (defScope s_check_person) [] [] (a_check_person K) fd
  f_check_people : ∃ fd, FunD K "check_people" "check_people" (defArgs s_check_people) (defBody s_check_people) (defScope s_check_people) [] [] (a_check_people K) fd
  f_first_choice : ∃ fd, FunD K "first_choice" "first_choice" (defArgs s_first_choice) (defBody s_first_choice) (defScope s_first_choice) [] [] (a_first_choice K) fd
  f_choose_first : ∃ fd, FunD K "choose_first" "choose_first" (defArgs s_choose_first) (defBody s_choose_first) (defScope s_choose_first) [] [] (a_choose_first K) fd
  f_room_left : ∃ fd, FunD K "room_left" "room_left" (defArgs s_room_left) (defBody s_room_left) (defScope s_room_left) [] [] (a_room_left K) fd
  f_growth : ∃ fd, FunD K "growth" "growth" (defArgs s_growth) (defBody s_growth) (defScope s_growth) [] [] (a_growth K) fd
  f_nights_with_room : ∃ fd, FunD K "nights_with_room" "nights_with_room" (defArgs s_nights_with_room) (defBody s_nights_with_room) (defScope s_nights_with_room) [] [] (a_nights_with_room K) fd
  f_House_init : ∃ fd, FunD K "__init__" "House.__init__" (defArgs s_House_init) (defBody s_House_init) (defScope s_House_init) [] [("rest", .int 1)] (a_House_init K) fd
  f_House_all_there : ∃ fd, FunD K "all_there" "House.all_there" (defArgs s_House_all_there) (defBody s_House_all_there) (defScope s_House_all_there) [] [("rest", .int 1)] (a_House_all_there K) fd
  f_House_nights : ∃ fd, FunD K "nights" "House.nights" (defArgs s_House_nights) (defBody s_House_nights) (defScope s_House_nights) [] [] (a_House_nights K) fd
  f_House_people : ∃ fd, FunD K "people" "House.people" (defArgs s_House_people) (defBody s_House_people) (defScope s_House_people) [] [] (a_House_people K) fd
  f_House_whole : ∃ fd, FunD K "whole" "House.whole" (defArgs s_House_whole) (defBody s_House_whole) (defScope s_House_whole) [] [] (a_House_whole K) fd
  f_House_changed : ∃ fd, FunD K "changed" "House.changed" (defArgs s_House_changed) (defBody s_House_changed) (defScope s_House_changed) [] [("wants", .non), ("comings", .non), ("rest", .non)] (a_House_changed K) fd
  f_House_here : ∃ fd, FunD K "here" "House.here" (defArgs s_House_here) (defBody s_House_here) (defScope s_House_here) [] [] (a_House_here K) fd
  f_House_stretch : ∃ fd, FunD K "stretch" "House.stretch" (defArgs s_House_stretch) (defBody s_House_stretch) (defScope s_House_stretch) [] [] (a_House_stretch K) fd
  f_Wants_init : ∃ fd, FunD K "__init__" "Wants.__init__" (defArgs s_Wants_init) (defBody s_Wants_init) (defScope s_Wants_init) [] [] (a_Wants_init K) fd
  f_Wants_of : ∃ fd, FunD K "of" "Wants.of" (defArgs s_Wants_of) (defBody s_Wants_of) (defScope s_Wants_of) [] [("times", .int 1)] (a_Wants_of K) fd
  f_Wants_len : ∃ fd, FunD K "__len__" "Wants.__len__" (defArgs s_Wants_len) (defBody s_Wants_len) (defScope s_Wants_len) [] [] (a_Wants_len K) fd
  f_Wants_iter : ∃ fd, FunD K "__iter__" "Wants.__iter__" (defArgs s_Wants_iter) (defBody s_Wants_iter) (defScope s_Wants_iter) [] [] (a_Wants_iter K) fd
  f_Wants_getitem : ∃ fd, FunD K "__getitem__" "Wants.__getitem__" (defArgs s_Wants_getitem) (defBody s_Wants_getitem) (defScope s_Wants_getitem) [] [] (a_Wants_getitem K) fd
  f_Wants_add : ∃ fd, FunD K "__add__" "Wants.__add__" (defArgs s_Wants_add) (defBody s_Wants_add) (defScope s_Wants_add) [] [] (a_Wants_add K) fd
  f_Wants_mul : ∃ fd, FunD K "__mul__" "Wants.__mul__" (defArgs s_Wants_mul) (defBody s_Wants_mul) (defScope s_Wants_mul) [] [] (a_Wants_mul K) fd
  f_Wants_rmul : ∃ fd, FunD K "__rmul__" "Wants.__rmul__" (defArgs s_Wants_rmul) (defBody s_Wants_rmul) (defScope s_Wants_rmul) [] [] (a_Wants_rmul K) fd
  f_Wants_lshift : ∃ fd, FunD K "__lshift__" "Wants.__lshift__" (defArgs s_Wants_lshift) (defBody s_Wants_lshift) (defScope s_Wants_lshift) [] [] (a_Wants_lshift K) fd
  f_Wants_rshift : ∃ fd, FunD K "__rshift__" "Wants.__rshift__" (defArgs s_Wants_rshift) (defBody s_Wants_rshift) (defScope s_Wants_rshift) [] [] (a_Wants_rshift K) fd
  f_Wants_neg : ∃ fd, FunD K "__neg__" "Wants.__neg__" (defArgs s_Wants_neg) (defBody s_Wants_neg) (defScope s_Wants_neg) [] [] (a_Wants_neg K) fd
  f_Wants_abs : ∃ fd, FunD K "__abs__" "Wants.__abs__" (defArgs s_Wants_abs) (defBody s_Wants_abs) (defScope s_Wants_abs) [] [] (a_Wants_abs K) fd
  f_law_pool : ∃ fd, FunD K "_law_pool" "_law_pool" (defArgs s_law_pool) (defBody s_law_pool) (defScope s_law_pool) [] [] (a_law_pool K) fd
  f_law_draw : ∃ fd, FunD K "_law_draw" "_law_draw" (defArgs s_law_draw) (defBody s_law_draw) (defScope s_law_draw) [] [] (a_law_draw K) fd
  f_law_comings : ∃ fd, FunD K "_law_comings" "_law_comings" (defArgs s_law_comings) (defBody s_law_comings) (defScope s_law_comings) [] [] (a_law_comings K) fd
  f_law_wants : ∃ fd, FunD K "_law_wants" "_law_wants" (defArgs s_law_wants) (defBody s_law_wants) (defScope s_law_wants) [] [] (a_law_wants K) fd
  f_law_size : ∃ fd, FunD K "_law_size" "_law_size" (defArgs s_law_size) (defBody s_law_size) (defScope s_law_size) [] [] (a_law_size K) fd
  f_law_int : ∃ fd, FunD K "_law_int" "_law_int" (defArgs s_law_int) (defBody s_law_int) (defScope s_law_int) [] [] (a_law_int K) fd
  f_law_same : ∃ fd, FunD K "_law_same" "_law_same" (defArgs s_law_same) (defBody s_law_same) (defScope s_law_same) [] [] (a_law_same K) fd
  f_law_first : ∃ fd, FunD K "_law_first" "_law_first" (defArgs s_law_first) (defBody s_law_first) (defScope s_law_first) [] [] (a_law_first K) fd
  f_law_shuffled : ∃ fd, FunD K "_law_shuffled" "_law_shuffled" (defArgs s_law_shuffled) (defBody s_law_shuffled) (defScope s_law_shuffled) [] [] (a_law_shuffled K) fd
  f_law_house : ∃ fd, FunD K "_law_house" "_law_house" (defArgs s_law_house) (defBody s_law_house) (defScope s_law_house) [] [] (a_law_house K) fd
  f_law_groups : ∃ fd, FunD K "_law_groups" "_law_groups" (defArgs s_law_groups) (defBody s_law_groups) (defScope s_law_groups) [] [] (a_law_groups K) fd
  f_law_spoiled : ∃ fd, FunD K "_law_spoiled" "_law_spoiled" (defArgs s_law_spoiled) (defBody s_law_spoiled) (defScope s_law_spoiled) [] [] (a_law_spoiled K) fd
  f_law_person : ∃ fd, FunD K "_law_person" "_law_person" (defArgs s_law_person) (defBody s_law_person) (defScope s_law_person) [] [] (a_law_person K) fd
  f_law_growth : ∃ fd, FunD K "_law_growth" "_law_growth" (defArgs s_law_growth) (defBody s_law_growth) (defScope s_law_growth) [] [] (a_law_growth K) fd
  f_law_due : ∃ fd, FunD K "_law_due" "_law_due" (defArgs s_law_due) (defBody s_law_due) (defScope s_law_due) [] [] (a_law_due K) fd
  f_law_try : ∃ fd, FunD K "_law_try" "_law_try" (defArgs s_law_try) (defBody s_law_try) (defScope s_law_try) [] [] (a_law_try K) fd
  f_law_grows : ∃ fd, FunD K "_law_grows" "_law_grows" (defArgs s_law_grows) (defBody s_law_grows) (defScope s_law_grows) [] [] (a_law_grows K) fd
  f_law : ∃ fd, FunD K "law" "law" (defArgs s_law) (defBody s_law) (defScope s_law) [] [] (a_law K) fd
  e_NoNight : Exn PG K mg "NoNight" (c_NoNight K) (i_NoNight K) ["night"] [("night", "night")]
  e_NoPerson : Exn PG K mg "NoPerson" (c_NoPerson K) (i_NoPerson K) ["person"] [("person", "person")]
  e_NamedTwice : Exn PG K mg "NamedTwice" (c_NamedTwice K) (i_NamedTwice K) ["person"] [("person", "person")]
  e_BadNumber : Exn PG K mg "BadNumber" (c_BadNumber K) (i_BadNumber K) ["place", "number"] [("place", "place"), ("number", "number")]
  e_TooLong : Exn PG K mg "TooLong" (c_TooLong K) (i_TooLong K) ["count"] [("count", "count")]
  e_BadRest : Exn PG K mg "BadRest" (c_BadRest K) (i_BadRest K) ["rest"] [("rest", "rest")]
  e_BadComing : Exn PG K mg "BadComing" (c_BadComing K) (i_BadComing K) ["person", "coming"] [("person", "person"), ("coming", "coming")]
  cHouse : Cls K (c_House K)
  gHouse : mg "House" = some (.ref (c_House K))
  tHouse : EF.ClsT K (c_House K)
  kHouse : Mk K (c_House K) (a_House_init K)
  nHouse_wants : NoAttr K (c_House K) "wants"
  nHouse_comings : NoAttr K (c_House K) "comings"
  nHouse_rest : NoAttr K (c_House K) "rest"
  cWants : Cls K (c_Wants K)
  gWants : mg "Wants" = some (.ref (c_Wants K))
  tWants : EF.ClsT K (c_Wants K)
  kWants : Mk K (c_Wants K) (a_Wants_init K)
  nWants_numbers : NoAttr K (c_Wants K) "numbers"
  rHouse : ClX.CRead K (c_House K) FB.mT
  rWants : ClX.CRead K (c_Wants K) FB.mT
  vWants_MOST : ∃ u, ClX.CVal K (c_Wants K) FB.mT "MOST" (.int 60) u
  vWants_GREATEST : ∃ u, ClX.CVal K (c_Wants K) FB.mT "GREATEST" (.int 30) u
  v_MOST_PEOPLE : ∃ t, mg "MOST_PEOPLE" = some (.int 30 t)
  v_GREATEST_REST : ∃ t, mg "GREATEST_REST" = some (.int 60 t)
  wWants_len : findIn K (.ref (c_Wants K)) "__len__" = some (some (.ref (a_Wants_len K))) ∧ isFn K (.ref (a_Wants_len K)) = true
  wWants_abs : findIn K (.ref (c_Wants K)) "__abs__" = some (some (.ref (a_Wants_abs K))) ∧ isFn K (.ref (a_Wants_abs K)) = true
  wWants_iter : findIn K (.ref (c_Wants K)) "__iter__" = some (some (.ref (a_Wants_iter K))) ∧ isFn K (.ref (a_Wants_iter K)) = true
  wWants_getitem : findIn K (.ref (c_Wants K)) "__getitem__" = some (some (.ref (a_Wants_getitem K))) ∧ isFn K (.ref (a_Wants_getitem K)) = true
  iWants_getitem : OwnIx K (c_Wants K) (a_Wants_getitem K)
  wHouse_nights : PropOf K (c_House K) "nights" (propObj K (c_House K) "nights") (a_House_nights K)
  wHouse_people : PropOf K (c_House K) "people" (propObj K (c_House K) "people") (a_House_people K)
  gNightsError : mg "NightsError" = some (.ref (c_NightsError K))
  xNoNight : XfC K (c_NoNight K) ∧ ExcC K (c_NoNight K)
  nNoNight_night : findIn K (.ref (c_NoNight K)) "night" = some none
  xBadNumber : XfC K (c_BadNumber K) ∧ ExcC K (c_BadNumber K)
  nBadNumber_place : findIn K (.ref (c_BadNumber K)) "place" = some none
  nBadNumber_number : findIn K (.ref (c_BadNumber K)) "number" = some none
  xTooLong : XfC K (c_TooLong K) ∧ ExcC K (c_TooLong K)
  nTooLong_count : findIn K (.ref (c_TooLong K)) "count" = some none
  xBadRest : XfC K (c_BadRest K) ∧ ExcC K (c_BadRest K)
  nBadRest_rest : findIn K (.ref (c_BadRest K)) "rest" = some none
  xBadComing : XfC K (c_BadComing K) ∧ ExcC K (c_BadComing K)
  nBadComing_person : findIn K (.ref (c_BadComing K)) "person" = some none
  nBadComing_coming : findIn K (.ref (c_BadComing K)) "coming" = some none
  xNoPerson : XfC K (c_NoPerson K) ∧ ExcC K (c_NoPerson K)
  nNoPerson_person : findIn K (.ref (c_NoPerson K)) "person" = some none
  xNamedTwice : XfC K (c_NamedTwice K) ∧ ExcC K (c_NamedTwice K)
  nNamedTwice_person : findIn K (.ref (c_NamedTwice K)) "person" = some none
  mNoPerson_NoPerson : exmOne K (.ref (c_NoPerson K)) (.ref (c_NoPerson K)) = some true
  mNoPerson_NamedTwice : exmOne K (.ref (c_NoPerson K)) (.ref (c_NamedTwice K)) = some false
  kNoPerson_NightsError : kitOne K (.ref (c_NoPerson K)) (.ref (c_NightsError K)) = some true
  kNoPerson_ValueError : kitOne K (.ref (c_NoPerson K)) (.type "ValueError") = some true
  mNamedTwice_NoPerson : exmOne K (.ref (c_NamedTwice K)) (.ref (c_NoPerson K)) = some false
  mNamedTwice_NamedTwice : exmOne K (.ref (c_NamedTwice K)) (.ref (c_NamedTwice K)) = some true
  kNamedTwice_NightsError : kitOne K (.ref (c_NamedTwice K)) (.ref (c_NightsError K)) = some true
  kNamedTwice_ValueError : kitOne K (.ref (c_NamedTwice K)) (.type "ValueError") = some true
  kNoPerson_NamedTwice : kitOne K (.ref (c_NoPerson K)) (.ref (c_NamedTwice K)) = some false
theorem tx_of {K : Frag} {h : Heap} {mg : Str → Option Value} (c : SaysX bx fn er "/claim/cut.py" K) (X : K.In h) (G : h.Ns mainGlobals mg) : Tx K mg where
  any := eqO_ok (fact c 1)
  m_super := free_ok X G (x := "super") (fact c 0)
  m_len := free_ok X G (x := "len") (fact c 2)
  m_enumerate := free_ok X G (x := "enumerate") (fact c 3)
  m_tuple := free_ok X G (x := "tuple") (fact c 4)
  m_sum := free_ok X G (x := "sum") (fact c 5)
  m_abs := free_ok X G (x := "abs") (fact c 6)
  m_int := free_ok X G (x := "int") (fact c 7)
  m_range := free_ok X G (x := "range") (fact c 8)
  m_isinstance := free_ok X G (x := "isinstance") (fact c 9)
  m_bool := free_ok X G (x := "bool") (fact c 10)
  m_str := free_ok X G (x := "str") (fact c 11)
  m_list := free_ok X G (x := "list") (fact c 12)
  m_max := free_ok X G (x := "max") (fact c 13)
  m_min := free_ok X G (x := "min") (fact c 14)
  m_zip := free_ok X G (x := "zip") (fact c 15)
  m_iter := free_ok X G (x := "iter") (fact c 16)
  m_ValueError := free_ok X G (x := "ValueError") (fact c 17)
  g_wall := glo_ok X G (x := "_wall") (fact c 18)
  g_check_count := glo_ok X G (x := "check_count") (fact c 19)
  g_check_number := glo_ok X G (x := "check_number") (fact c 20)
  g_check_numbers := glo_ok X G (x := "check_numbers") (fact c 21)
  g_check_not_negative := glo_ok X G (x := "check_not_negative") (fact c 22)
  g_check_rest := glo_ok X G (x := "check_rest") (fact c 23)
  g_check_night := glo_ok X G (x := "check_night") (fact c 24)
  g_check_person := glo_ok X G (x := "check_person") (fact c 25)
  g_check_people := glo_ok X G (x := "check_people") (fact c 26)
  g_first_choice := glo_ok X G (x := "first_choice") (fact c 27)
  g_choose_first := glo_ok X G (x := "choose_first") (fact c 28)
  g_room_left := glo_ok X G (x := "room_left") (fact c 29)
  g_growth := glo_ok X G (x := "growth") (fact c 30)
  g_nights_with_room := glo_ok X G (x := "nights_with_room") (fact c 31)
  g_law_pool := glo_ok X G (x := "_law_pool") (fact c 32)
  g_law_draw := glo_ok X G (x := "_law_draw") (fact c 33)
  g_law_comings := glo_ok X G (x := "_law_comings") (fact c 34)
  g_law_wants := glo_ok X G (x := "_law_wants") (fact c 35)
  g_law_size := glo_ok X G (x := "_law_size") (fact c 36)
  g_law_int := glo_ok X G (x := "_law_int") (fact c 37)
  g_law_same := glo_ok X G (x := "_law_same") (fact c 38)
  g_law_first := glo_ok X G (x := "_law_first") (fact c 39)
  g_law_shuffled := glo_ok X G (x := "_law_shuffled") (fact c 40)
  g_law_house := glo_ok X G (x := "_law_house") (fact c 41)
  g_law_groups := glo_ok X G (x := "_law_groups") (fact c 42)
  g_law_spoiled := glo_ok X G (x := "_law_spoiled") (fact c 43)
  g_law_person := glo_ok X G (x := "_law_person") (fact c 44)
  g_law_growth := glo_ok X G (x := "_law_growth") (fact c 45)
  g_law_due := glo_ok X G (x := "_law_due") (fact c 46)
  g_law_try := glo_ok X G (x := "_law_try") (fact c 47)
  g_law_grows := glo_ok X G (x := "_law_grows") (fact c 48)
  g_law := glo_ok X G (x := "law") (fact c 49)
  f_wall := c.def_ 0
  f_check_count := c.def_ 1
  f_check_number := c.def_ 2
  f_check_numbers := c.def_ 3
  f_check_not_negative := c.def_ 4
  f_check_rest := c.def_ 5
  f_check_night := c.def_ 6
  f_check_person := c.def_ 7
  f_check_people := c.def_ 8
  f_first_choice := c.def_ 9
  f_choose_first := c.def_ 10
  f_room_left := c.def_ 11
  f_growth := c.def_ 12
  f_nights_with_room := c.def_ 13
  f_House_init := c.def_ 14
  f_House_all_there := c.def_ 15
  f_House_nights := c.def_ 16
  f_House_people := c.def_ 17
  f_House_whole := c.def_ 18
  f_House_changed := c.def_ 19
  f_House_here := c.def_ 20
  f_House_stretch := c.def_ 21
  f_Wants_init := c.def_ 22
  f_Wants_of := c.def_ 23
  f_Wants_len := c.def_ 24
  f_Wants_iter := c.def_ 25
  f_Wants_getitem := c.def_ 26
  f_Wants_add := c.def_ 27
  f_Wants_mul := c.def_ 28
  f_Wants_rmul := c.def_ 29
  f_Wants_lshift := c.def_ 30
  f_Wants_rshift := c.def_ 31
  f_Wants_neg := c.def_ 32
  f_Wants_abs := c.def_ 33
  f_law_pool := c.def_ 34
  f_law_draw := c.def_ 35
  f_law_comings := c.def_ 36
  f_law_wants := c.def_ 37
  f_law_size := c.def_ 38
  f_law_int := c.def_ 39
  f_law_same := c.def_ 40
  f_law_first := c.def_ 41
  f_law_shuffled := c.def_ 42
  f_law_house := c.def_ 43
  f_law_groups := c.def_ 44
  f_law_spoiled := c.def_ 45
  f_law_person := c.def_ 46
  f_law_growth := c.def_ 47
  f_law_due := c.def_ 48
  f_law_try := c.def_ 49
  f_law_grows := c.def_ 50
  f_law := c.def_ 51
  e_NoNight := errD_ok (d := ⟨"NoNight", e_NoNight, "NoNight.__init__", ["night"]⟩) X G tx_NoNight rfl (free_ok X G (x := "super") (fact c 0)) (eqO_ok (fact c 1)) (c.err_ (d := ⟨"NoNight", e_NoNight, "NoNight.__init__", ["night"]⟩) 0).1 (c.err_ (d := ⟨"NoNight", e_NoNight, "NoNight.__init__", ["night"]⟩) 0).2
  e_NoPerson := errD_ok (d := ⟨"NoPerson", e_NoPerson, "NoPerson.__init__", ["person"]⟩) X G tx_NoPerson rfl (free_ok X G (x := "super") (fact c 0)) (eqO_ok (fact c 1)) (c.err_ (d := ⟨"NoPerson", e_NoPerson, "NoPerson.__init__", ["person"]⟩) 1).1 (c.err_ (d := ⟨"NoPerson", e_NoPerson, "NoPerson.__init__", ["person"]⟩) 1).2
  e_NamedTwice := errD_ok (d := ⟨"NamedTwice", e_NamedTwice, "NamedTwice.__init__", ["person"]⟩) X G tx_NamedTwice rfl (free_ok X G (x := "super") (fact c 0)) (eqO_ok (fact c 1)) (c.err_ (d := ⟨"NamedTwice", e_NamedTwice, "NamedTwice.__init__", ["person"]⟩) 2).1 (c.err_ (d := ⟨"NamedTwice", e_NamedTwice, "NamedTwice.__init__", ["person"]⟩) 2).2
  e_BadNumber := errD_ok (d := ⟨"BadNumber", e_BadNumber, "BadNumber.__init__", ["place", "number"]⟩) X G tx_BadNumber rfl (free_ok X G (x := "super") (fact c 0)) (eqO_ok (fact c 1)) (c.err_ (d := ⟨"BadNumber", e_BadNumber, "BadNumber.__init__", ["place", "number"]⟩) 3).1 (c.err_ (d := ⟨"BadNumber", e_BadNumber, "BadNumber.__init__", ["place", "number"]⟩) 3).2
  e_TooLong := errD_ok (d := ⟨"TooLong", e_TooLong, "TooLong.__init__", ["count"]⟩) X G tx_TooLong rfl (free_ok X G (x := "super") (fact c 0)) (eqO_ok (fact c 1)) (c.err_ (d := ⟨"TooLong", e_TooLong, "TooLong.__init__", ["count"]⟩) 4).1 (c.err_ (d := ⟨"TooLong", e_TooLong, "TooLong.__init__", ["count"]⟩) 4).2
  e_BadRest := errD_ok (d := ⟨"BadRest", e_BadRest, "BadRest.__init__", ["rest"]⟩) X G tx_BadRest rfl (free_ok X G (x := "super") (fact c 0)) (eqO_ok (fact c 1)) (c.err_ (d := ⟨"BadRest", e_BadRest, "BadRest.__init__", ["rest"]⟩) 5).1 (c.err_ (d := ⟨"BadRest", e_BadRest, "BadRest.__init__", ["rest"]⟩) 5).2
  e_BadComing := errD_ok (d := ⟨"BadComing", e_BadComing, "BadComing.__init__", ["person", "coming"]⟩) X G tx_BadComing rfl (free_ok X G (x := "super") (fact c 0)) (eqO_ok (fact c 1)) (c.err_ (d := ⟨"BadComing", e_BadComing, "BadComing.__init__", ["person", "coming"]⟩) 6).1 (c.err_ (d := ⟨"BadComing", e_BadComing, "BadComing.__init__", ["person", "coming"]⟩) 6).2
  cHouse := cls_ok (fact c 50)
  gHouse := glo_ok X G (x := "House") (fact c 51)
  tHouse := EF.cls_ok (fact c 52)
  kHouse := mkr_ok (fact c 53)
  nHouse_wants := noat_ok (x := "House") (f := "wants") (fact c 54)
  nHouse_comings := noat_ok (x := "House") (f := "comings") (fact c 55)
  nHouse_rest := noat_ok (x := "House") (f := "rest") (fact c 56)
  cWants := cls_ok (fact c 57)
  gWants := glo_ok X G (x := "Wants") (fact c 58)
  tWants := EF.cls_ok (fact c 59)
  kWants := mkr_ok (fact c 60)
  nWants_numbers := noat_ok (x := "Wants") (f := "numbers") (fact c 61)
  rHouse := FB.cread_ok (fact c 62)
  rWants := FB.cread_ok (fact c 63)
  vWants_MOST := FB.cint_ok (fact c 64)
  vWants_GREATEST := FB.cint_ok (fact c 65)
  v_MOST_PEOPLE := int_ok X G (x := "MOST_PEOPLE") (i := 30) (fact c 66)
  v_GREATEST_REST := int_ok X G (x := "GREATEST_REST") (i := 60) (fact c 67)
  wWants_len := FB.sp_ok (fact c 68)
  wWants_abs := FB.sp_ok (fact c 69)
  wWants_iter := FB.sp_ok (fact c 70)
  wWants_getitem := FB.sp_ok (fact c 71)
  iWants_getitem := FC.ix_ok (fact c 72)
  wHouse_nights := prop_ok (fact c 73)
  wHouse_people := prop_ok (fact c 74)
  gNightsError := glo_ok X G (x := "NightsError") (fact c 75)
  xNoNight := EF.exc_ok (fact c 76)
  nNoNight_night := noat_ok (x := "NoNight") (f := "night") (fact c 77)
  xBadNumber := EF.exc_ok (fact c 78)
  nBadNumber_place := noat_ok (x := "BadNumber") (f := "place") (fact c 79)
  nBadNumber_number := noat_ok (x := "BadNumber") (f := "number") (fact c 80)
  xTooLong := EF.exc_ok (fact c 81)
  nTooLong_count := noat_ok (x := "TooLong") (f := "count") (fact c 82)
  xBadRest := EF.exc_ok (fact c 83)
  nBadRest_rest := noat_ok (x := "BadRest") (f := "rest") (fact c 84)
  xBadComing := EF.exc_ok (fact c 85)
  nBadComing_person := noat_ok (x := "BadComing") (f := "person") (fact c 86)
  nBadComing_coming := noat_ok (x := "BadComing") (f := "coming") (fact c 87)
  xNoPerson := EF.exc_ok (fact c 88)
  nNoPerson_person := noat_ok (x := "NoPerson") (f := "person") (fact c 89)
  xNamedTwice := EF.exc_ok (fact c 90)
  nNamedTwice_person := noat_ok (x := "NamedTwice") (f := "person") (fact c 91)
  mNoPerson_NoPerson := of_decide_eq_true (fact c 92)
  mNoPerson_NamedTwice := of_decide_eq_true (fact c 93)
  kNoPerson_NightsError := of_decide_eq_true (fact c 94)
  kNoPerson_ValueError := of_decide_eq_true (fact c 95)
  mNamedTwice_NoPerson := of_decide_eq_true (fact c 96)
  mNamedTwice_NamedTwice := of_decide_eq_true (fact c 97)
  kNamedTwice_NightsError := of_decide_eq_true (fact c 98)
  kNamedTwice_ValueError := of_decide_eq_true (fact c 99)
  kNoPerson_NamedTwice := of_decide_eq_true (fact c 100)
end K09

set_option maxRecDepth 100000
set_option maxHeartbeats 4000000
namespace K09
open PySem PySem.Spec PyProof.Rows L2
section
variable {w : World} {K : PySem.W.Frag} {mg : Str → Option Value} {base : Heap}
/-! ### the law's draws -/
def spPool (K : PySem.W.Frag) : Sp := fun vs H Q _ => ∃ (a : Addr) (ns : List Int) (i : Nat), vs = [.ref a, .int (i : Nat)] ∧ SqL K H a (ns.map V.int) ∧ ∀ l st, H l = none → PoolOk st → Q (.ref l) (upd H l (.lst st))
theorem ok_law_pool (T : Tx K mg) : Ok PG w K mg base CX0 2 (a_law_pool K) p_law_pool (spPool K) := by
  refine Ok.of 1 T.f_law_pool sc_law_pool bi_law_pool (by decide) (fun vs H Q E h => ?_) (fun cdv A outer s H vs Q E hr h => ?_)
  · obtain ⟨_, _, _, rfl, _⟩ := h
    rfl
  · obtain ⟨a, ns, i, rfl, hs, q⟩ := h
    have nd := sc_law_pool.nd
    refine ⟨_, pss_cons (ps_set (i := 2) nd rfl (.inl rfl) pe_int)
      (pss_cons (ps_if (pt_cmpR op_lt (pv 1) (pe_callB call_len_seq (by rfl) T.m_len PySem.boot_len (pa_cons (pv 0) pa_nil)) (nomark _)) (pss_one (ps_set (i := 2) nd rfl (.inl rfl) (pe_callB call_abs (by rfl) T.m_abs (by decide +kernel) (pa_cons (pe_ix ix_list (pv 0) (pv 1) (fun _ _ => rfl)) pa_nil)))) pss_nil)
      (pss_cons (ps_if (pt_cmpR op_ge (pv 2) (pe_op op_pow pe_int pe_int) (nomark _)) (pss_one (ps_ret (pe_lst (pa_cons (pe_op op_sub (pv 2) (pe_op op_pow pe_int pe_int)) (pa_cons pe_int (pa_cons pe_int pa_nil)))))) pss_nil)
      (pss_one (ps_ret (pe_lst (pa_cons (pe_un un_neg pe_int) (pa_cons (pe_op op_modN (pe_callTy call_int1 (by rfl) T.m_int (by decide +kernel) (pa_cons (pv 2) pa_nil)) pe_int) (pa_cons (pe_op op_add (pv 1) pe_int) pa_nil)))))))), ?_⟩
    refine ⟨_, rfl, _, rfl, a, _, rfl, .inl hs, _, _, rfl, rfl, _, rfl, ?_⟩
    refine ite2 (fun c => ?_) (fun c => ?_)
    · have hi : i < ns.length := by
        have := of_decide_eq_true c
        rw [List.length_map] at this
        omega
      refine ⟨_, rfl, _, rfl, a, _, _, .int ns[i], rfl, rfl, hs, atI_nat (by rw [List.getElem?_map, List.getElem?_eq_getElem hi]; rfl), _, rfl, ?_⟩
      generalize (if ns[i] < 0 then -ns[i] else ns[i]) = z
      refine ⟨_, rfl, _, _, rfl, rfl, ⟨by decide, by decide, by decide⟩, _, _, rfl, rfl, _, rfl, ?_⟩
      refine ite2 (fun c => ?_) (fun c => ?_)
      · exact ⟨_, rfl, _, _, rfl, rfl, ⟨by decide, by decide, by decide⟩, _, _, rfl, rfl, by show 3 ≤ sizeLine; decide, fun l hl => q l _ hl ⟨_, _, _, rfl, by decide, by decide⟩⟩
      · exact ⟨_, rfl, _, rfl, .inl ⟨_, rfl, _, _, rfl, rfl, (by show (2147483399 : Int) ≠ 0; decide), _, rfl, _, _, rfl, rfl, by show 3 ≤ sizeLine; decide, fun l hl => q l _ hl ⟨_, _, _, rfl, (mod_lt (by decide)).1, Int.lt_trans (mod_lt (by decide)).2 (by decide)⟩⟩⟩
    · refine ⟨_, rfl, _, _, rfl, rfl, ⟨by decide, by decide, by decide⟩, _, _, rfl, rfl, _, rfl, ?_⟩
      refine ite2 (fun c => ?_) (fun c => ?_)
      · exact ⟨_, rfl, _, _, rfl, rfl, ⟨by decide, by decide, by decide⟩, _, _, rfl, rfl, by show 3 ≤ sizeLine; decide, fun l hl => q l _ hl ⟨_, _, _, rfl, by decide, by decide⟩⟩
      · exact ⟨_, rfl, _, rfl, .inl ⟨_, rfl, _, _, rfl, rfl, (by show (2147483399 : Int) ≠ 0; decide), _, rfl, _, _, rfl, rfl, by show 3 ≤ sizeLine; decide, fun l hl => q l _ hl ⟨_, _, _, rfl, (mod_lt (by decide)).1, Int.lt_trans (mod_lt (by decide)).2 (by decide)⟩⟩⟩
def spDraw (_K : PySem.W.Frag) : Sp := fun vs H Q _ => ∃ (p : Addr) (st : List V) (m : Int), vs = [.ref p, .int m] ∧ 0 < m ∧ m.natAbs < 2 ^ 200 ∧ H p = some (.lst st) ∧ PoolOk st ∧ ∀ v st', 0 ≤ v → v < m → PoolOk st' → Q (.int v) (upd H p (.lst st'))
theorem ok_law_draw (T : Tx K mg) : Ok PG w K mg base CX0 2 (a_law_draw K) p_law_draw (spDraw K) := by
  refine Ok.of 1 T.f_law_draw sc_law_draw bi_law_draw (by decide) (fun vs H Q E h => ?_) (fun cdv A outer s H vs Q E hr h => ?_)
  · obtain ⟨_, _, _, rfl, _⟩ := h
    rfl
  · obtain ⟨p, st, m, rfl, m0, mw, hp, ⟨a, b, c, rfl, b0, b1⟩, q⟩ := h
    have nd := sc_law_draw.nd
    refine ⟨_, pss_cons (ps_if (pt_cmpR op_ge (pe_ix ix_list (pv 0) pe_int (fun _ _ => rfl)) pe_int (nomark _)) (pss_cons (ps_set (i := 2) nd rfl (.inl rfl) (pe_op op_modN (pe_callTy call_int1 (by rfl) T.m_int (by decide +kernel) (pa_cons (pe_ix ix_list (pv 0) pe_int (fun _ _ => rfl)) pa_nil)) (pv 1)))
        (pss_cons (ps_asg (pe_op op_fdivW (pe_ix ix_list (pv 0) pe_int (fun _ _ => rfl)) (pv 1)) (pg_sub (pv 0) pe_int set_list)) (pss_one (ps_ret (pv 2))))) pss_nil)
      (pss_cons (ps_asg (pe_op op_add (pe_ix ix_list (pv 0) pe_int (fun _ _ => rfl)) pe_int) (pg_sub (pv 0) pe_int set_list))
      (pss_cons (ps_set (i := 3) nd rfl (.inl rfl) (pe_ix ix_list (pv 0) pe_int (fun _ _ => rfl)))
      (pss_cons (ps_set (i := 3) nd rfl (.inl rfl) (pe_op op_modN (pe_callTy call_int1 (by rfl) T.m_int (by decide +kernel) (pa_cons (pe_op op_add (pe_op op_add (pe_op op_mul (pv 3) (pv 3)) (pe_op op_mul (pe_ix ix_list (pv 0) pe_int (fun _ _ => rfl)) pe_int)) pe_int) pa_nil)) pe_int))
      (pss_cons (ps_set (i := 3) nd rfl (.inl rfl) (pe_op op_modN (pe_callTy call_int1 (by rfl) T.m_int (by decide +kernel) (pa_cons (pe_op op_add (pe_op op_mul (pv 3) (pv 3)) (pe_op op_fdiv (pv 3) pe_int)) pa_nil)) pe_int))
      (pss_cons (ps_asg (pv 3) (pg_sub (pv 0) pe_int set_list))
      (pss_one (ps_ret (pe_op op_modN (pe_callTy call_int1 (by rfl) T.m_int (by decide +kernel) (pa_cons (pe_op op_fdiv (pv 3) pe_int) pa_nil)) (pv 1))))))))), ?_⟩
    have at0 : ∀ x y z : V, atI [x, y, z] (0 : Int) = some x := fun _ _ _ => rfl
    have at1 : ∀ x y z : V, atI [x, y, z] (1 : Int) = some y := fun _ _ _ => rfl
    have at2 : ∀ x y z : V, atI [x, y, z] (2 : Int) = some z := fun _ _ _ => rfl
    refine ⟨_, rfl, p, _, _, _, rfl, rfl, SqL.of hp, at0 _ _ _, _, _, rfl, rfl, _, rfl, ?_⟩
    refine ite2 (fun ca => ?_) (fun ca => ?_)
    · refine ⟨_, rfl, p, _, _, _, rfl, rfl, SqL.of hp, at0 _ _ _, .inl ⟨_, rfl, _, rfl, _, _, rfl, rfl, by omega, ?_⟩⟩
      refine ⟨_, rfl, p, _, _, _, rfl, rfl, SqL.of hp, at0 _ _ _, _, rfl, _, _, rfl, rfl, wide_div m0 mw (by decide) (by decide), ?_⟩
      refine ⟨_, rfl, p, _, _, 0, rfl, rfl, hp, rfl, _, rfl, ?_⟩
      exact q _ _ (mod_lt m0).1 (mod_lt m0).2 ⟨_, _, _, rfl, b0, b1⟩
    · refine ⟨_, rfl, p, _, _, _, rfl, rfl, SqL.of hp, at2 _ _ _, _, _, rfl, rfl, ?_⟩
      refine ⟨_, rfl, p, _, _, 2, rfl, rfl, hp, rfl, ?_⟩
      refine ⟨_, rfl, p, _, _, _, rfl, rfl, SqL.of upd_same, at1 _ _ _, ?_⟩
      refine ⟨_, rfl, _, rfl, _, _, rfl, rfl, .inl ⟨by omega, by omega⟩, ?_⟩
      refine ⟨_, rfl, p, _, _, _, rfl, rfl, SqL.of upd_same, at2 _ _ _, _, _, rfl, rfl, .inr ⟨by decide, by decide⟩, ?_⟩
      refine ⟨_, _, rfl, rfl, _, _, rfl, rfl, .inl ⟨_, rfl, _, _, rfl, rfl, (by show (2147483399 : Int) ≠ 0; decide), ?_⟩⟩
      have x1 := mod_lt (a := (b * b + (c + 1) * 3571 + 40692 : Int)) (m := 2147483399) (by decide)
      refine ⟨_, rfl, _, rfl, _, _, rfl, rfl, .inl ⟨Int.lt_of_lt_of_le (by decide : -(2 ^ 64 : Int) < 0) x1.1, Int.lt_trans x1.2 (by decide)⟩, _, rfl, _, _, rfl, rfl, ⟨by decide, by decide⟩, _, _, rfl, rfl, .inl ⟨_, rfl, _, _, rfl, rfl, (by show (2147483629 : Int) ≠ 0; decide), ?_⟩⟩
      refine ⟨_, rfl, _, rfl, p, _, _, 1, rfl, rfl, upd_same, rfl, ?_⟩
      refine ⟨_, rfl, _, _, rfl, rfl, ⟨by decide, by decide⟩, .inl ⟨_, rfl, _, rfl, _, _, rfl, rfl, by omega, ?_⟩⟩
      rw [upd_upd]
      exact q _ _ (mod_lt m0).1 (mod_lt m0).2 ⟨_, _, _, rfl, (mod_lt (m := 2147483629) (by decide)).1, Int.lt_trans (mod_lt (m := 2147483629) (by decide)).2 (by decide)⟩
end
end K09
namespace K09
open PySem PySem.Spec PyProof.Rows L2
section
variable {w : World} {K : PySem.W.Frag} {mg : Str → Option Value} {base : Heap}
def spInt : Sp := fun vs H Q _ => ∃ (n : Int), vs = [.int n] ∧ Q (.bl true) H
theorem ok_law_int (T : Tx K mg) : Ok PG w K mg base CX0 2 (a_law_int K) p_law_int spInt := by
  refine Ok.of 1 T.f_law_int sc_law_int bi_law_int (by decide) (fun vs H Q E h => ?_) (fun cdv A outer s H vs Q E hr h => ?_)
  · obtain ⟨_, rfl, _⟩ := h
    rfl
  · obtain ⟨n, rfl, q⟩ := h
    refine ⟨_, pss_one (ps_ret (pe_and (pe_callB call_isi (by rfl) T.m_isinstance (by decide +kernel) (pa_cons (pv 0) (pa_cons (pe_bltn (v := .ty "int") (by rfl) T.m_int (by decide +kernel) rfl) pa_nil)))
      (pe_one (pe_not (pe_callB call_isi (by rfl) T.m_isinstance (by decide +kernel) (pa_cons (pv 0) (pa_cons (pe_bltn (v := .ty "bool") (by rfl) T.m_bool (by decide +kernel) rfl) pa_nil))))))), ?_⟩
    refine ⟨_, rfl, _, _, _, _, true, rfl, .ty _, .base (.int n), kit_ty (by decide +kernel), _, rfl, yep rfl ?_⟩
    exact ⟨_, rfl, _, _, _, _, false, rfl, .ty _, .base (.int n), kit_ty (by decide +kernel), _, rfl, q⟩
def spSame (K : PySem.W.Frag) (n : Nat) : Sp := fun vs H Q _ => ∃ (x y : V), vs = [x, y] ∧ Eqd K n H x y ∧ Q (.bl true) H
def spLow (K : PySem.W.Frag) : Nat → Sp
  | 0 => fun _ _ _ _ => False
  | n + 1 => spSame K n
theorem same_at (T : Tx K mg) (n k : Nat) (R0 : Ok PG w K mg base CX0 k (a_law_same K) p_law_same (spLow K n)) (hk : 2 ≤ k) : Ok PG w K mg base CX0 (k + 1) (a_law_same K) p_law_same (spSame K n) := by
  refine Ok.of k T.f_law_same sc_law_same bi_law_same (Nat.le_refl _) (fun vs H Q E h => ?_) (fun cdv A outer s H vs Q E hr h => ?_)
  · obtain ⟨_, _, rfl, _⟩ := h
    rfl
  · obtain ⟨x, y, rfl, hd, q⟩ := h
    have nd := sc_law_same.nd
    refine ⟨_, pss_cons (ps_if (pt_cmpR op_isN (pv 1) pe_non (nomark _)) (pss_one (ps_ret (pe_cmpR op_isN (pv 0) pe_non (nomark _)))) pss_nil)
      (pss_cons (ps_if (pt_cmpR op_isTF (pv 1) pe_bl (nomark _)) (pss_one (ps_ret (pe_cmpR op_isTF (pv 0) pe_bl (nomark _)))) pss_nil)
      (pss_cons (ps_if (pt_cmpR op_isTF (pv 1) pe_bl (nomark _)) (pss_one (ps_ret (pe_cmpR op_isTF (pv 0) pe_bl (nomark _)))) pss_nil)
      (pss_cons (ps_if (pt_val (pe_callB call_isi (by rfl) T.m_isinstance (by decide +kernel) (pa_cons (pv 1) (pa_cons (pe_bltn (v := .ty "int") (by rfl) T.m_int (by decide +kernel) rfl) pa_nil)))) (pss_one (ps_ret (pe_and (pc (ok_law_int T) (hr.mono hk) T.g_law_int pass0 (pa_cons (pv 0) pa_nil)) (pe_one (pe_cmpR op_eq (pv 0) (pv 1) (nomark _)))))) pss_nil)
      (pss_cons (ps_if (pt_val (pe_callB call_isi (by rfl) T.m_isinstance (by decide +kernel) (pa_cons (pv 1) (pa_cons (pe_bltn (v := .ty "str") (by rfl) T.m_str (by decide +kernel) rfl) pa_nil)))) (pss_one (ps_ret (pe_and (pe_callB call_isi (by rfl) T.m_isinstance (by decide +kernel) (pa_cons (pv 0) (pa_cons (pe_bltn (v := .ty "str") (by rfl) T.m_str (by decide +kernel) rfl) pa_nil))) (pe_one (pe_cmpR op_eq (pv 0) (pv 1) (nomark _)))))) pss_nil)
      (pss_cons (ps_if (pt_val (pe_callB call_isi (by rfl) T.m_isinstance (by decide +kernel) (pa_cons (pv 1) (pa_cons (pe_bltn (v := .ty "tuple") (by rfl) T.m_tuple (by decide +kernel) rfl) pa_nil))))
        (pss_one (ps_if (PW.pt (pw_or (pt_not (pt_val (pe_callB call_isi (by rfl) T.m_isinstance (by decide +kernel) (pa_cons (pv 0) (pa_cons (pe_bltn (v := .ty "tuple") (by rfl) T.m_tuple (by decide +kernel) rfl) pa_nil))))) (pw_or1 (pt_cmpR op_ne (pe_callB call_len_seq (by rfl) T.m_len PySem.boot_len (pa_cons (pv 0) pa_nil)) (pe_callB call_len_seq (by rfl) T.m_len PySem.boot_len (pa_cons (pv 1) pa_nil)) (nomark _))))) (pss_one (ps_ret pe_bl)) pss_nil))
        (pss_one (ps_if (PW.pt (pw_or (pt_not (pt_val (pe_callB call_isi (by rfl) T.m_isinstance (by decide +kernel) (pa_cons (pv 0) (pa_cons (pe_bltn (v := .ty "list") (by rfl) T.m_list (by decide +kernel) rfl) pa_nil))))) (pw_or1 (pt_cmpR op_ne (pe_callB call_len_seq (by rfl) T.m_len PySem.boot_len (pa_cons (pv 0) pa_nil)) (pe_callB call_len_seq (by rfl) T.m_len PySem.boot_len (pa_cons (pv 1) pa_nil)) (nomark _))))) (pss_one (ps_ret pe_bl)) pss_nil)))
      (pss_cons (ps_for (passX rfl) rfl (pi_range1 rfl T.m_range (pa_cons (pe_callB call_len_seq (by rfl) T.m_len PySem.boot_len (pa_cons (pv 1) pa_nil)) pa_nil)) (pg_name (i := 2) nd rfl (.inl rfl))
        (pss_one (ps_if (pt_not (pt_val (pc R0 hr T.g_law_same pass0 (pa_cons (pe_ix ix_seq (pv 0) (pv 2) (fun _ _ => rfl)) (pa_cons (pe_ix ix_seq (pv 1) (pv 2) (fun _ _ => rfl)) pa_nil))))) (pss_one (ps_ret pe_bl)) pss_nil)))
      (pss_one (ps_ret pe_bl)))))))), ?_⟩
    have hd2 : (x = y ∧ Atom x) ∨ ∃ m, n = m + 1 ∧ ∃ a b xs ys, x = .ref a ∧ y = .ref b ∧ ((SqT K H a xs ∧ SqT K H b ys) ∨ (SqL K H a xs ∧ SqL K H b ys)) ∧ xs.length = ys.length ∧ xs.length ≤ sizeLine ∧ ∀ (i : Nat) (u v : V), xs[i]? = some u → ys[i]? = some v → Eqd K m H u v := by
      cases n with
      | zero => exact .inl hd
      | succ m => exact hd.imp id fun z => ⟨m, rfl, z⟩
    rcases hd2 with ⟨rfl, ha⟩ | ⟨m, rfl, a, b, xs, ys, rfl, rfl, hs, hl, hz, hi⟩
    · cases ha with
      | non =>
        refine ⟨_, rfl, rfl, _, rfl, yep (by simp) ?_⟩
        exact ⟨_, rfl, rfl, by simpa using q⟩
      | bl b =>
        refine ⟨_, rfl, rfl, _, rfl, nope (by simp) ?_⟩
        cases b with
        | true =>
          refine ⟨_, rfl, _, rfl, _, rfl, yep (by simp) ?_⟩
          exact ⟨_, rfl, _, rfl, by simpa using q⟩
        | false =>
          refine ⟨_, rfl, _, rfl, _, rfl, nope (by simp) ?_⟩
          refine ⟨_, rfl, _, rfl, _, rfl, yep (by simp) ?_⟩
          exact ⟨_, rfl, _, rfl, by simpa using q⟩
      | int i =>
        refine ⟨_, rfl, rfl, _, rfl, nope (by simp) ?_⟩
        refine ⟨_, rfl, _, rfl, _, rfl, nope (by simp) ?_⟩
        refine ⟨_, rfl, _, rfl, _, rfl, nope (by simp) ?_⟩
        refine ⟨_, rfl, _, _, _, _, true, rfl, .ty _, .base (.int i), kit_ty (by decide +kernel), _, rfl, yep rfl ?_⟩
        refine ⟨_, rfl, i, rfl, _, rfl, yep rfl ?_⟩
        exact ⟨_, rfl, _, rfl, rfl, by simpa using q⟩
      | str z =>
        refine ⟨_, rfl, rfl, _, rfl, nope (by simp) ?_⟩
        refine ⟨_, rfl, _, rfl, _, rfl, nope (by simp) ?_⟩
        refine ⟨_, rfl, _, rfl, _, rfl, nope (by simp) ?_⟩
        refine ⟨_, rfl, _, _, _, _, false, rfl, .ty _, .base (.str z), kit_ty (by decide +kernel), _, rfl, nope rfl ?_⟩
        refine ⟨_, rfl, _, _, _, _, true, rfl, .ty _, .base (.str z), kit_ty (by decide +kernel), _, rfl, yep rfl ?_⟩
        refine ⟨_, rfl, _, _, _, _, true, rfl, .ty _, .base (.str z), kit_ty (by decide +kernel), _, rfl, yep rfl ?_⟩
        exact ⟨_, rfl, _, rfl, rfl, by simpa using q⟩
    · refine ⟨_, rfl, rfl, _, rfl, nope (by simp) ?_⟩
      refine ⟨_, rfl, _, rfl, _, rfl, nope (by simp) ?_⟩
      refine ⟨_, rfl, _, rfl, _, rfl, nope (by simp) ?_⟩
      have hsz : ys.length < 2 ^ 62 := by rw [← hl]; rw [sizeLine_eq] at hz; omega
      rcases hs with ⟨h1, h2⟩ | ⟨h1, h2⟩
      · refine ⟨_, rfl, _, _, _, _, false, rfl, .ty _, h2.ty, kit_ty (by decide +kernel), _, rfl, nope rfl ?_⟩
        refine ⟨_, rfl, _, _, _, _, false, rfl, .ty _, h2.ty, kit_ty (by decide +kernel), _, rfl, nope rfl ?_⟩
        refine ⟨_, rfl, _, _, _, _, true, rfl, .ty _, h2.ty, kit_ty (by decide +kernel), _, rfl, yep rfl ?_⟩
        refine ⟨_, rfl, _, _, _, _, true, rfl, .ty _, h1.ty, kit_ty (by decide +kernel), _, rfl, nope rfl ?_⟩
        refine ⟨_, rfl, a, xs, rfl, .inr h1, _, rfl, b, ys, rfl, .inr h2, rfl, _, rfl, nope (by simp [hl]) ?_⟩
        refine ⟨_, rfl, b, ys, rfl, .inr h2, _, rfl, by omega, by omega, ?_⟩
        refine for_range (lo := 0) (n := ys.length) (fun i σ H' => H' = H ∧ σ.length = 3 ∧ σ[0]? = some (some (.ref a)) ∧ σ[1]? = some (some (.ref b))) ⟨rfl, rfl, rfl, rfl⟩ ?_ ?_
        · rintro i σ H' hi' ⟨rfl, hl3, z0, z1⟩
          have hx : xs[i]? = some xs[i] := List.getElem?_eq_getElem (by omega)
          have hy : ys[i]? = some ys[i] := List.getElem?_eq_getElem hi'
          have w0 : (σ.set 2 (some (.int (0 + (i : Nat)))))[0]? = some (some (.ref a)) := by rw [List.getElem?_set_ne (by decide)]; exact z0
          have w1 : (σ.set 2 (some (.int (0 + (i : Nat)))))[1]? = some (some (.ref b)) := by rw [List.getElem?_set_ne (by decide)]; exact z1
          have w2 : (σ.set 2 (some (.int (0 + (i : Nat)))))[2]? = some (some (.int (i : Nat))) := by rw [List.getElem?_set_self (by omega), Int.zero_add]
          refine ⟨_, w0, _, w2, .inr (.inl ⟨a, xs, _, _, rfl, rfl, h1, atI_nat hx, _, w1, _, w2, .inr (.inl ⟨b, ys, _, _, rfl, rfl, h2, atI_nat hy, ?_⟩)⟩)⟩
          exact ⟨_, _, rfl, hi i _ _ hx hy, _, rfl, nope rfl ⟨rfl, by simp [hl3], w0, w1⟩⟩
        · rintro σ H' ⟨rfl, _⟩
          exact q
      · refine ⟨_, rfl, _, _, _, _, false, rfl, .ty _, h2.ty, kit_ty (by decide +kernel), _, rfl, nope rfl ?_⟩
        refine ⟨_, rfl, _, _, _, _, false, rfl, .ty _, h2.ty, kit_ty (by decide +kernel), _, rfl, nope rfl ?_⟩
        refine ⟨_, rfl, _, _, _, _, false, rfl, .ty _, h2.ty, kit_ty (by decide +kernel), _, rfl, nope rfl ?_⟩
        refine ⟨_, rfl, _, _, _, _, true, rfl, .ty _, h1.ty, kit_ty (by decide +kernel), _, rfl, nope rfl ?_⟩
        refine ⟨_, rfl, a, xs, rfl, .inl h1, _, rfl, b, ys, rfl, .inl h2, rfl, _, rfl, nope (by simp [hl]) ?_⟩
        refine ⟨_, rfl, b, ys, rfl, .inl h2, _, rfl, by omega, by omega, ?_⟩
        refine for_range (lo := 0) (n := ys.length) (fun i σ H' => H' = H ∧ σ.length = 3 ∧ σ[0]? = some (some (.ref a)) ∧ σ[1]? = some (some (.ref b))) ⟨rfl, rfl, rfl, rfl⟩ ?_ ?_
        · rintro i σ H' hi' ⟨rfl, hl3, z0, z1⟩
          have hx : xs[i]? = some xs[i] := List.getElem?_eq_getElem (by omega)
          have hy : ys[i]? = some ys[i] := List.getElem?_eq_getElem hi'
          have w0 : (σ.set 2 (some (.int (0 + (i : Nat)))))[0]? = some (some (.ref a)) := by rw [List.getElem?_set_ne (by decide)]; exact z0
          have w1 : (σ.set 2 (some (.int (0 + (i : Nat)))))[1]? = some (some (.ref b)) := by rw [List.getElem?_set_ne (by decide)]; exact z1
          have w2 : (σ.set 2 (some (.int (0 + (i : Nat)))))[2]? = some (some (.int (i : Nat))) := by rw [List.getElem?_set_self (by omega), Int.zero_add]
          refine ⟨_, w0, _, w2, .inl ⟨a, xs, _, _, rfl, rfl, h1, atI_nat hx, _, w1, _, w2, .inl ⟨b, ys, _, _, rfl, rfl, h2, atI_nat hy, ?_⟩⟩⟩
          exact ⟨_, _, rfl, hi i _ _ hx hy, _, rfl, nope rfl ⟨rfl, by simp [hl3], w0, w1⟩⟩
        · rintro σ H' ⟨rfl, _⟩
          exact q
theorem ok_law_same (T : Tx K mg) : ∀ n, Ok PG w K mg base CX0 (3 + n) (a_law_same K) p_law_same (spSame K n)
  | 0 => same_at T 0 2 (by
      obtain ⟨fd, F⟩ := T.f_law_same
      exact ⟨fd, ⟨fun _ _ _ _ h => h.elim, fun _ _ _ _ _ _ _ _ _ _ _ _ _ h => h.elim⟩, bi_law_same F, F.kp⟩) (Nat.le_refl _)
  | n + 1 => same_at T (n + 1) (3 + n) (ok_law_same T n) (by omega)
end
end K09
namespace K09
open PySem PySem.Spec PyProof.Rows L2
section
variable {w : World} {K : PySem.W.Frag} {mg : Str → Option Value} {base : Heap}
abbrev xT (n : Int) : HO := .xd [("count", .int n)]
abbrev xB (i n : Int) : HO := .xd [("number", .int n), ("place", .int i)]
def spCount (K : PySem.W.Frag) : Sp := fun vs H Q E => ∃ (n m : Int), vs = [.int n, .int m] ∧ (n > m → Rs (c_TooLong K) (xT n) H E) ∧ (¬ n > m → Q .non H)
theorem ok_check_count (T : Tx K mg) : Ok PG w K mg base (L2.CX PG w) 3 (a_check_count K) p_check_count (spCount K) := by
  refine Ok.of 2 T.f_check_count sc_check_count bi_check_count (by decide) (fun vs H Q E h => ?_) (fun cdv A outer s H vs Q E hr h => ?_)
  · obtain ⟨n, m, rfl, _⟩ := h
    rfl
  · obtain ⟨n, m, rfl, h1, h2⟩ := h
    refine ⟨_, pss_one (ps_if (pt_cmpR op_gt (pv 0) (pv 1) (nomark _)) (pss_one (ps_raiseX rfl T.e_TooLong (by decide) (by decide) hr (takes_of rfl rfl rfl rfl) rfl (pa_cons (pv 0) pa_nil))) pss_nil), ?_⟩
    refine ⟨_, rfl, _, rfl, _, _, rfl, rfl, _, rfl, ?_⟩
    refine ite2 (fun c => ?_) (fun c => ?_)
    · refine ⟨_, rfl, rfl, fun d hd => (h1 (of_decide_eq_true c)).now d hd⟩
    · exact h2 (of_decide_eq_false (by simpa using c))
def spNeg (K : PySem.W.Frag) : Sp := fun vs H Q E => ∃ (n : Int), vs = [.int n] ∧ (n < 0 → Rs (c_BadNumber K) (xB 0 n) H E) ∧ (¬ n < 0 → Q .non H)
theorem ok_check_not_negative (T : Tx K mg) : Ok PG w K mg base (L2.CX PG w) 3 (a_check_not_negative K) p_check_not_negative (spNeg K) := by
  refine Ok.of 2 T.f_check_not_negative sc_check_not_negative bi_check_not_negative (by decide) (fun vs H Q E h => ?_) (fun cdv A outer s H vs Q E hr h => ?_)
  · obtain ⟨n, rfl, _⟩ := h
    rfl
  · obtain ⟨n, rfl, h1, h2⟩ := h
    refine ⟨_, pss_one (ps_if (pt_cmpR op_lt (pv 0) pe_int (nomark _)) (pss_one (ps_raiseX rfl T.e_BadNumber (by decide) (by decide) hr (takes_of rfl rfl rfl rfl) rfl (pa_cons pe_int (pa_cons (pv 0) pa_nil)))) pss_nil), ?_⟩
    refine ⟨_, rfl, _, _, rfl, rfl, _, rfl, ?_⟩
    refine ite2 (fun c => ?_) (fun c => ?_)
    · refine ⟨_, rfl, rfl, fun d hd => (h1 (of_decide_eq_true c)).now d hd⟩
    · exact h2 (of_decide_eq_false (by simpa using c))
/-- the first of ns that is not from 0 to g -/
def bad (g : Int) : Nat → List Int → Option (Nat × Int)
  | _, [] => none
  | i, n :: ns => if 0 ≤ n ∧ n ≤ g then bad g (i + 1) ns else some (i, n)
theorem bad_step {g : Int} : ∀ {k : Nat} {ns : List Int} {i : Nat}, bad g (k + i) (ns.drop i) = bad g k ns → ∀ {n : Int}, ns[i]? = some n → (0 ≤ n ∧ n ≤ g → bad g (k + (i + 1)) (ns.drop (i + 1)) = bad g k ns) ∧ (¬ (0 ≤ n ∧ n ≤ g) → bad g k ns = some (k + i, n)) := by
  intro k ns i h n hn
  obtain ⟨hi, e⟩ := List.getElem?_eq_some_iff.mp hn
  rw [List.drop_eq_getElem_cons hi, e] at h
  constructor
  · intro c
    rw [← h, bad, if_pos c]
    rfl
  · intro c
    rw [← h, bad, if_neg c]
theorem bad_end {g : Int} {k : Nat} {ns : List Int} (h : bad g (k + ns.length) (ns.drop ns.length) = bad g k ns) : bad g k ns = none := by
  rw [← h, List.drop_length]
  rfl
theorem bad_none {g : Int} : ∀ {k : Nat} {ns : List Int}, bad g k ns = none ↔ ∀ n ∈ ns, 0 ≤ n ∧ n ≤ g
  | _, [] => by simp [bad]
  | k, n :: ns => by
    rw [bad]
    split
    · rename_i c
      rw [bad_none (ns := ns)]
      simp [c]
    · rename_i c
      simp [c]
def spOneNum (K : PySem.W.Frag) : Sp := fun vs H Q E => ∃ (i n g : Int), vs = [.int i, .int n, .int g] ∧ (¬ (0 ≤ n ∧ n ≤ g) → Rs (c_BadNumber K) (xB i n) H E) ∧ (0 ≤ n ∧ n ≤ g → Q .non H)
theorem ok_check_number (T : Tx K mg) : Ok PG w K mg base (L2.CX PG w) 2 (a_check_number K) p_check_number (spOneNum K) := by
  refine Ok.of 1 T.f_check_number sc_check_number bi_check_number (by decide) (fun vs H Q E h => ?_) (fun cdv A outer s H vs Q E hr h => ?_)
  · obtain ⟨_, _, _, rfl, _⟩ := h
    rfl
  · obtain ⟨i, n, g, rfl, h1, h2⟩ := h
    refine ⟨_, pss_one (ps_if (pt_not (pt_chain op_le op_le pe_int (pv 1) (pv 2))) (pss_one (ps_raiseX rfl T.e_BadNumber (by decide) (by decide) hr (takes_of rfl rfl rfl rfl) rfl (pa_cons (pv 0) (pa_cons (pv 1) pa_nil)))) pss_nil), ?_⟩
    refine ⟨_, rfl, _, _, rfl, rfl, _, rfl, ite2 (fun c => ?_) (fun c => ?_)⟩
    · refine ⟨_, rfl, _, _, rfl, rfl, _, rfl, ite2 (fun d => ?_) (fun d => ?_)⟩
      · exact ⟨_, rfl, _, rfl, rfl, fun z hz => (h1 (fun y => by simp [y.2] at d)).now z hz⟩
      · exact h2 ⟨of_decide_eq_true c, by simpa using d⟩
    · refine ⟨_, rfl, iteT ?_⟩
      exact ⟨_, rfl, _, rfl, rfl, fun z hz => (h1 (fun y => c (decide_eq_true y.1))).now z hz⟩
def spNums (K : PySem.W.Frag) : Sp := fun vs H Q E => ∃ (a : Addr) (ns : List Int) (g : Int), vs = [.ref a, .int g] ∧ SqA K H a (ns.map V.int) ∧
  (∀ i n, bad g 0 ns = some (i, n) → Rs (c_BadNumber K) (xB (i : Nat) n) H E) ∧ (bad g 0 ns = none → ∀ H', Same H H' → Q .non H')
theorem ok_check_numbers (T : Tx K mg) : Ok PG w K mg base (L2.CX PG w) 3 (a_check_numbers K) p_check_numbers (spNums K) := by
  refine Ok.of 2 T.f_check_numbers sc_check_numbers bi_check_numbers (by decide) (fun vs H Q E h => ?_) (fun cdv A outer s H vs Q E hr h => ?_)
  · obtain ⟨n, m, _, rfl, _⟩ := h
    rfl
  · obtain ⟨a, ns, g, rfl, hs, h1, h2⟩ := h
    have nd := sc_check_numbers.nd
    refine ⟨_, pss_one (ps_for (passX rfl) rfl (pi_enumW (by rfl) T.m_enumerate (pa_cons (pv 0) pa_nil)) (pg_tup rfl (pgs_cons (pg_name (i := 2) nd rfl (.inl rfl)) (pgs_cons (pg_name (i := 3) nd rfl (.inl rfl)) pgs_nil)))
      (pss_one (ps_expr (pc (ok_check_number T) hr T.g_check_number px (pa_cons (pv 2) (pa_cons (pv 3) (pa_cons (pv 1) pa_nil))))))), ?_⟩
    refine ⟨_, rfl, a, ns.map V.int, rfl, hs, fun J G hG wk => ?_⟩
    refine for_it wk (fun i σ H' => Same H H' ∧ bad g (0 + i) (ns.drop i) = bad g 0 ns ∧ σ.length = 4 ∧ σ[1]? = some (some (.int g))) ⟨.refl _, rfl, rfl, rfl⟩ (fun i σ H' _ p => hG H' p.1) (fun i x σ H0 H1 hi p y => ?_) (fun σ H' p => ?_)
    · obtain ⟨sm, hb, hl, hg⟩ := p
      obtain ⟨T', x', y', rfl, hT, rfl, e1, e2⟩ := y
      obtain ⟨n, hn, rfl⟩ := map_get e2
      cases e1
      have sm' : Same H (upd H0 T' (.tup [.int (i : Nat), .int n])) := sm.new' hT
      obtain ⟨b1, b2⟩ := bad_step hb hn
      have z2 : ((σ.set 2 (some (V.int (i : Nat)))).set 3 (some (V.int n)))[2]? = some (some (.int (i : Nat))) := by
        rw [List.getElem?_set_ne (by decide), List.getElem?_set_self (by omega)]
      have z3 : ((σ.set 2 (some (V.int (i : Nat)))).set 3 (some (V.int n)))[3]? = some (some (.int n)) := by
        rw [List.getElem?_set_self (by rw [List.length_set]; omega)]
      have z1 : ((σ.set 2 (some (V.int (i : Nat)))).set 3 (some (V.int n)))[1]? = some (some (.int g)) := by
        rw [List.getElem?_set_ne (by decide), List.getElem?_set_ne (by decide)]; exact hg
      refine ⟨T', _, rfl, SqT.of upd_same, rfl, _, _, rfl, _, _, rfl, rfl, ?_⟩
      exact ⟨_, z2, _, z3, _, z1, (i : Nat), n, g, rfl, fun c d H2 s2 hd => h1 i n (by have := b2 c; rwa [Nat.zero_add] at this) _ _ (sm'.trans s2) hd, fun c => ⟨sm', b1 c, by simp [hl], z1⟩⟩
    · refine h2 (bad_end (k := 0) ?_) H' p.1
      have := p.2.1
      rwa [List.length_map] at this
end
end K09
namespace K09
open PySem PySem.Spec PyProof.Rows L2
section
variable {w : World} {K : PySem.W.Frag} {mg : Str → Option Value} {base : Heap}
def spWants (_K : PySem.W.Frag) : Sp := fun vs H Q _ => ∃ (p : Addr) (st : List V) (n m : Int), vs = [.ref p, .int n, .int m] ∧ 0 ≤ n ∧ n ≤ 100 ∧ 0 ≤ m ∧ m < 2 ^ 190 ∧ H p = some (.lst st) ∧ PoolOk st ∧
  ∀ (H' : Hp) (l : Addr) (ns : List Int) (st' : List V), But p H H' → H' p = some (.lst st') → PoolOk st' → H l = none → H' l = some (.lst (ns.map V.int)) → ns.length = n.toNat → (∀ x ∈ ns, 0 ≤ x ∧ x ≤ m) → Q (.ref l) H'
theorem ok_law_wants (T : Tx K mg) : Ok PG w K mg base CX0 4 (a_law_wants K) p_law_wants (spWants K) := by
  refine Ok.of 3 T.f_law_wants sc_law_wants bi_law_wants (by decide) (fun vs H Q E h => ?_) (fun cdv A outer s H vs Q E hr h => ?_)
  · obtain ⟨_, _, _, _, rfl, _⟩ := h
    rfl
  · obtain ⟨p, st, n, m, rfl, n0, n1, m0, m1, hp, ok, q⟩ := h
    have nd := sc_law_wants.nd
    refine ⟨_, pss_one (ps_ret (pe_lc (own := [("night", 3)]) (g := gName 3) (tt := tYes) rfl nd (pi_range1 rfl T.m_range (pa_cons (pv 1) pa_nil)) (blkOk_by (N := n_law_wants) (sc := defScope s_law_wants) (by decide +kernel)) (fun _ _ _ _ _ => pg_name (i := 3) nd rfl (Or.inl rfl)) (fun _ _ _ _ _ => pts_nil)
      (fun _ _ _ _ _ => pc (ok_law_draw T) (hr.mono (by decide)) T.g_law_draw pass0 (pa_cons (pv 0) (pa_cons (pe_op op_add (pv 2) pe_int) pa_nil))))), ?_⟩
    refine ⟨_, rfl, n, rfl, by omega, by omega, fun D hD => ?_⟩
    have hDp : D ≠ p := fun z => by rw [z, hp] at hD; cases hD
    refine lc_range (lo := 0) (n := n.toNat) (fun i H' => ∃ (ns : List Int) (st' : List V), But p H H' ∧ H' p = some (.lst st') ∧ PoolOk st' ∧ H' D = some (.lst (ns.map V.int)) ∧ ns.length = i ∧ ∀ x ∈ ns, 0 ≤ x ∧ x ≤ m) ⟨[], st, .of (.new hD), by rw [upd_ne (Ne.symm hDp)]; exact hp, ok, upd_same, rfl, fun x hx => by cases hx⟩ ?_ ?_
    · rintro i H' hi ⟨ns, st', bt, hp', ok', hl, hn, hb⟩
      refine ⟨rfl, ?_⟩
      refine yesT ?_
      refine ⟨_, rfl, _, rfl, _, _, rfl, rfl, p, st', m + 1, rfl, by omega, ?_, hp', ok', fun v st2 v0 v1 ok2 => ?_⟩
      · have : (m + 1).natAbs < 2 ^ 191 := by omega
        exact Nat.lt_trans this (by decide)
      · refine ⟨ns.map V.int, by rw [upd_ne hDp]; exact hl, by rw [List.length_map, hn, sizeLine_eq]; omega, ns ++ [v], st2, ?_, ?_, ok2, ?_, ?_, ?_⟩
        · intro b o nb hb'
          have nbD : b ≠ D := fun z => by rw [z, hD] at hb'; cases hb'
          rw [upd_ne nbD, upd_ne nb]
          exact bt b o nb hb'
        · rw [upd_ne (Ne.symm hDp), upd_same]
        · rw [upd_same, List.map_append]; rfl
        · rw [List.length_append, hn]; rfl
        · intro x hx
          rcases List.mem_append.mp hx with hx | hx
          · exact hb x hx
          · rw [List.mem_singleton.mp hx]
            exact ⟨v0, by omega⟩
    · rintro H' ⟨ns, st', bt, hp', ok', hl, hn, hb⟩
      exact q H' D ns st' bt hp' ok' hD hl hn hb
end
end K09

set_option maxRecDepth 100000
set_option maxHeartbeats 4000000
namespace K09
open PySem PySem.Spec PyProof.Rows L2
section
variable {w : World} {K : PySem.W.Frag} {mg : Str → Option Value} {base : Heap}
/-- at p a Wants of ns -/
def IsW (K : PySem.W.Frag) (H : Hp) (p : Addr) (ns : List Int) : Prop := ∃ dx t, H p = some (.ins (c_Wants K) dx [("numbers", .ref t)]) ∧ SqT K H t (ns.map V.int)
theorem IsW.same {H H' : Hp} {p : Addr} {ns : List Int} (h : IsW K H p ns) (s : Same H H') : IsW K H' p ns := let ⟨dx, t, a, b⟩ := h; ⟨dx, t, s _ _ a, s.seqT b⟩
/-- a run of ns is made, or the error that is due comes -/
structure Mkr (K : PySem.W.Frag) (ns : List Int) (H : Hp) (Q : VK) (E : XK) : Prop where
  long : 60 < ns.length → Rs (c_TooLong K) (xT ns.length) H E
  bad_ : ns.length ≤ 60 → ∀ i n, bad 30 0 ns = some (i, n) → Rs (c_BadNumber K) (xB (i : Nat) n) H E
  good : ns.length ≤ 60 → bad 30 0 ns = none → ∀ H' p, Same H H' → IsW K H' p ns → Q (.ref p) H'
theorem Mkr.same {ns : List Int} {H H' : Hp} {Q : VK} {E : XK} (h : Mkr K ns H Q E) (s : Same H H') : Mkr K ns H' Q E :=
  ⟨fun c => (h.long c).same s, fun c i n e => (h.bad_ c i n e).same s, fun c e H2 p s2 g => h.good c e H2 p (s.trans s2) g⟩
def spInit (K : PySem.W.Frag) : Sp := fun vs H Q E => ∃ (x a dx : Addr) (ns : List Int), vs = [.ref x, .ref a] ∧ H x = some (.ins (c_Wants K) dx []) ∧ SqA K H a (ns.map V.int) ∧
  (60 < ns.length → Rs (c_TooLong K) (xT ns.length) H E) ∧ (ns.length ≤ 60 → ∀ i n, bad 30 0 ns = some (i, n) → Rs (c_BadNumber K) (xB (i : Nat) n) H E) ∧
  (ns.length ≤ 60 → bad 30 0 ns = none → ∀ H' t, Same H H' → SqT K H' t (ns.map V.int) → Q .non (upd H' x (.ins (c_Wants K) dx [("numbers", .ref t)])))
theorem ok_Wants_init (T : Tx K mg) : Ok PG w K mg base (L2.CX PG w) 4 (a_Wants_init K) p_Wants_init (spInit K) := by
  refine Ok.of 3 T.f_Wants_init sc_Wants_init bi_Wants_init (by decide) (fun vs H Q E h => ?_) (fun cdv A outer s H vs Q E hr h => ?_)
  · obtain ⟨n, m, _, _, rfl, _⟩ := h
    rfl
  · obtain ⟨x, a, dx, ns, rfl, hx, ha, h1, h2, h3⟩ := h
    have nd := sc_Wants_init.nd
    obtain ⟨u1, cv1⟩ := T.vWants_MOST
    obtain ⟨u2, cv2⟩ := T.vWants_GREATEST
    refine ⟨_, pss_cons (ps_expr (pc (ok_check_count T) hr T.g_check_count px (pa_cons (pe_callB call_len_seq (by rfl) T.m_len PySem.boot_len (pa_cons (pv 1) pa_nil)) (pa_cons (ClX.pe_cval (pgC T.gWants)) pa_nil))))
      (pss_cons (ps_expr (pc (ok_check_numbers T) hr T.g_check_numbers px (pa_cons (pv 1) (pa_cons (ClX.pe_cval (pgC T.gWants)) pa_nil))))
      (pss_one (ps_fld (pv 0) (pe_callTy call_tuple_of (by rfl) T.m_tuple (by decide +kernel) (pa_cons (pv 1) pa_nil)) rfl))), ?_⟩
    refine ⟨_, rfl, a, _, rfl, ha, _, _, _, _, rfl, T.rWants, cv1, _, _, rfl, fun c => ?_, fun c => ?_⟩
    · have := h1 (by rw [List.length_map] at c; omega)
      rw [List.length_map]
      exact this
    · have hl : ns.length ≤ 60 := by rw [List.length_map] at c; omega
      refine ⟨_, rfl, _, _, _, _, rfl, T.rWants, cv2, a, ns, 30, rfl, ha, fun i n e => h2 hl i n e, fun e H' sm => ?_⟩
      have fin : ∀ t H2, Same H H2 → SqT K H2 t (ns.map V.int) → Q .non (upd H2 x (.ins (c_Wants K) dx [("numbers", .ref t)])) := fun t H2 s2 ht => h3 hl e H2 t s2 ht
      rcases sm.seqA ha with ha' | ha'
      · refine ⟨_, rfl, a, _, rfl, .inl ⟨ha', fun l hl' => ?_⟩⟩
        have hx' : upd H' l (.tup (ns.map V.int)) x = some (.ins (c_Wants K) dx []) := (Same.new hl') _ _ (sm _ _ hx)
        exact ⟨_, rfl, x, c_Wants K, dx, _, rfl, hx', T.cWants, T.nWants_numbers, by decide, fin l _ (sm.new' hl') (SqT.of upd_same)⟩
      · refine ⟨_, rfl, a, _, rfl, .inr ⟨ha', ?_⟩⟩
        exact ⟨_, rfl, x, c_Wants K, dx, _, rfl, sm _ _ hx, T.cWants, T.nWants_numbers, by decide, fin a _ sm ha'⟩
/-- Wants(e): from what is asked of the run to what is asked of __init__ -/
theorem mk_wants {H : Hp} {a : Addr} {ns : List Int} {Q : VK} {E : XK} (ha : SqA K H a (ns.map V.int)) (h : Mkr K ns H Q E) : ∀ x dx, H x = none → H dx = none → dx ≠ x →
    spInit K ([.ref x, .ref a]) (upd (upd H dx (.own x)) x (.ins (c_Wants K) dx [])) (fun v H2 => v = .non ∧ Q (.ref x) H2) E := by
  intro x dx hx hdx hne
  have s1 : Same H (upd (upd H dx (.own x)) x (.ins (c_Wants K) dx [])) := (Same.new hdx).new' (by rw [upd_ne (Ne.symm hne)]; exact hx)
  refine ⟨x, a, dx, ns, rfl, upd_same, s1.seqA ha, fun c => (h.long c).same s1, fun c i n e => (h.bad_ c i n e).same s1, fun c e H' t s2 ht => ⟨rfl, ?_⟩⟩
  have hx' : H' x = some (.ins (c_Wants K) dx []) := s2 _ _ upd_same
  have ms : Same H (upd H' x (.ins (c_Wants K) dx [("numbers", .ref t)])) := fun b o q => by
    have : b ≠ x := fun z => by rw [z, hx] at q; cases q
    rw [upd_ne this]
    exact s2 _ _ (s1 _ _ q)
  have ht' : SqT K (upd H' x (.ins (c_Wants K) dx [("numbers", .ref t)])) t (ns.map V.int) := by
    rcases ht with (ht | ⟨o, ht⟩) | ht
    · exact .inl (.inl (by rw [upd_ne (fun z => by rw [z, hx'] at ht; cases ht)]; exact ht))
    · exact .inl (.inr ⟨o, by rw [upd_ne (fun z => by rw [z, hx'] at ht; cases ht)]; exact ht⟩)
    · exact .inr ht
  exact h.good c e _ x ms ⟨dx, t, upd_same, ht'⟩
theorem inB_none {ns : List Int} (h : ∀ x ∈ ns, 0 ≤ x ∧ x ≤ 30) : bad 30 0 ns = none := bad_none.2 h
theorem mk_wok {H : Hp} {a : Addr} {ns : List Int} (ha : SqA K H a (ns.map V.int)) (l : ns.length ≤ 60) (b : ∀ x ∈ ns, 0 ≤ x ∧ x ≤ 30) (x dx : Addr) (hx : H x = none) (hdx : H dx = none) (hne : dx ≠ x) (Q : VK) (q : ∀ H', Same H H' → IsW K H' x ns → Q .non H') :
    spInit K ([.ref x, .ref a]) (upd (upd H dx (.own x)) x (.ins (c_Wants K) dx [])) Q (fun _ _ _ => False) := by
  obtain ⟨x', a', dx', ns', e, h1, h2, h3, h4, h5⟩ := mk_wants (Q := fun y H' => ∃ p, y = .ref p ∧ Same H H' ∧ IsW K H' p ns) (E := fun _ _ _ => False) ha ⟨fun c => absurd c (by omega), fun _ i n e => (by rw [inB_none b] at e; cases e), fun _ _ H' p s g => ⟨p, rfl, s, g⟩⟩ x dx hx hdx hne
  refine ⟨x', a', dx', ns', e, h1, h2, h3, h4, fun c1 c2 H' t s ht => ?_⟩
  obtain ⟨_, p, e', s', g⟩ := h5 c1 c2 H' t s ht
  cases e
  cases e'
  exact q _ s' g
def spLen (K : PySem.W.Frag) : Sp := fun vs H Q _ => ∃ (p : Addr) (ns : List Int), vs = [.ref p] ∧ IsW K H p ns ∧ Q (.int ns.length) H
theorem ok_Wants_len (T : Tx K mg) : Ok PG w K mg base CX0 2 (a_Wants_len K) p_Wants_len (spLen K) := by
  refine Ok.of 1 T.f_Wants_len sc_Wants_len bi_Wants_len (by decide) (fun vs H Q E h => ?_) (fun cdv A outer s H vs Q E hr h => ?_)
  · obtain ⟨_, _, rfl, _⟩ := h
    rfl
  · obtain ⟨p, ns, rfl, ⟨dx, t, h1, h2⟩, q⟩ := h
    refine ⟨_, pss_one (ps_ret (pe_callB call_len_seq (by rfl) T.m_len PySem.boot_len (pa_cons (pe_fld (pv 0) rfl) pa_nil))), ?_⟩
    refine ⟨_, rfl, p, _, dx, _, _, rfl, h1, T.cWants, T.nWants_numbers, rfl, t, _, rfl, .inr h2, ?_⟩
    rw [List.length_map]
    exact q
def spAbs (K : PySem.W.Frag) : Sp := fun vs H Q _ => ∃ (p : Addr) (ns : List Int), vs = [.ref p] ∧ IsW K H p ns ∧ Q (.int ns.sum) H
theorem ok_Wants_abs (T : Tx K mg) : Ok PG w K mg base CX0 2 (a_Wants_abs K) p_Wants_abs (spAbs K) := by
  refine Ok.of 1 T.f_Wants_abs sc_Wants_abs bi_Wants_abs (by decide) (fun vs H Q E h => ?_) (fun cdv A outer s H vs Q E hr h => ?_)
  · obtain ⟨_, _, rfl, _⟩ := h
    rfl
  · obtain ⟨p, ns, rfl, ⟨dx, t, h1, h2⟩, q⟩ := h
    refine ⟨_, pss_one (ps_ret (pe_callB (cr_sumA rfl) (by rfl) T.m_sum (by decide +kernel) (pa_cons (pe_fld (pv 0) rfl) pa_nil))), ?_⟩
    exact ⟨_, rfl, p, _, dx, _, _, rfl, h1, T.cWants, T.nWants_numbers, rfl, t, _, rfl, .inr h2, q⟩
abbrev xR (n : Int) : HO := .xd [("rest", .int n)]
abbrev xN (n : Int) : HO := .xd [("night", .int n)]
abbrev xC (i n : Int) : HO := .xd [("coming", .int n), ("person", .int i)]
def spRest (K : PySem.W.Frag) : Sp := fun vs H Q E => ∃ (n : Int), vs = [.int n] ∧ (¬ (0 ≤ n ∧ n ≤ 60) → Rs (c_BadRest K) (xR n) H E) ∧ (0 ≤ n ∧ n ≤ 60 → Q .non H)
theorem ok_check_rest (T : Tx K mg) : Ok PG w K mg base (L2.CX PG w) 3 (a_check_rest K) p_check_rest (spRest K) := by
  refine Ok.of 2 T.f_check_rest sc_check_rest bi_check_rest (by decide) (fun vs H Q E h => ?_) (fun cdv A outer s H vs Q E hr h => ?_)
  · obtain ⟨_, rfl, _⟩ := h
    rfl
  · obtain ⟨n, rfl, h1, h2⟩ := h
    obtain ⟨u1, cv1⟩ := T.v_GREATEST_REST
    refine ⟨_, pss_one (ps_if (pt_not (pt_chain op_le op_le pe_int (pv 0) (pe_glob (v := .int 60) rfl cv1 ⟨_, rfl⟩))) (pss_one (ps_raiseX rfl T.e_BadRest (by decide) (by decide) hr (takes_of rfl rfl rfl rfl) rfl (pa_cons (pv 0) pa_nil))) pss_nil), ?_⟩
    refine ⟨_, rfl, _, _, rfl, rfl, _, rfl, ite2 (fun c => ?_) (fun c => ?_)⟩
    · refine ⟨_, _, rfl, rfl, _, rfl, ite2 (fun d => ?_) (fun d => ?_)⟩
      · exact ⟨_, rfl, rfl, fun z hz => (h1 (fun y => by simp [y.2] at d)).now z hz⟩
      · exact h2 ⟨of_decide_eq_true c, by simpa using d⟩
    · refine ⟨_, rfl, iteT ?_⟩
      exact ⟨_, rfl, rfl, fun z hz => (h1 (fun y => c (decide_eq_true y.1))).now z hz⟩
def spNight (K : PySem.W.Frag) : Sp := fun vs H Q E => ∃ (n m : Int), vs = [.int n, .int m] ∧ (¬ (1 ≤ n ∧ n ≤ m) → Rs (c_NoNight K) (xN n) H E) ∧ (1 ≤ n ∧ n ≤ m → Q .non H)
theorem ok_check_night (T : Tx K mg) : Ok PG w K mg base (L2.CX PG w) 3 (a_check_night K) p_check_night (spNight K) := by
  refine Ok.of 2 T.f_check_night sc_check_night bi_check_night (by decide) (fun vs H Q E h => ?_) (fun cdv A outer s H vs Q E hr h => ?_)
  · obtain ⟨_, _, rfl, _⟩ := h
    rfl
  · obtain ⟨n, m, rfl, h1, h2⟩ := h
    refine ⟨_, pss_one (ps_if (pt_not (pt_chain op_le op_le pe_int (pv 0) (pv 1))) (pss_one (ps_raiseX rfl T.e_NoNight (by decide) (by decide) hr (takes_of rfl rfl rfl rfl) rfl (pa_cons (pv 0) pa_nil))) pss_nil), ?_⟩
    refine ⟨_, rfl, _, _, rfl, rfl, _, rfl, ite2 (fun c => ?_) (fun c => ?_)⟩
    · refine ⟨_, rfl, _, _, rfl, rfl, _, rfl, ite2 (fun d => ?_) (fun d => ?_)⟩
      · exact ⟨_, rfl, rfl, fun z hz => (h1 (fun y => by simp [y.2] at d)).now z hz⟩
      · exact h2 ⟨of_decide_eq_true c, by simpa using d⟩
    · refine ⟨_, rfl, iteT ?_⟩
      exact ⟨_, rfl, rfl, fun z hz => (h1 (fun y => c (decide_eq_true y.1))).now z hz⟩
end
end K09

set_option maxRecDepth 100000
set_option maxHeartbeats 4000000
namespace K09
open PySem PySem.Spec PyProof.Rows L2
/-- the first coming that is not from 1 to g -/
def badc (g : Int) : Nat → List Int → Option (Nat × Int)
  | _, [] => none
  | i, n :: ns => if 1 ≤ n ∧ n ≤ g then badc g (i + 1) ns else some (i, n)
theorem badc_step {g : Int} {k : Nat} {ns : List Int} {i : Nat} (h : badc g (k + i) (ns.drop i) = badc g k ns) {n : Int} (hn : ns[i]? = some n) : (1 ≤ n ∧ n ≤ g → badc g (k + (i + 1)) (ns.drop (i + 1)) = badc g k ns) ∧ (¬ (1 ≤ n ∧ n ≤ g) → badc g k ns = some (k + i, n)) := by
  obtain ⟨hi, e⟩ := List.getElem?_eq_some_iff.mp hn
  rw [List.drop_eq_getElem_cons hi, e] at h
  constructor
  · intro c
    rw [← h, badc, if_pos c]
    rfl
  · intro c
    rw [← h, badc, if_neg c]
theorem badc_end {g : Int} {k : Nat} {ns : List Int} (h : badc g (k + ns.length) (ns.drop ns.length) = badc g k ns) : badc g k ns = none := by
  rw [← h, List.drop_length]
  rfl
theorem badc_none {g : Int} : ∀ {k : Nat} {ns : List Int}, badc g k ns = none ↔ ∀ n ∈ ns, 1 ≤ n ∧ n ≤ g
  | _, [] => by simp [badc]
  | k, n :: ns => by
    rw [badc]
    split
    · rename_i c
      rw [badc_none (ns := ns)]
      simp [c]
    · rename_i c
      simp [c]
section
variable {w : World} {K : PySem.W.Frag} {mg : Str → Option Value} {base : Heap}
/-- at p a House of days, starts, gap -/
def IsH (K : PySem.W.Frag) (H : Hp) (p : Addr) (days starts : List Int) (gap : Int) : Prop := ∃ dx wp t, H p = some (.ins (c_House K) dx [("wants", .ref wp), ("comings", .ref t), ("rest", .int gap)]) ∧ IsW K H wp days ∧ SqT K H t (starts.map V.int) ∧ days.length ≤ 60 ∧ starts.length ≤ 30
theorem IsH.same {H H' : Hp} {p : Addr} {days starts : List Int} {gap : Int} (h : IsH K H p days starts gap) (s : Same H H') : IsH K H' p days starts gap := let ⟨dx, wp, t, a, b, c, d⟩ := h; ⟨dx, wp, t, s _ _ a, b.same s, s.seqT c, d⟩
/-- a house is made, or what is due comes -/
structure Hmkr (K : PySem.W.Frag) (days starts : List Int) (gap : Int) (H : Hp) (Q : VK) (E : XK) : Prop where
  long : 30 < starts.length → Rs (c_TooLong K) (xT starts.length) H E
  com : starts.length ≤ 30 → ∀ i n, badc (days.length + 1) 0 starts = some (i, n) → Rs (c_BadComing K) (xC (i : Nat) n) H E
  rst : starts.length ≤ 30 → badc (days.length + 1) 0 starts = none → ¬ (0 ≤ gap ∧ gap ≤ 60) → Rs (c_BadRest K) (xR gap) H E
  good : starts.length ≤ 30 → badc (days.length + 1) 0 starts = none → 0 ≤ gap ∧ gap ≤ 60 → ∀ H' p, Same H H' → IsH K H' p days starts gap → Q (.ref p) H'
theorem Hmkr.same {days starts : List Int} {gap : Int} {H H' : Hp} {Q : VK} {E : XK} (h : Hmkr K days starts gap H Q E) (s : Same H H') : Hmkr K days starts gap H' Q E :=
  ⟨fun c => (h.long c).same s, fun c i n e => (h.com c i n e).same s, fun c e r => (h.rst c e r).same s, fun c e r H2 p s2 g => h.good c e r H2 p (s.trans s2) g⟩
theorem sqL_ins {H : Hp} {a x C dx : Addr} {fs : List (Str × V)} {xs : List V} {o : HO} (h : SqL K H a xs) (hx : H x = some (.ins C dx fs)) : SqL K (upd H x o) a xs := by
  rcases h with (h | ⟨u, h⟩) | h
  · exact .inl (.inl (by rw [upd_ne (fun z => by rw [z, hx] at h; cases h)]; exact h))
  · exact .inl (.inr ⟨u, by rw [upd_ne (fun z => by rw [z, hx] at h; cases h)]; exact h⟩)
  · exact .inr h
theorem sqT_ins {H : Hp} {a x C dx : Addr} {fs : List (Str × V)} {xs : List V} {o : HO} (h : SqT K H a xs) (hx : H x = some (.ins C dx fs)) : SqT K (upd H x o) a xs := by
  rcases h with (h | ⟨u, h⟩) | h
  · exact .inl (.inl (by rw [upd_ne (fun z => by rw [z, hx] at h; cases h)]; exact h))
  · exact .inl (.inr ⟨u, by rw [upd_ne (fun z => by rw [z, hx] at h; cases h)]; exact h⟩)
  · exact .inr h
theorem upd_over {H : Hp} {x l : Addr} {i1 i3 o : HO} (h : l ≠ x) : upd (upd (upd H x i1) l o) x i3 = upd (upd H l o) x i3 := by
  funext b
  by_cases e : b = x
  · subst e
    rw [upd_same, upd_same]
  · rw [upd_ne e, upd_ne e]
    by_cases e2 : b = l
    · subst e2
      rw [upd_same, upd_same]
    · rw [upd_ne e2, upd_ne e2, upd_ne e]
def spHInit (K : PySem.W.Frag) : Sp := fun vs H Q E => ∃ (x wp a dx : Addr) (days starts : List Int) (gap : Int), vs = [.ref x, .ref wp, .ref a, .int gap] ∧ H x = some (.ins (c_House K) dx []) ∧ IsW K H wp days ∧ days.length ≤ 60 ∧ SqA K H a (starts.map V.int) ∧
  (30 < starts.length → Rs (c_TooLong K) (xT starts.length) H E) ∧ (starts.length ≤ 30 → ∀ i n, badc (days.length + 1) 0 starts = some (i, n) → Rs (c_BadComing K) (xC (i : Nat) n) H E) ∧
  (starts.length ≤ 30 → badc (days.length + 1) 0 starts = none → ¬ (0 ≤ gap ∧ gap ≤ 60) → Rs (c_BadRest K) (xR gap) H E) ∧
  (starts.length ≤ 30 → badc (days.length + 1) 0 starts = none → 0 ≤ gap ∧ gap ≤ 60 → ∀ H' t, Same H H' → SqT K H' t (starts.map V.int) → Q .non (upd H' x (.ins (c_House K) dx [("wants", .ref wp), ("comings", .ref t), ("rest", .int gap)])))
theorem fn_House_init (T : Tx K mg) {fd : FuncData} (F : FunD K "__init__" "House.__init__" (defArgs s_House_init) (defBody s_House_init) (defScope s_House_init) [] [("rest", .int 1)] (a_House_init K) fd) : FnOk PG w K mg base (L2.CX PG w) 5 (a_House_init K) fd p_House_init (spHInit K) := by
  refine F.ok (k := 4) sc_House_init (fun vs H Q E h => ?_) (fun cdv A outer s H vs Q E hr h => ?_)
  · obtain ⟨_, _, _, _, _, _, _, rfl, _⟩ := h
    rfl
  · obtain ⟨x, wp, a, dx, days, starts, gap, rfl, hx, hw, ld, ha, h1, h2, h3, h4⟩ := h
    have nd := sc_House_init.nd
    have hr3 := hr.mono (show 3 ≤ 4 by decide)
    obtain ⟨u1, cv1⟩ := T.v_MOST_PEOPLE
    refine ⟨_, pss_cons (ps_expr (pc (ok_check_count T) hr3 T.g_check_count px (pa_cons (pe_callB call_len_seq (by rfl) T.m_len PySem.boot_len (pa_cons (pv 2) pa_nil)) (pa_cons (pe_glob (v := .int 30) rfl cv1 ⟨_, rfl⟩) pa_nil))))
      (pss_cons (ps_for (passX rfl) rfl (pi_enumW (by rfl) T.m_enumerate (pa_cons (pv 2) pa_nil)) (pg_tup rfl (pgs_cons (pg_name (i := 4) nd rfl (.inl rfl)) (pgs_cons (pg_name (i := 5) nd rfl (.inl rfl)) pgs_nil)))
        (pss_one (ps_if (pt_not (pt_chain op_le op_le pe_int (pv 5) (pe_op op_add (pe_callB (cLen (ok_Wants_len T) T.wWants_len hr3 pass0) (by rfl) T.m_len PySem.boot_len (pa_cons (pv 1) pa_nil)) pe_int))) (pss_one (ps_raiseX rfl T.e_BadComing (by decide) (by decide) hr (takes_of rfl rfl rfl rfl) rfl (pa_cons (pv 4) (pa_cons (pv 5) pa_nil)))) pss_nil)))
      (pss_cons (ps_expr (pc (ok_check_rest T) hr3 T.g_check_rest px (pa_cons (pv 3) pa_nil)))
      (pss_cons (ps_fld (pv 0) (pv 1) rfl)
      (pss_cons (ps_fld (pv 0) (pe_callTy call_tuple_of (by rfl) T.m_tuple (by decide +kernel) (pa_cons (pv 2) pa_nil)) rfl)
      (pss_one (ps_fld (pv 0) (pv 3) rfl)))))), ?_⟩
    refine ⟨_, rfl, a, _, rfl, ha, _, _, rfl, fun c => ?_, fun c => ?_⟩
    · have := h1 (by rw [List.length_map] at c; omega)
      rw [List.length_map]
      exact this
    have l1 : starts.length ≤ 30 := by rw [List.length_map] at c; omega
    refine ⟨_, rfl, a, starts.map V.int, rfl, ha, fun J G hG wk => ?_⟩
    refine for_it wk (fun i σ H' => ∃ x4 x5, σ = [some (.ref x), some (.ref wp), some (.ref a), some (.int gap), x4, x5] ∧ Same H H' ∧ badc (days.length + 1) (0 + i) (starts.drop i) = badc (days.length + 1) 0 starts) ⟨none, none, rfl, .refl _, rfl⟩ (fun i σ H' _ p => hG H' p.choose_spec.choose_spec.2.1) (fun i y σ H0 H1 hi p z => ?_) (fun σ H' p => ?_)
    · obtain ⟨x4, x5, rfl, sm, hb⟩ := p
      obtain ⟨T', x', y', rfl, hT, rfl, e1, e2⟩ := z
      obtain ⟨n, hn, rfl⟩ := map_get e2
      cases e1
      have sm' : Same H (upd H0 T' (.tup [.int (i : Nat), .int n])) := sm.new' hT
      obtain ⟨b1, b2⟩ := badc_step hb hn
      have hw' := hw.same sm'
      obtain ⟨dw, u, w1, w2⟩ := id hw'
      have err : ¬ (1 ≤ n ∧ n ≤ (days.length : Int) + 1) → ∀ d, upd H0 T' (.tup [.int (i : Nat), .int n]) d = none → E (.ref (c_BadComing K)) (some d) (upd (upd H0 T' (.tup [.int (i : Nat), .int n])) d (xC (i : Nat) n)) := fun c d hd =>
        h2 l1 i n (by have := b2 c; rwa [Nat.zero_add] at this) _ d sm' hd
      refine ⟨T', _, rfl, SqT.of upd_same, rfl, _, _, rfl, _, _, rfl, rfl, ?_⟩
      refine ⟨_, rfl, _, _, rfl, rfl, _, rfl, ite2 (fun c => ?_) (fun c => ?_)⟩
      · refine ⟨_, rfl, wp, dw, _, rfl, w1, wp, days, rfl, hw', days.length, rfl, by omega, _, _, rfl, rfl, _, _, rfl, rfl, _, rfl, ite2 (fun d => ?_) (fun d => ?_)⟩
        · exact ⟨_, rfl, _, rfl, rfl, fun z hz => err (fun y => by simp [y.2] at d) z hz⟩
        · exact ⟨_, _, rfl, sm', b1 ⟨of_decide_eq_true c, by simpa using d⟩⟩
      · refine ⟨_, rfl, iteT ?_⟩
        exact ⟨_, rfl, _, rfl, rfl, fun z hz => err (fun y => c (decide_eq_true y.1)) z hz⟩
    · obtain ⟨x4, x5, rfl, sm, hb⟩ := p
      rw [List.length_map] at hb
      have hn := badc_end (k := 0) hb
      refine ⟨_, rfl, gap, rfl, fun c => (h3 l1 hn c).same sm, fun c => ?_⟩
      have hx1 := sm _ _ hx
      refine ⟨_, rfl, _, rfl, x, c_House K, dx, _, rfl, hx1, T.cHouse, T.nHouse_wants, by decide, ?_⟩
      have hx2 : upd H' x (.ins (c_House K) dx [("wants", .ref wp)]) x = some (.ins (c_House K) dx [("wants", .ref wp)]) := upd_same
      rcases sm.seqA ha with ha' | ha'
      · refine ⟨_, rfl, a, _, rfl, .inl ⟨sqL_ins ha' hx1, fun l hl => ?_⟩⟩
        have lx : l ≠ x := fun z => by rw [z, upd_same] at hl; cases hl
        have hl0 : H' l = none := by rw [upd_ne lx] at hl; exact hl
        have hx3 : upd (upd H' x (.ins (c_House K) dx [("wants", .ref wp)])) l (.tup (starts.map V.int)) x = some (.ins (c_House K) dx [("wants", .ref wp)]) := by rw [upd_ne (Ne.symm lx)]; exact hx2
        refine ⟨_, rfl, x, c_House K, dx, _, rfl, hx3, T.cHouse, T.nHouse_comings, (by show 1 < 1000; decide), ?_⟩
        refine ⟨_, rfl, _, rfl, x, c_House K, dx, _, rfl, upd_same, T.cHouse, T.nHouse_rest, (by show 2 < 1000; decide), ?_⟩
        rw [upd_upd, upd_over lx]
        exact h4 l1 hn c (upd H' l (.tup (starts.map V.int))) l (sm.new' hl0) (SqT.of upd_same)
      · refine ⟨_, rfl, a, _, rfl, .inr ⟨sqT_ins ha' hx1, ?_⟩⟩
        refine ⟨_, rfl, x, c_House K, dx, _, rfl, hx2, T.cHouse, T.nHouse_comings, (by show 1 < 1000; decide), ?_⟩
        refine ⟨_, rfl, _, rfl, x, c_House K, dx, _, rfl, upd_same, T.cHouse, T.nHouse_rest, (by show 2 < 1000; decide), ?_⟩
        rw [upd_upd, upd_upd]
        exact h4 l1 hn c H' a sm ha'
end
end K09

set_option maxRecDepth 100000
set_option maxHeartbeats 4000000
namespace L2
open PySem PySem.Spec PyProof.Rows
theorem pprop {X : Cx} {CX : CXT} {k : Nat} {C p g : Addr} {f : Str} {ps : List Str} {sp : Sp} {E : XK} {e : Expr} {pos : Pos} {ta : TE} (O : Ok X.prog X.w X.K X.mg X.base CX k g ps sp) (he : PE X e ta) (c : Cls X.K C) (hp : PropOf X.K C f p g) (hr : Room (k + 1) X.A) (hx : Passes CX X.nox E)
    (hab : attributeBase e f X.env (eval e X.env) = eval e X.env := by rfl) : PE X (.Attribute e f pos) (tProp C sp [] E ta) := let ⟨_, a, b, _⟩ := O.ex; pe_prop he c hp a hr b .nil hx hab
end L2
namespace K09
open PySem PySem.Spec PyProof.Rows L2
section
variable {w : World} {K : PySem.W.Frag} {mg : Str → Option Value} {base : Heap}
abbrev HInitD (K : PySem.W.Frag) (fd : FuncData) : Prop := FunD K "__init__" "House.__init__" (defArgs s_House_init) (defBody s_House_init) (defScope s_House_init) [] [("rest", .int 1)] (a_House_init K) fd
theorem bi_HK {fd : FuncData} (F : HInitD K fd) : ∃ mv : List Value, KBn K fd p_House_init 3 ["rest"] (fun us ws => us ++ ws) (fun vs zs => vs ++ zs) :=
  F.kbinds0 3 ["rest"] [] (fun us _ ws => us ++ ws) (by simp) (by simp) (fun r1 _ r3 => r1.append r3) (fun _ _ _ _ _ _ us mv ws hl hi hw => match us, mv, ws, hl, hi, hw with | [_, _, _], [], [_], _, _, _ => rfl)
theorem bi_H1 {fd : FuncData} (F : HInitD K fd) : ∃ ds, Vals [V.int 1] ds ∧ Binds K fd p_House_init ds :=
  F.binds0 3 (by simp) rfl (fun _ _ _ _ _ _ us ks hl hk => match us, ks, hl, hk with | [_, _, _], [_], _, _ => ⟨_, _, _, _, _, _, rfl, rfl, rfl⟩)
end
end K09

set_option maxRecDepth 100000
set_option maxHeartbeats 8000000
namespace K09
open PySem PySem.Spec PyProof.Rows L2
section
variable {w : World} {K : PySem.W.Frag} {mg : Str → Option Value} {base : Heap}
theorem mk_house {H : Hp} {wp a : Addr} {days starts : List Int} {gap : Int} {Q : VK} {E : XK} (hw : IsW K H wp days) (ld : days.length ≤ 60) (ha : SqA K H a (starts.map V.int)) (h : Hmkr K days starts gap H Q E) : ∀ x dx, H x = none → H dx = none → dx ≠ x →
    spHInit K ([.ref x, .ref wp, .ref a, .int gap]) (upd (upd H dx (.own x)) x (.ins (c_House K) dx [])) (fun v H2 => v = .non ∧ Q (.ref x) H2) E := by
  intro x dx hx hdx hne
  have s1 : Same H (upd (upd H dx (.own x)) x (.ins (c_House K) dx [])) := (Same.new hdx).new' (by rw [upd_ne (Ne.symm hne)]; exact hx)
  refine ⟨x, wp, a, dx, days, starts, gap, rfl, upd_same, hw.same s1, ld, s1.seqA ha, fun c => (h.long c).same s1, fun c i n e => (h.com c i n e).same s1, fun c e r => (h.rst c e r).same s1, fun c e r H' t s2 ht => ⟨rfl, ?_⟩⟩
  have hx' : H' x = some (.ins (c_House K) dx []) := s2 _ _ upd_same
  have ms : Same H (upd H' x (.ins (c_House K) dx [("wants", .ref wp), ("comings", .ref t), ("rest", .int gap)])) := fun b o q => by
    have : b ≠ x := fun z => by rw [z, hx] at q; cases q
    rw [upd_ne this]
    exact s2 _ _ (s1 _ _ q)
  exact h.good c e r _ x ms ⟨dx, wp, t, upd_same, hw.same ms, sqT_ins ht hx', ld, c⟩
def spDaysN (K : PySem.W.Frag) : Sp := fun vs H Q _ => ∃ (p : Addr) (days starts : List Int) (gap : Int), vs = [.ref p] ∧ IsH K H p days starts gap ∧ Q (.int days.length) H
theorem ok_House_nights (T : Tx K mg) : Ok PG w K mg base CX0 4 (a_House_nights K) p_House_nights (spDaysN K) := by
  refine Ok.of 3 T.f_House_nights sc_House_nights bi_House_nights (by decide) (fun vs H Q E h => ?_) (fun cdv A outer s H vs Q E hr h => ?_)
  · obtain ⟨_, _, _, _, rfl, _⟩ := h
    rfl
  · obtain ⟨p, days, starts, gap, rfl, ⟨dx, wp, t, h1, h2, h3, l1, l2⟩, q⟩ := h
    obtain ⟨dw, u, w1, w2⟩ := id h2
    refine ⟨_, pss_one (ps_ret (pe_callB (cLen (ok_Wants_len T) T.wWants_len hr pass0) (by rfl) T.m_len PySem.boot_len (pa_cons (pe_fld (pv 0) rfl) pa_nil))), ?_⟩
    exact ⟨_, rfl, p, _, dx, _, _, rfl, h1, T.cHouse, T.nHouse_wants, rfl, wp, dw, _, rfl, w1, wp, days, rfl, h2, days.length, rfl, by omega, q⟩
def spPeopleN (K : PySem.W.Frag) : Sp := fun vs H Q _ => ∃ (p : Addr) (days starts : List Int) (gap : Int), vs = [.ref p] ∧ IsH K H p days starts gap ∧ Q (.int starts.length) H
theorem ok_House_people (T : Tx K mg) : Ok PG w K mg base CX0 2 (a_House_people K) p_House_people (spPeopleN K) := by
  refine Ok.of 1 T.f_House_people sc_House_people bi_House_people (by decide) (fun vs H Q E h => ?_) (fun cdv A outer s H vs Q E hr h => ?_)
  · obtain ⟨_, _, _, _, rfl, _⟩ := h
    rfl
  · obtain ⟨p, days, starts, gap, rfl, ⟨dx, wp, t, h1, h2, h3, l1, l2⟩, q⟩ := h
    refine ⟨_, pss_one (ps_ret (pe_callB call_len_seq (by rfl) T.m_len PySem.boot_len (pa_cons (pe_fld (pv 0) rfl) pa_nil))), ?_⟩
    refine ⟨_, rfl, p, _, dx, _, _, rfl, h1, T.cHouse, T.nHouse_comings, rfl, t, _, rfl, .inr h3, ?_⟩
    rw [List.length_map]
    exact q
/-- who has come by a night -/
def hereL (starts : List Int) (n : Int) : List Int := ((List.range starts.length).filter fun i => decide (starts.getD i 0 ≤ n)).map fun i => ((i : Nat) : Int)
def spHere (K : PySem.W.Frag) : Sp := fun vs H Q E => ∃ (p : Addr) (days starts : List Int) (gap n : Int), vs = [.ref p, .int n] ∧ IsH K H p days starts gap ∧ (¬ (1 ≤ n ∧ n ≤ days.length) → Rs (c_NoNight K) (xN n) H E) ∧
  (1 ≤ n ∧ n ≤ days.length → ∀ H' l, Same H H' → H l = none → H' l = some (.lst ((hereL starts n).map V.int)) → Q (.ref l) H')
theorem ok_House_here (T : Tx K mg) : Ok PG w K mg base (L2.CX PG w) 6 (a_House_here K) p_House_here (spHere K) := by
  refine Ok.of 5 T.f_House_here sc_House_here bi_House_here (by decide) (fun vs H Q E h => ?_) (fun cdv A outer s H vs Q E hr h => ?_)
  · obtain ⟨_, _, _, _, _, rfl, _⟩ := h
    rfl
  · obtain ⟨p, days, starts, gap, n, rfl, hh, e1, q⟩ := h
    obtain ⟨dx, wp, t, h1, h2, h3, l1, l2⟩ := id hh
    have nd := sc_House_here.nd
    refine ⟨_, pss_cons (ps_expr (pc (ok_check_night T) (hr.mono (by decide)) T.g_check_night px (pa_cons (pv 1) (pa_cons (pprop (ok_House_nights T) (pv 0) T.cHouse T.wHouse_nights hr pass0) pa_nil))))
      (pss_one (ps_ret (pe_lc (own := [("person", 2), ("coming", 3)]) (g := gTup K 2 (gCons (gName 2) (gCons (gName 3) gNil))) rfl nd (pi_enumW (by rfl) T.m_enumerate (pa_cons (pe_fld (pv 0) rfl) pa_nil)) (blkOk_by (N := n_House_here) (sc := defScope s_House_here) (by decide +kernel))
        (fun _ _ _ _ _ => pg_tup rfl (pgs_cons (pg_name (i := 2) nd rfl (Or.inl rfl)) (pgs_cons (pg_name (i := 3) nd rfl (Or.inl rfl)) pgs_nil))) (fun _ _ _ _ _ => pts_one (pt_cmpR op_le (pv 3) (pv 1) (nomark _))) (fun _ _ _ _ _ => pv 2)))), ?_⟩
    refine ⟨_, rfl, _, rfl, p, dx, _, rfl, h1, p, days, starts, gap, rfl, hh, n, _, rfl, e1, fun c => ?_⟩
    refine ⟨_, rfl, p, _, dx, _, _, rfl, h1, T.cHouse, T.nHouse_comings, rfl, t, _, rfl, .inr h3, fun J G hG wk => ?_⟩
    intro D hD
    have new : ∀ {H' : Hp} {T' : Addr} {o o' : HO}, Same H H' → H' T' = none → Same H (upd (upd H' T' o) D o') := fun {H' T' o o'} sm hT c z hc => by
      have n1 : c ≠ D := fun y => by rw [y, hD] at hc; cases hc
      have n2 : c ≠ T' := fun y => by have := sm _ _ hc; rw [y, hT] at this; cases this
      rw [upd_ne n1, upd_ne n2]
      exact sm _ _ hc
    refine lc_it wk (fun i H' => Same H H' ∧ H' D = some (.lst ((((List.range i).filter fun i => decide (starts.getD i 0 ≤ n)).map fun i => ((i : Nat) : Int)).map V.int))) ⟨.new hD, upd_same⟩ (fun i H' _ z => hG H' z.1) (fun i x H' H2 hi z y => ?_) (fun H' z => ?_)
    · obtain ⟨sm, hl⟩ := z
      obtain ⟨T', x', y', rfl, hT, rfl, f1, f2⟩ := y
      obtain ⟨m, hm, rfl⟩ := map_get f2
      cases f1
      have dT : D ≠ T' := fun z => by rw [z, hT] at hl; cases hl
      have gd : starts.getD i 0 = m := by rw [List.getD_eq_getElem?_getD, hm]; rfl
      refine ⟨T', _, rfl, SqT.of upd_same, rfl, _, _, rfl, _, _, rfl, rfl, rfl, _, rfl, _, rfl, _, _, rfl, rfl, _, rfl, ite2 (fun d => ?_) (fun d => ?_)⟩
      · have d' : decide (starts.getD i 0 ≤ n) = true := by rw [gd]; exact d
        refine ⟨_, rfl, _, by rw [upd_ne dT]; exact hl, ?_, new sm hT, ?_⟩
        · rw [List.length_map, List.length_map, sizeLine_eq]
          have := List.length_filter_le (fun i => decide (starts.getD i 0 ≤ n)) (List.range i)
          rw [List.length_range] at this
          rw [List.length_map] at hi
          omega
        · rw [upd_same, List.range_succ, List.filter_append, List.filter_cons_of_pos (p := fun i => decide (starts.getD i 0 ≤ n)) d', List.filter_nil, List.map_append, List.map_append]
          rfl
      · have d' : ¬ decide (starts.getD i 0 ≤ n) = true := by rw [gd]; exact d
        refine ⟨sm.new' hT, ?_⟩
        rw [upd_ne dT, hl, List.range_succ, List.filter_append, List.filter_cons_of_neg (p := fun i => decide (starts.getD i 0 ≤ n)) d', List.filter_nil, List.append_nil]
    · obtain ⟨sm, hl⟩ := z
      rw [List.length_map] at hl
      exact q c H' D sm hD hl
end
end K09

set_option maxRecDepth 100000
set_option maxHeartbeats 8000000
namespace K09
open PySem PySem.Spec PyProof.Rows L2
section
variable {w : World} {K : PySem.W.Frag} {mg : Str → Option Value} {base : Heap}
theorem it_Wants (T : Tx K mg) : OwnIt K mg (c_Wants K) (a_Wants_iter K) "numbers" := by
  obtain ⟨fd, F⟩ := T.f_Wants_iter
  exact ownIt_of T.cWants T.nWants_numbers T.wWants_iter.1 T.wWants_iter.2 T.m_iter F ⟨_, _, _, _, _, rfl, fun env h => by obtain ⟨⟩ := env; cases h; rfl⟩ ⟨rfl, rfl, by decide +kernel, rfl, rfl, rfl⟩ fun s fd v h1 h2 h3 => .of_eq (by obtain ⟨⟩ := fd; cases h1; cases h2; cases h3; rfl)
end
end K09

set_option maxRecDepth 100000
set_option maxHeartbeats 4000000
/-! # Lists of numbers drawn from a pool -/
namespace L2
open PySem PySem.Spec PyProof.Rows
/-- [f(pool) for x in range(..)] -/
theorem lc_draws {lo : Int} {n i0 : Nat} {te : TE} {vs : List Nat} {σ : L2.St} {H1 : Hp} {D p : Addr} {st : List V} {Qd : Hp → Prop} {C : Int → Prop} (hp : H1 p = some (.lst st)) (ok : PoolOk st) (hD : H1 D = none) (hn : n ≤ 10000)
    (hte : ∀ (i : Nat) (H2 : Hp) (st2 : List V), H2 p = some (.lst st2) → PoolOk st2 → But p H1 H2 → wipe ((wipe σ vs).set i0 (some (.int (lo + (i : Nat))))) vs = wipe σ vs ∧ ∀ Q : VK, (∀ v H3 st3, C v → But p H2 H3 → H3 p = some (.lst st3) → PoolOk st3 → Q (.int v) H3) → te ((wipe σ vs).set i0 (some (.int (lo + (i : Nat))))) H2 Q)
    (hd : ∀ (H' : Hp) (ns : List Int) (st' : List V), But p H1 H' → H' p = some (.lst st') → PoolOk st' → H' D = some (.lst (ns.map V.int)) → ns.length = n → (∀ x ∈ ns, C x) → Qd H') :
    ∃ W : Nat → Nat → Hp → Prop, (∃ m, W 0 m (upd H1 D (.lst []))) ∧ ∀ i m H, W i m H →
      ((Itr lo n).stop i H ∧ Qd H) ∨ ((Itr lo n).go i H ∧ ∃ Nx : Hp → Prop, (∀ H', Nx H' → ∃ m', m' < m ∧ W (i + 1) m' H') ∧ ∀ x H', (Itr lo n).yld i H x H' → gName i0 x (wipe σ vs) H' fun σ2 H2 => wipe σ2 vs = wipe σ vs ∧ tYes σ2 H2 fun b H3 =>
        if b = true then te σ2 H3 fun y H4 => ∃ acc, H4 D = some (.lst acc) ∧ acc.length < sizeLine ∧ Nx (upd H4 D (.lst (acc ++ [y]))) else Nx H3) := by
  have dp : D ≠ p := fun z => by rw [z, hp] at hD; cases hD
  refine lc_range (lo := lo) (n := n) (fun i H' => ∃ (ns : List Int) (st' : List V), But p H1 H' ∧ H' p = some (.lst st') ∧ PoolOk st' ∧ H' D = some (.lst (ns.map V.int)) ∧ ns.length = i ∧ ∀ x ∈ ns, C x) ⟨[], st, .of (.new hD), by rw [upd_ne (Ne.symm dp)]; exact hp, ok, upd_same, rfl, fun x hx => by cases hx⟩ ?_ ?_
  · rintro i H' hi ⟨ns, st', bt, hp', ok', hl, hn', hb⟩
    obtain ⟨e1, e2⟩ := hte i H' st' hp' ok' bt
    refine ⟨e1, yesT (e2 _ fun v H3 st3 hv b3 hp3 ok3 => ?_)⟩
    refine ⟨ns.map V.int, b3 _ _ dp hl, by rw [List.length_map, hn', sizeLine_eq]; omega, ns ++ [v], st3, fun c o nc hc => ?_, ?_, ok3, ?_, ?_, fun x hx => ?_⟩
    · have nD : c ≠ D := fun z => by rw [z, hD] at hc; cases hc
      rw [upd_ne nD]
      exact b3 c o nc (bt c o nc hc)
    · rw [upd_ne (Ne.symm dp)]; exact hp3
    · rw [upd_same, List.map_append]; rfl
    · rw [List.length_append, hn']; rfl
    · rcases List.mem_append.mp hx with hx | hx
      · exact hb x hx
      · rw [List.mem_singleton.mp hx]; exact hv
  · rintro H' ⟨ns, st', bt, hp', ok', hl, hn', hb⟩
    exact hd H' ns st' bt hp' ok' hl hn' hb
theorem But.none {p l : Addr} {H H' : Hp} {o : HO} (b : But p H H') (hp : H' p = some o) (h : H' l = Option.none) : H l = Option.none := by
  cases e : H l with
  | none => rfl
  | some u =>
    have n : l ≠ p := fun z => by rw [z, hp] at h; cases h
    rw [b l u n e] at h
    cases h
end L2

set_option maxRecDepth 100000
set_option maxHeartbeats 8000000
namespace K09
open PySem PySem.Spec PyProof.Rows L2
/-- a new list of numbers from the pool -/
def NewRow (p : Addr) (H : Hp) (C : List Int → Prop) (Q : VK) : Prop := ∀ (H' : Hp) (l : Addr) (ns : List Int) (st' : List V), But p H H' → H' p = some (.lst st') → PoolOk st' → H l = none → H' l = some (.lst (ns.map V.int)) → C ns → Q (.ref l) H'
/-- a number from the pool -/
def NewNum (p : Addr) (H : Hp) (C : Int → Prop) (Q : VK) : Prop := ∀ (v : Int) (H' : Hp) (st' : List V), C v → But p H H' → H' p = some (.lst st') → PoolOk st' → Q (.int v) H'
section
variable {w : World} {K : PySem.W.Frag} {mg : Str → Option Value} {base : Heap}
def spSize : Sp := fun vs H Q _ => ∃ (p : Addr) (st : List V) (m : Int), vs = [.ref p, .int m] ∧ 0 < m ∧ m ≤ 100 ∧ H p = some (.lst st) ∧ PoolOk st ∧ NewNum p H (fun v => 0 ≤ v ∧ v ≤ m) Q
theorem ok_law_size (T : Tx K mg) : Ok PG w K mg base CX0 3 (a_law_size K) p_law_size spSize := by
  refine Ok.of 2 T.f_law_size sc_law_size bi_law_size (by decide) (fun vs H Q E h => ?_) (fun cdv A outer s H vs Q E hr h => ?_)
  · obtain ⟨_, _, _, rfl, _⟩ := h
    rfl
  · obtain ⟨p, st, m, rfl, m0, m1, hp, ok, q⟩ := h
    have mn : m.natAbs < 2 ^ 200 := Nat.lt_trans (show m.natAbs < 2 ^ 10 by omega) (by decide)
    refine ⟨_, pss_cons (ps_if (pt_cmpR op_eq (pc (ok_law_draw T) hr T.g_law_draw pass0 (pa_cons (pv 0) (pa_cons pe_int pa_nil))) pe_int (nomark _)) (pss_one (ps_ret pe_int)) pss_nil)
      (pss_one (ps_ret (pe_op op_add pe_int (pe_callB (call_max2 rfl) (by rfl) T.m_max (by decide +kernel) (pa_cons (pc (ok_law_draw T) hr T.g_law_draw pass0 (pa_cons (pv 0) (pa_cons (pv 1) pa_nil))) (pa_cons (pc (ok_law_draw T) hr T.g_law_draw pass0 (pa_cons (pv 0) (pa_cons (pv 1) pa_nil))) pa_nil)))))), ?_⟩
    refine ⟨_, rfl, p, st, 8, rfl, by decide, by decide, hp, ok, fun v st1 _ _ ok1 => ?_⟩
    refine ⟨rfl, _, rfl, ite2 (fun c => ?_) (fun c => ?_)⟩
    · exact q 0 _ st1 ⟨by omega, by omega⟩ .set upd_same ok1
    · refine ⟨_, rfl, _, rfl, p, st1, m, rfl, m0, mn, upd_same, ok1, fun a st2 a0 a1 ok2 => ?_⟩
      refine ⟨_, rfl, _, rfl, p, st2, m, rfl, m0, mn, upd_same, ok2, fun b st3 b0 b1 ok3 => ?_⟩
      exact ⟨_, _, rfl, _, _, rfl, rfl, q _ _ st3 (by split <;> constructor <;> omega) ((But.set.trans .set).trans .set) upd_same ok3⟩
def spComings : Sp := fun vs H Q _ => ∃ (p : Addr) (st : List V) (m n : Int), vs = [.ref p, .int m, .int n] ∧ 0 ≤ m ∧ m ≤ 100 ∧ 0 ≤ n ∧ n ≤ 100 ∧ H p = some (.lst st) ∧ PoolOk st ∧ NewRow p H (fun ns => ns.length = m.toNat ∧ ∀ x ∈ ns, 1 ≤ x ∧ x ≤ n + 1) Q
theorem ok_law_comings (T : Tx K mg) : Ok PG w K mg base CX0 3 (a_law_comings K) p_law_comings spComings := by
  refine Ok.of 2 T.f_law_comings sc_law_comings bi_law_comings (by decide) (fun vs H Q E h => ?_) (fun cdv A outer s H vs Q E hr h => ?_)
  · obtain ⟨_, _, _, _, rfl, _⟩ := h
    rfl
  · obtain ⟨p, st, m, n, rfl, m0, m1, n0, n1, hp, ok, q⟩ := h
    have nd := sc_law_comings.nd
    have nn : (n + 1).natAbs < 2 ^ 200 := Nat.lt_trans (show (n + 1).natAbs < 2 ^ 10 by omega) (by decide)
    refine ⟨_, pss_cons (ps_set (i := 3) nd rfl (.inl rfl) (pe_lst pa_nil))
      (pss_cons (ps_for (passX rfl) rfl (pi_range1 rfl T.m_range (pa_cons (pv 1) pa_nil)) (pg_name (i := 4) nd rfl (.inl rfl))
        (pss_cons (ps_set (i := 5) nd rfl (.inl rfl) pe_int)
        (pss_cons (ps_if (pt_cmpR op_eq (pc (ok_law_draw T) hr T.g_law_draw pass0 (pa_cons (pv 0) (pa_cons pe_int pa_nil))) pe_int (nomark _)) (pss_one (ps_set (i := 5) nd rfl (.inl rfl) (pe_op op_add pe_int (pc (ok_law_draw T) hr T.g_law_draw pass0 (pa_cons (pv 0) (pa_cons (pe_op op_add (pv 2) pe_int) pa_nil)))))) pss_nil)
        (pss_one (ps_expr (pe_bm PySem.F.plainAttrs_list PySem.F.slot_list_append PySem.F.type_list_append mt_append (pv 3) (pa_cons (pv 5) pa_nil)))))))
      (pss_one (ps_ret (pv 3)))), ?_⟩
    refine ⟨by show 0 ≤ sizeLine; decide, fun L hL => ?_⟩
    have nLp : L ≠ p := fun z => by rw [z, hp] at hL; cases hL
    refine ⟨_, rfl, m, rfl, by omega, by omega, ?_⟩
    refine for_range (lo := 0) (n := m.toNat) (fun i σ H' => ∃ x4 x5 ns st', σ = [some (.ref p), some (.int m), some (.int n), some (.ref L), x4, x5] ∧ But p H H' ∧ H' p = some (.lst st') ∧ PoolOk st' ∧ H' L = some (.lst (ns.map V.int)) ∧ ns.length = i ∧ ∀ x ∈ ns, 1 ≤ x ∧ x ≤ n + 1)
      ⟨_, _, [], st, rfl, .of (.new hL), by rw [upd_ne (Ne.symm nLp)]; exact hp, ok, upd_same, rfl, fun x hx => by cases hx⟩ ?_ ?_
    · rintro i σ H' hi ⟨x4, x5, ns, st', rfl, bt, hp', ok', hl, ln, bn⟩
      have go : ∀ (v : Int) (Hx : Hp) (stx : List V), 1 ≤ v → v ≤ n + 1 → But p H' Hx → Hx p = some (.lst stx) → PoolOk stx → ∃ (x4 x5 : Option V) (ns2 : List Int) (st' : List V), [some (V.ref p), some (V.int m), some (V.int n), some (V.ref L), some (V.int (0 + (i : Nat))), some (V.int v)] = [some (.ref p), some (.int m), some (.int n), some (.ref L), x4, x5] ∧ But p H (upd Hx L (.lst (ns.map V.int ++ [.int v]))) ∧ upd Hx L (.lst (ns.map V.int ++ [.int v])) p = some (.lst st') ∧ PoolOk st' ∧ upd Hx L (.lst (ns.map V.int ++ [.int v])) L = some (.lst (ns2.map V.int)) ∧ ns2.length = i + 1 ∧ ∀ x ∈ ns2, 1 ≤ x ∧ x ≤ n + 1 := fun v Hx stx v0 v1 bx hx okx => by
        refine ⟨_, _, ns ++ [v], stx, rfl, fun b o nb eb => ?_, ?_, okx, ?_, ?_, fun x hx => ?_⟩
        · rw [upd_ne (fun z => by rw [z, hL] at eb; cases eb)]
          exact bx b o nb (bt b o nb eb)
        · rw [upd_ne (Ne.symm nLp)]; exact hx
        · rw [upd_same, List.map_append]; rfl
        · rw [List.length_append, ln]; rfl
        · rcases List.mem_append.mp hx with z | z
          · exact bn x z
          · rw [List.mem_singleton.mp z]; exact ⟨v0, v1⟩
      have lz : (ns.map V.int).length < sizeLine := by rw [List.length_map, sizeLine_eq]; omega
      refine ⟨_, rfl, p, st', 3, rfl, by decide, by decide, hp', ok', fun v st1 _ _ ok1 => ?_⟩
      have b1 : But p H' (upd H' p (.lst st1)) := .set
      refine ⟨rfl, _, rfl, ite2 (fun c => ?_) (fun c => ?_)⟩
      · refine ⟨_, rfl, _, rfl, _, _, rfl, rfl, p, st1, n + 1, rfl, by omega, nn, upd_same, ok1, fun u st2 u0 u1 ok2 => ⟨_, _, rfl, rfl, ?_⟩⟩
        have b2 : But p H' (upd (upd H' p (.lst st1)) p (.lst st2)) := b1.trans .set
        have hl2 := b2 _ _ nLp hl
        exact ⟨_, rfl, .inl ⟨rfl, _, SqL.of hl2⟩, _, rfl, L, _, _, rfl, rfl, hl2, lz, go (1 + u) _ st2 (by omega) (by omega) b2 upd_same ok2⟩
      · have hl1 := b1 _ _ nLp hl
        exact ⟨_, rfl, .inl ⟨rfl, _, SqL.of hl1⟩, _, rfl, L, _, _, rfl, rfl, hl1, lz, go 1 _ st1 (by omega) (by omega) b1 upd_same ok1⟩
    · rintro σ H' ⟨x4, x5, ns, st', rfl, bt, hp', ok', hl, ln, bn⟩
      exact ⟨_, rfl, q H' L ns st' bt hp' ok' hL hl ⟨ln, bn⟩⟩
end
end K09

set_option maxRecDepth 100000
set_option maxHeartbeats 4000000
/-! # zip(t, u), two tuples -/
namespace L2
open PySem PySem.Spec PyProof.Rows
def ItzT (K : PySem.W.Frag) (a b : Addr) : It :=
  ⟨fun i H => ∃ xs ys : List V, SqT K H a xs ∧ SqT K H b ys ∧ i < xs.length ∧ i < ys.length,
   fun i H v H' => ∃ T x y, v = .ref T ∧ H T = none ∧ H' = upd H T (.tup [x, y]) ∧ (∀ xs, SqT K H a xs → xs[i]? = some x) ∧ ∀ ys, SqT K H b ys → ys[i]? = some y,
   fun i H => ∃ xs ys : List V, SqT K H a xs ∧ SqT K H b ys ∧ min xs.length ys.length = i⟩
/-- what the five cells of the walk look like at turn i -/
def ZipAt (z TI TO i1 i2 a b : Addr) (i : Nat) (h : Heap) : Prop := IsZip h z TI TO .none ∧ IsTupOf2 h TI (.ref i1) (.ref i2) ∧ (∃ a1 a2, IsTupOf2 h TO a1 a2) ∧ h.IsTupleIter i1 a i ∧ h.IsTupleIter i2 b i
theorem turn_zipT {P : Program} {w : World} {K : PySem.W.Frag} {elts : List Expr} {kk : Nat} {tpos : Pos} {a b z TI TO i1 i2 : Addr} (S : ZipSep2 z TI TO i1 i2 [i1, a] [i2, b]) :
    Turn P w K (.Tuple elts kk tpos) (ItzT K a b) [z, TI, TO, i1, i2] z (ZipAt z TI TO i1 i2 a b) where
  mem := by simp
  obj := fun i h st c hc => by
    obtain ⟨h1, h2, ⟨a1, a2, h3⟩, ⟨o4, h4, _, d4⟩, ⟨o5, h5, _, d5⟩⟩ := st
    have e' : c = z ∨ c = TI ∨ c = TO ∨ c = i1 ∨ c = i2 := by simpa using hc
    rcases e' with q | q | q | q | q <;> subst q
    · exact ⟨_, h1, fun v q => nomatch q⟩
    · exact ⟨_, h2, fun v q => nomatch q⟩
    · exact ⟨_, h3, fun v q => nomatch q⟩
    · exact ⟨o4, h4, fun v q => by rw [d4] at q; cases q⟩
    · exact ⟨o5, h5, fun v q => by rw [d5] at q; cases q⟩
  keep := fun i h h' st k => by
    obtain ⟨h1, h2, ⟨a1, a2, h3⟩, h4, h5⟩ := st
    exact ⟨k z (by simp) _ h1, k TI (by simp) _ h2, ⟨a1, a2, k TO (by simp) _ h3⟩, h4.at fun o q => k i1 (by simp) o q, h5.at fun o q => k i2 (by simp) o q⟩
  item := by
    intro X hP hw hK hc i pins s σ H E I hf st hg
    subst hP hw hK
    obtain ⟨h1, h2, h3, h4, h5⟩ := st
    obtain ⟨xs, ys, hx, hy, lx, ly⟩ := hg
    obtain ⟨its, rv, p, _⟩ := I.tuple hx
    obtain ⟨its2, rv2, p2, _⟩ := I.tuple hy
    have dif : ∀ {t u : Addr} {j : Nat} {js : Array Value}, s.heap.IsTupleIter t u j → ∀ {c : Addr}, s.heap.IsTuple c js → c ≠ t := fun {t u j js} hi {c} ht e => by
      obtain ⟨o, ho, hcls, _⟩ := ht
      obtain ⟨o2, ho2, hc2, _⟩ := hi
      rw [e, ho2] at ho
      cases ho
      rw [hc2] at hcls
      exact absurd hcls (by decide)
    have W := GoesN.zip2 (prog := X.prog) (w := X.w) (A := X.A) (elts := elts) (x1 := kk) (pos := tpos) S (Draws.tuple (prog := X.prog) (w := X.w) (A := X.A.in1) (I.ok.hd hc) i1 a (dif h4 p) its.toArray) (Draws.tuple (prog := X.prog) (w := X.w) (A := X.A.in1) (I.ok.hd hc) i2 b (dif h5 p2) its2.toArray)
    have n1 : i < min its.toArray.size its2.toArray.size := by
      rw [List.size_toArray, List.size_toArray, ← rv.length, ← rv2.length]
      omega
    refine wpAny_mono (W.goes i s _ E n1 ⟨h1, h2, h3, ⟨h4, p⟩, h5, p2⟩ fun v h' tk hY st' hk htk => ?_) (fun r s1 hr => hr) fun _ _ q => q
    obtain ⟨T, u1, u2, rfl, hT, e1, e2, hTup⟩ := hY
    obtain ⟨g1, g2, g3, ⟨g4, _⟩, g5, _⟩ := st'
    have hxi : xs[i]? = some xs[i] := List.getElem?_eq_getElem lx
    have hyi : ys[i]? = some ys[i] := List.getElem?_eq_getElem ly
    obtain ⟨v1, hv1, r1⟩ := rv.get hxi
    obtain ⟨v2, hv2, r2⟩ := rv2.get hyi
    have q1 : u1 = v1 := by
      have : its[i]? = some u1 := by simpa using e1
      rw [hv1] at this; exact (Option.some.inj this).symm
    have q2 : u2 = v2 := by
      have : its2[i]? = some u2 := by simpa using e2
      rw [hv2] at this; exact (Option.some.inj this).symm
    subst q1 q2
    have I1 : Inv X pins σ (upd H T (.tup [xs[i], ys[i]])) { s with heap := h', toks := tk } :=
      I.turnedNew (ch := [z, TI, TO, i1, i2]) (fun c o hb q => hk c o (fun m => hb (by
        have e' : c = z ∨ c = TO ∨ c = i1 ∨ c = i2 := by simpa using m
        rcases e' with q | q | q | q <;> simp [q])) q) hf hT ⟨by show 2 ≤ sizeLine; decide, [u1, u2], .cons r1 (.cons r2 .nil), hTup⟩
    refine ⟨.ref T, _, I1, rfl, ⟨T, _, _, rfl, I.hok.fresh hT, rfl, fun l hl => by rw [I.tuple_inj hl hx]; exact hxi, fun l hl => by rw [I.tuple_inj hl hy]; exact hyi⟩, ⟨g1, g2, g3, g4, g5⟩, fun c hc' => ?_⟩
    have lt : c < s.heap.objs.size := by
      have e' : c = z ∨ c = TI ∨ c = TO ∨ c = i1 ∨ c = i2 := by simpa using hc'
      obtain ⟨_, _, g3'⟩ := h3
      obtain ⟨_, w4, _⟩ := h4
      obtain ⟨_, w5, _⟩ := h5
      rcases e' with q | q | q | q | q <;> rw [q]
      · exact Heap.lt_size h1
      · exact Heap.lt_size h2
      · exact Heap.lt_size g3'
      · exact Heap.lt_size w4
      · exact Heap.lt_size w5
    rw [upd_ne (Nat.ne_of_lt (Nat.lt_of_lt_of_le lt hT))]
    exact (hf c hc').1
  done := by
    intro X hP hw hK hc i pins s σ H E I hf st hg
    subst hP hw hK
    obtain ⟨h1, h2, h3, h4, h5⟩ := st
    obtain ⟨xs, ys, hx, hy, hend⟩ := hg
    obtain ⟨its, rv, p, _⟩ := I.tuple hx
    obtain ⟨its2, rv2, p2, _⟩ := I.tuple hy
    have dif : ∀ {t u : Addr} {j : Nat} {js : Array Value}, s.heap.IsTupleIter t u j → ∀ {c : Addr}, s.heap.IsTuple c js → c ≠ t := fun {t u j js} hi {c} ht e => by
      obtain ⟨o, ho, hcls, _⟩ := ht
      obtain ⟨o2, ho2, hc2, _⟩ := hi
      rw [e, ho2] at ho
      cases ho
      rw [hc2] at hcls
      exact absurd hcls (by decide)
    have W := GoesN.zip2 (prog := X.prog) (w := X.w) (A := X.A) (elts := elts) (x1 := kk) (pos := tpos) S (Draws.tuple (prog := X.prog) (w := X.w) (A := X.A.in1) (I.ok.hd hc) i1 a (dif h4 p) its.toArray) (Draws.tuple (prog := X.prog) (w := X.w) (A := X.A.in1) (I.ok.hd hc) i2 b (dif h5 p2) its2.toArray)
    have n1 : min its.toArray.size its2.toArray.size = i := by
      rw [List.size_toArray, List.size_toArray, ← rv.length, ← rv2.length]
      exact hend
    rw [n1] at W
    refine wpAny_mono (W.stops s (fun s1 => Inv X pins σ H s1) E ⟨h1, h2, h3, ⟨h4, p⟩, h5, p2⟩ fun h' tk hk htk => I.turnedL (t' := tk) (ch := [z, TI, TO, i1, i2]) (fun c o hb q => hk c o (fun m => hb ?_) q) hf) (fun r s1 hr => hr) fun _ _ q => q
    have e' : c = z ∨ c = TO ∨ c = i1 ∨ c = i2 := by simpa using m
    rcases e' with q | q | q | q <;> simp [q]
  self := fun A i s Q E st h => wpAny_pyIter_zip st.1 h
theorem walk_zipT {K : PySem.W.Frag} {a b : Addr} {xs ys : List V} : Walk (ItzT K a b) (min xs.length ys.length) (fun H => SqT K H a xs ∧ SqT K H b ys) (YPair (fun i => xs[i]?) (fun i => ys[i]?)) where
  goes := fun i H hi h => ⟨xs, ys, h.1, h.2, by omega, by omega⟩
  stops := fun H h => ⟨xs, ys, h.1, h.2, rfl⟩
  yields := fun i H v H' hi h y => by
    obtain ⟨T, x, y, rfl, hT, rfl, h1, h2⟩ := y
    exact ⟨T, x, y, rfl, hT, rfl, h1 xs h.1, h2 ys h.2⟩
/-- zip(t, u) -/
def iZipT (K : PySem.W.Frag) (ta : TA) : TI := fun σ H R => ta σ H fun vs H1 => ∃ a b xs ys, vs = [.ref a, .ref b] ∧ SqT K H1 a xs ∧ SqT K H1 b ys ∧ R (ItzT K a b) H1
theorem pi_zipT {X : Cx} {e e2 : Expr} {ta : TA} {p pos tpos : Pos} {elts : List Expr} {kk : Nat} (hm : X.mg "zip" = none) (ha : PA X [e, e2] ta) (hg : Gl X "zip" := by rfl)
    (hs : starEach [e, e2] X.env = (false, eval e X.env) :: starEach [e2] X.env := by rfl) (hpl : (backTo pos (starEach [e2] X.env)).any (·.1) = false := by rfl) :
    PI X (.Tuple elts kk tpos) (.Call (.Name "zip" p) [e, e2] [] pos) (iZipT X.K ta) := by
  refine ⟨fun pins s σ H R I h => Call_ (ld_blt I hg hm PyProof.Rows.boot_zip (PyProof.Rows.callWith_type1 (thn (ha.run pos pins s σ H _ I h) fun us s1 ⟨vs, H1, I1, r1, q1⟩ => ?_) hs hpl))⟩
  obtain ⟨a, b, xs, ys, ex, hx, hy, q⟩ := q1
  subst ex
  cases r1 with
  | cons r rr =>
  cases rr with
  | cons r' rr =>
  cases rr
  cases r
  cases r'
  obtain ⟨its, rv, p1, _⟩ := I1.tuple hx
  obtain ⟨its2, rv2, p2, _⟩ := I1.tuple hy
  have lt : ∀ {c : Addr} {js : Array Value}, IsTup s1.heap c js → c < s1.heap.objs.size := fun h => by obtain ⟨_, h, _⟩ := h; exact Heap.lt_size h
  refine zip_begins2 (begins_tuple a its.toArray) (begins_tuple b its2.toArray) p1 p2 fun h' hz hTI hTO h1 h2 hsz hk => wpAny_pyIter_zip hz ?_
  refine ⟨s1.heap.objs.size + 4, [s1.heap.objs.size + 4, s1.heap.objs.size + 2, s1.heap.objs.size + 3, s1.heap.objs.size, s1.heap.objs.size + 1], _, _, H1, rfl, I1.kept (t' := s1.toks) hk, turn_zipT (zip_sep2 (fp1 := [a]) (fp2 := [b]) (fun c m => by rw [List.mem_singleton.mp m]; exact lt p1) (fun c m => by rw [List.mem_singleton.mp m]; exact lt p2)), ⟨hz, hTI, ⟨_, _, hTO⟩, ⟨_, h1, rfl, rfl⟩, ⟨_, h2, rfl, rfl⟩⟩, fun c m => ?_, q⟩
  have le : s1.heap.objs.size ≤ c := by
    have e' : c = s1.heap.objs.size + 4 ∨ c = s1.heap.objs.size + 2 ∨ c = s1.heap.objs.size + 3 ∨ c = s1.heap.objs.size ∨ c = s1.heap.objs.size + 1 := by simpa using m
    rcases e' with z | z | z | z | z <;> rw [z]
    · exact Nat.le_add_right _ _
    · exact Nat.le_add_right _ _
    · exact Nat.le_add_right _ _
    · exact Nat.le_refl _
    · exact Nat.le_add_right _ _
  exact I1.fpOk le (I1.hok.fresh le)
end L2

set_option maxRecDepth 100000
set_option maxHeartbeats 4000000
/-! # zip(a, l): a an own instance whose __iter__ says: return iter(self.field), the field a tuple; l a list -/
namespace L2
open PySem PySem.Spec PyProof.Rows PySem.W
section
variable {X : Cx} {pins : List (Addr × Obj)} {σ : St} {H : Hp} {s : Shared} {a C dx f t : Addr} {fs : List (Str × V)} {fld : Str} {xs : List V} {k : Nat}
theorem own_iterA {A : Around} {E : Value → Shared → Prop} (O : OwnIt X.K X.mg C f fld) (hr : Room k A) (I : Inv X pins σ H s) (ha : H a = some (.ins C dx fs)) (hv : fs.lookup fld = some (.ref t)) (hT : SqT X.K H t xs) {Q : Value → Shared → Prop}
    (hq : ∀ h' tk it, (∀ b o, s.heap.get? b = some o → h'.get? b = some o) → s.heap.objs.size ≤ it → h'.get? it = some (tupIt t) → Q (.ref it) { s with heap := h', toks := tk }) :
    wpAny (model X.prog X.w) A (pyIter (.ref a)) Q E s := by
  obtain ⟨qual, params, scope, p1, p2, p3, p4, p5, ⟨oc, od, kV, doc, pm, an, cdv, ct, osl, hfn, hcd⟩, sc1, sc2, sc3, sc4, sc5, sc6, hb, hbase⟩ := O.txt
  obtain ⟨mA, J0, rel, _⟩ := ins_get I.hok ha
  obtain ⟨oda, J, _⟩ := J0.look
  obtain ⟨m, hF⟩ := I.fr
  obtain ⟨its, rv, hTup, _⟩ := I.tuple hT
  obtain ⟨u, hu, ru⟩ := RelO.some_of (v := V.ref t) (o := mA fld) (by rw [← hv]; exact rel fld)
  cases ru
  have hG : s.heap.Ns mainGlobals X.mg := I.mod.glob.keeps I.bk
  obtain ⟨mb, hB, hbb⟩ := I.mod.blt
  have X0 := I.kIn
  have hlim := I.nolimit
  obtain ⟨hp, g, dr, tk, os⟩ := s
  refine owit_iter hF I.ok.mod.kin J O.at_ O.fn (wpAny_call ?_)
  refine ks_codeAny_call_defAt (binds := [("self", .ref a)]) (by have := hr.dp; omega) (X0 _ _ hfn) rfl hlim (codeRec_of X0 hcd) rfl (hb _ _ _ rfl rfl rfl) sc3 (fun y hy => ?_) (fun h₀ hns hk₀ => ?_) sc5 sc6 sc4
  · have e : y = (("self" : Str), Value.ref a) := by simpa using hy
    rw [e]
    exact sc1
  · have X1 : X.K.In h₀ := X0.keeps hk₀
    have J1 : ObjM h₀ a dx C mA := ⟨hk₀ _ _ J0.obj, J0.ns.at fun o q => hk₀ _ o q, J0.ne⟩
    refine wpAt_of_wpAny (wpAny_execs_cons (wpAny_Return_some ?_))
    refine wpAny_Call_Name_kw (Calls.Name_function_global sc4 sc2 (Calls.loadGlobal_builtin (hG.keeps hk₀) O.free ((hB.keeps I.bk).keeps hk₀) ((hbb _ (by decide)).trans (by decide +kernel : bootBuiltins "iter" = some (.builtin "iter"))) ?_) (by decide))
    refine PyProof.Rows.callWith_builtin1 (spliced_more (attr_of (hbase _ rfl) (PySem.ESX.ldL (v := .ref a) hns (by simp [List.lookup]) ?_ sc4 sc1))) (by rfl) (by rfl)
    refine get_map X1 J1 (O.cls.get _) O.cls.hd O.noA hu rfl (spliced_none ?_)
    refine call_iter_tup (show h₀.IsTuple t its.toArray from let ⟨o, h1, h2⟩ := hTup; ⟨o, hk₀ _ o h1, h2⟩) ?_
    have hT1 : (⟨h₀.push (tupIt t), g, dr, tk + 1 + 1, os⟩ : Shared).TypeIs (.ref h₀.objs.size) "tuple_iterator" := ⟨_, Heap.get?_push_at rfl rfl, rfl⟩
    refine wpAny_specialOf (hT1) F.slot_tuple_iterator_next.lookup ?_
    exact hq _ _ _ (fun b o q => Heap.get?_push_of_some _ (hk₀ b o q)) (by
      have := hns.lt
      exact Nat.le_of_lt this) (Heap.get?_push_at rfl rfl)
end
/-! ## the zip's making over any two iterators -/
abbrev zqT (h : Heap) (i1 i2 : Addr) : Heap := h.push { cls := .type "tuple", data := .seq #[.ref i1, .ref i2] }
abbrev zqO (h : Heap) (i1 i2 : Addr) : Heap := (zqT h i1 i2).push { cls := .type "tuple", data := .seq #[.none, .none] }
abbrev zqZ (h : Heap) (i1 i2 : Addr) : Heap := (zqO h i1 i2).push { cls := .type "zip", data := .fields #[.none, .bool false, .bool false, .ref h.objs.size, .ref (zqT h i1 i2).objs.size] }
/-- how iter(v) goes here, whatever is wanted behind it: the iterator's place and the memory behind it -/
def IterTo (prog : Program) (w : World) (A : Around) (v : Value) (s : Shared) (G : Addr → Shared → Prop) : Prop := ∀ (Q E : Value → Shared → Prop), (∀ it s', G it s' → Q (.ref it) s') → wpAny (model prog w) A (pyIter v) Q E s
theorem meets_zip_q {prog : Program} {w : World} {v1 v2 : Value} :
    MeetsIn prog w (Builtin.«zip.__new__» ⟨[.type "zip", v1, v2], []⟩) (fun A R s => IterTo prog w A.in1 v1 s fun i1 s1 => IterTo prog w A.in1 v2 s1 fun i2 s2 => R (.ok (.ret (.ref (zqO s2.heap i1 i2).objs.size))) { s2 with heap := zqZ s2.heap i1 i2 }) :=
  .of_wp fun A R s h => by
    have hsub := sub_zip
    have q1 : ∀ {E : Value → Shared → Prop} {Q : Value → Shared → Prop}, (∀ it s1, (IterTo prog w A.in1 v2 s1 fun i2 s2 => R (.ok (.ret (.ref (zqO s2.heap it i2).objs.size))) { s2 with heap := zqZ s2.heap it i2 }) → Q (.ref it) s1) → wpAny (model prog w) A.in1 (pyIter v1) Q E s := fun q => h _ _ q
    have q2 : ∀ {E : Value → Shared → Prop} {Q : Value → Shared → Prop} {it : Addr} {s1 : Shared}, (IterTo prog w A.in1 v2 s1 fun i2 s2 => R (.ok (.ret (.ref (zqO s2.heap it i2).objs.size))) { s2 with heap := zqZ s2.heap it i2 }) → (∀ i2 s2, R (.ok (.ret (.ref (zqO s2.heap it i2).objs.size))) { s2 with heap := zqZ s2.heap it i2 } → Q (.ref i2) s2) → wpAny (model prog w) A.in1 (pyIter v2) Q E s1 := fun g q => g _ _ q
    wp_walk using q1
    intro it s1 g
    have q3 : ∀ {E : Value → Shared → Prop} {Q : Value → Shared → Prop}, (∀ i2 s2, R (.ok (.ret (.ref (zqO s2.heap it i2).objs.size))) { s2 with heap := zqZ s2.heap it i2 } → Q (.ref i2) s2) → wpAny (model prog w) A.in1 (pyIter v2) Q E s1 := fun q => q2 g q
    wp_walk using q3
    intro i2 s2 g2
    obtain ⟨hp, gg, d, tk, os⟩ := s2
    wp_walk
    exact ⟨_, rfl, g2⟩
/-- zip(v, u): what is left when both have begun -/
theorem zip_q {prog : Program} {w : World} {A : Around} {E : Value → Shared → Prop} {s : Shared} {v1 v2 : Value} {Q : Value → Shared → Prop}
    (h : IterTo prog w A.in1.in1 v1 s fun i1 s1 => IterTo prog w A.in1.in1 v2 s1 fun i2 s2 => ∀ h', IsZip h' (s2.heap.objs.size + 2) s2.heap.objs.size (s2.heap.objs.size + 1) .none → IsTupOf2 h' s2.heap.objs.size (.ref i1) (.ref i2) →
      IsTupOf2 h' (s2.heap.objs.size + 1) .none .none → h'.objs.size = s2.heap.objs.size + 3 → (∀ c o, s2.heap.get? c = some o → h'.get? c = some o) → Q (.ref (s2.heap.objs.size + 2)) { s2 with heap := h' }) :
    wpAny (model prog w) A (call (.type "zip") [v1, v2]) Q E s := by
  refine callType_newIn F.called_zip (by decide) (F.typeCall_zip_2 _ _) (F.newCall_zip_2 _ _) (fun obj => F.args_object_init_3 obj _ _) F.entry_zip_new meets_zip_q ?_
  refine fun Q1 E1 k1 => h Q1 E1 fun i1 s1 h1 => k1 i1 s1 fun Q2 E2 k2 => h1 Q2 E2 fun i2 s2 h2 => k2 i2 s2 ?_
  have zT : (zqT s2.heap i1 i2).objs.size = s2.heap.objs.size + 1 := by rw [Heap.size_push]
  have zO : (zqO s2.heap i1 i2).objs.size = s2.heap.objs.size + 2 := by rw [Heap.size_push, zT]
  have zZ : (zqZ s2.heap i1 i2).objs.size = s2.heap.objs.size + 3 := by rw [Heap.size_push, zO]
  have gZ : (zqZ s2.heap i1 i2).get? (zqO s2.heap i1 i2).objs.size = some { cls := .type "zip", data := .fields #[.none, .bool false, .bool false, .ref s2.heap.objs.size, .ref (zqT s2.heap i1 i2).objs.size] } := Heap.get?_push_size _ rfl
  have gO : (zqZ s2.heap i1 i2).get? (zqT s2.heap i1 i2).objs.size = some { cls := .type "tuple", data := .seq #[.none, .none] } := Heap.get?_push_of_some _ (Heap.get?_push_size _ rfl)
  have gT : (zqZ s2.heap i1 i2).get? s2.heap.objs.size = some { cls := .type "tuple", data := .seq #[.ref i1, .ref i2] } := Heap.get?_push_of_some _ (Heap.get?_push_of_some _ (Heap.get?_push_size _ rfl))
  rw [zO, zT] at gZ
  rw [zT] at gO
  show _ ∧ _
  rw [zO]
  exact ⟨⟨_, gZ, rfl⟩, h2 _ gZ gT gO zZ fun c o e => Heap.get?_push_of_some _ (Heap.get?_push_of_some _ (Heap.get?_push_of_some _ e))⟩
def ItzO (K : PySem.W.Frag) (a b : Addr) : It :=
  ⟨fun i H => ∃ xs ys : List V, SqT K H a xs ∧ SqL K H b ys ∧ i < xs.length ∧ i < ys.length,
   fun i H v H' => ∃ T x y, v = .ref T ∧ H T = none ∧ H' = upd H T (.tup [x, y]) ∧ (∀ xs, SqT K H a xs → xs[i]? = some x) ∧ ∀ ys, SqL K H b ys → ys[i]? = some y,
   fun i H => ∃ xs ys : List V, SqT K H a xs ∧ SqL K H b ys ∧ min xs.length ys.length = i⟩
/-- what the five cells of the walk look like at turn i -/
def ZipAtO (z TI TO i1 i2 a b : Addr) (i : Nat) (h : Heap) : Prop := IsZip h z TI TO .none ∧ IsTupOf2 h TI (.ref i1) (.ref i2) ∧ (∃ a1 a2, IsTupOf2 h TO a1 a2) ∧ h.IsTupleIter i1 a i ∧ h.IsListIter i2 b i
theorem turn_zipO {P : Program} {w : World} {K : PySem.W.Frag} {elts : List Expr} {kk : Nat} {tpos : Pos} {a b z TI TO i1 i2 : Addr} (S : ZipSep2 z TI TO i1 i2 [i1, a] [i2, b]) :
    Turn P w K (.Tuple elts kk tpos) (ItzO K a b) [z, TI, TO, i1, i2] z (ZipAtO z TI TO i1 i2 a b) where
  mem := by simp
  obj := fun i h st c hc => by
    obtain ⟨h1, h2, ⟨a1, a2, h3⟩, ⟨o4, h4, _, d4⟩, ⟨o5, h5, _, d5⟩⟩ := st
    have e' : c = z ∨ c = TI ∨ c = TO ∨ c = i1 ∨ c = i2 := by simpa using hc
    rcases e' with q | q | q | q | q <;> subst q
    · exact ⟨_, h1, fun v q => nomatch q⟩
    · exact ⟨_, h2, fun v q => nomatch q⟩
    · exact ⟨_, h3, fun v q => nomatch q⟩
    · exact ⟨o4, h4, fun v q => by rw [d4] at q; cases q⟩
    · exact ⟨o5, h5, fun v q => by rw [d5] at q; cases q⟩
  keep := fun i h h' st k => by
    obtain ⟨h1, h2, ⟨a1, a2, h3⟩, h4, h5⟩ := st
    exact ⟨k z (by simp) _ h1, k TI (by simp) _ h2, ⟨a1, a2, k TO (by simp) _ h3⟩, h4.at fun o q => k i1 (by simp) o q, h5.at fun o q => k i2 (by simp) o q⟩
  item := by
    intro X hP hw hK hc i pins s σ H E I hf st hg
    subst hP hw hK
    obtain ⟨h1, h2, h3, h4, h5⟩ := st
    obtain ⟨xs, ys, hx, hy, lx, ly⟩ := hg
    obtain ⟨its, rv, p, _⟩ := I.tuple hx
    obtain ⟨its2, rv2, p2', _⟩ := I.list hy
    have p2 : s.heap.IsList b its2.toArray := p2'.isList
    have da : a ≠ i1 := fun e => by
      obtain ⟨o, ho, hcls, _⟩ := p
      obtain ⟨o2, ho2, hc2, _⟩ := h4
      rw [e, ho2] at ho
      cases ho
      rw [hc2] at hcls
      exact absurd hcls (by decide)
    have db : b ≠ i2 := fun e => by
      obtain ⟨o, ho, hcls, _⟩ := p2
      obtain ⟨o2, ho2, hc2, _⟩ := h5
      rw [e, ho2] at ho
      cases ho
      rw [hc2] at hcls
      exact absurd hcls (by decide)
    have W := GoesN.zip2 (prog := X.prog) (w := X.w) (A := X.A) (elts := elts) (x1 := kk) (pos := tpos) S (Draws.tuple (prog := X.prog) (w := X.w) (A := X.A.in1) (I.ok.hd hc) i1 a da its.toArray) (Draws.list (prog := X.prog) (w := X.w) (A := X.A.in1) (I.ok.hd hc) i2 b db its2.toArray)
    have n1 : i < min its.toArray.size its2.toArray.size := by
      rw [List.size_toArray, List.size_toArray, ← rv.length, ← rv2.length]
      omega
    refine wpAny_mono (W.goes i s _ E n1 ⟨h1, h2, h3, ⟨h4, p⟩, h5, p2⟩ fun v h' tk hY st' hk htk => ?_) (fun r s1 hr => hr) fun _ _ q => q
    obtain ⟨T, u1, u2, rfl, hT, e1, e2, hTup⟩ := hY
    obtain ⟨g1, g2, g3, ⟨g4, _⟩, g5, _⟩ := st'
    have hxi : xs[i]? = some xs[i] := List.getElem?_eq_getElem lx
    have hyi : ys[i]? = some ys[i] := List.getElem?_eq_getElem ly
    obtain ⟨v1, hv1, r1⟩ := rv.get hxi
    obtain ⟨v2, hv2, r2⟩ := rv2.get hyi
    have q1 : u1 = v1 := by
      have : its[i]? = some u1 := by simpa using e1
      rw [hv1] at this; exact (Option.some.inj this).symm
    have q2 : u2 = v2 := by
      have : its2[i]? = some u2 := by simpa using e2
      rw [hv2] at this; exact (Option.some.inj this).symm
    subst q1 q2
    have I1 : Inv X pins σ (upd H T (.tup [xs[i], ys[i]])) { s with heap := h', toks := tk } :=
      I.turnedNew (ch := [z, TI, TO, i1, i2]) (fun c o hb q => hk c o (fun m => hb (by
        have e' : c = z ∨ c = TO ∨ c = i1 ∨ c = i2 := by simpa using m
        rcases e' with q | q | q | q <;> simp [q])) q) hf hT ⟨by show 2 ≤ sizeLine; decide, [u1, u2], .cons r1 (.cons r2 .nil), hTup⟩
    refine ⟨.ref T, _, I1, rfl, ⟨T, _, _, rfl, I.hok.fresh hT, rfl, fun l hl => by rw [I.tuple_inj hl hx]; exact hxi, fun l hl => by rw [I.list_inj hl hy]; exact hyi⟩, ⟨g1, g2, g3, g4, g5⟩, fun c hc' => ?_⟩
    have lt : c < s.heap.objs.size := by
      have e' : c = z ∨ c = TI ∨ c = TO ∨ c = i1 ∨ c = i2 := by simpa using hc'
      obtain ⟨_, _, g3'⟩ := h3
      obtain ⟨_, w4, _⟩ := h4
      obtain ⟨_, w5, _⟩ := h5
      rcases e' with q | q | q | q | q <;> rw [q]
      · exact Heap.lt_size h1
      · exact Heap.lt_size h2
      · exact Heap.lt_size g3'
      · exact Heap.lt_size w4
      · exact Heap.lt_size w5
    rw [upd_ne (Nat.ne_of_lt (Nat.lt_of_lt_of_le lt hT))]
    exact (hf c hc').1
  done := by
    intro X hP hw hK hc i pins s σ H E I hf st hg
    subst hP hw hK
    obtain ⟨h1, h2, h3, h4, h5⟩ := st
    obtain ⟨xs, ys, hx, hy, hend⟩ := hg
    obtain ⟨its, rv, p, _⟩ := I.tuple hx
    obtain ⟨its2, rv2, p2', _⟩ := I.list hy
    have p2 : s.heap.IsList b its2.toArray := p2'.isList
    have da : a ≠ i1 := fun e => by
      obtain ⟨o, ho, hcls, _⟩ := p
      obtain ⟨o2, ho2, hc2, _⟩ := h4
      rw [e, ho2] at ho
      cases ho
      rw [hc2] at hcls
      exact absurd hcls (by decide)
    have db : b ≠ i2 := fun e => by
      obtain ⟨o, ho, hcls, _⟩ := p2
      obtain ⟨o2, ho2, hc2, _⟩ := h5
      rw [e, ho2] at ho
      cases ho
      rw [hc2] at hcls
      exact absurd hcls (by decide)
    have W := GoesN.zip2 (prog := X.prog) (w := X.w) (A := X.A) (elts := elts) (x1 := kk) (pos := tpos) S (Draws.tuple (prog := X.prog) (w := X.w) (A := X.A.in1) (I.ok.hd hc) i1 a da its.toArray) (Draws.list (prog := X.prog) (w := X.w) (A := X.A.in1) (I.ok.hd hc) i2 b db its2.toArray)
    have n1 : min its.toArray.size its2.toArray.size = i := by
      rw [List.size_toArray, List.size_toArray, ← rv.length, ← rv2.length]
      exact hend
    rw [n1] at W
    refine wpAny_mono (W.stops s (fun s1 => Inv X pins σ H s1) E ⟨h1, h2, h3, ⟨h4, p⟩, h5, p2⟩ fun h' tk hk htk => I.turnedL (t' := tk) (ch := [z, TI, TO, i1, i2]) (fun c o hb q => hk c o (fun m => hb ?_) q) hf) (fun r s1 hr => hr) fun _ _ q => q
    have e' : c = z ∨ c = TO ∨ c = i1 ∨ c = i2 := by simpa using m
    rcases e' with q | q | q | q <;> simp [q]
  self := fun A i s Q E st h => wpAny_pyIter_zip st.1 h
theorem walk_zipO {K : PySem.W.Frag} {a b : Addr} {xs ys : List V} : Walk (ItzO K a b) (min xs.length ys.length) (fun H => SqT K H a xs ∧ SqL K H b ys) (YPair (fun i => xs[i]?) (fun i => ys[i]?)) where
  goes := fun i H hi h => ⟨xs, ys, h.1, h.2, by omega, by omega⟩
  stops := fun H h => ⟨xs, ys, h.1, h.2, rfl⟩
  yields := fun i H v H' hi h y => by
    obtain ⟨T, x, y, rfl, hT, rfl, h1, h2⟩ := y
    exact ⟨T, x, y, rfl, hT, rfl, h1 xs h.1, h2 ys h.2⟩
theorem sepO {N i t b : Nat} (h1 : i < N) (h2 : t < N) (h3 : b < N) (nb : i ≠ b) : ZipSep2 (N + 3) (N + 1) (N + 2) i N [i, t] [N, b] where
  TIz := show (N + 1 : Nat) ≠ N + 3 by omega
  TOz := show (N + 2 : Nat) ≠ N + 3 by omega
  TITO := show (N + 1 : Nat) ≠ N + 2 by omega
  TIi1 := show (N + 1 : Nat) ≠ i by omega
  mem1 := List.mem_cons_self ..
  zf1 := fun m => by
    have : (N + 3 : Nat) = i ∨ (N + 3 : Nat) = t := by simpa using m
    omega
  Tf1 := fun m => by
    have : (N + 2 : Nat) = i ∨ (N + 2 : Nat) = t := by simpa using m
    omega
  TIi2 := show (N + 1 : Nat) ≠ N by omega
  mem2 := List.mem_cons_self ..
  zf2 := fun m => by
    rcases List.mem_cons.mp m with m | m
    · exact absurd m (show (N + 3 : Nat) ≠ N by omega)
    · exact absurd (List.mem_singleton.mp m) (show (N + 3 : Nat) ≠ b by omega)
  Tf2 := fun m => by
    rcases List.mem_cons.mp m with m | m
    · exact absurd m (show (N + 2 : Nat) ≠ N by omega)
    · exact absurd (List.mem_singleton.mp m) (show (N + 2 : Nat) ≠ b by omega)
  sep1_2 := fun m => by
    rcases List.mem_cons.mp m with m | m
    · exact absurd m (show (i : Nat) ≠ N by omega)
    · exact nb (List.mem_singleton.mp m)
  sep2_1 := fun m => by
    rcases List.mem_cons.mp m with m | m
    · exact absurd m (show (N : Nat) ≠ i by omega)
    · exact absurd (List.mem_singleton.mp m) (show (N : Nat) ≠ t by omega)
/-- zip(o, l): o an own instance whose __iter__ walks its field fld (a tuple), l a list -/
def iZipO (K : PySem.W.Frag) (C : Addr) (fld : Str) (ta : TA) : TI := fun σ H R => ta σ H fun vs H1 => ∃ a b dx fs t xs ys, vs = [.ref a, .ref b] ∧ H1 a = some (.ins C dx fs) ∧ fs.lookup fld = some (.ref t) ∧ SqT K H1 t xs ∧ SqL K H1 b ys ∧ R (ItzO K t b) H1
theorem pi_zipO {X : Cx} {e e2 : Expr} {ta : TA} {p pos tpos : Pos} {elts : List Expr} {kk : Nat} {C f : Addr} {fld : Str} {k : Nat} (O : OwnIt X.K X.mg C f fld) (hr : Room (k + 2) X.A) (hm : X.mg "zip" = none) (ha : PA X [e, e2] ta) (hg : Gl X "zip" := by rfl)
    (hs : starEach [e, e2] X.env = (false, eval e X.env) :: starEach [e2] X.env := by rfl) (hpl : (backTo pos (starEach [e2] X.env)).any (·.1) = false := by rfl) :
    PI X (.Tuple elts kk tpos) (.Call (.Name "zip" p) [e, e2] [] pos) (iZipO X.K C fld ta) := by
  refine ⟨fun pins s σ H R I h => Call_ (ld_blt I hg hm PyProof.Rows.boot_zip (PyProof.Rows.callWith_type1 (thn (ha.run pos pins s σ H _ I h) fun us s1 ⟨vs, H1, I1, r1, q1⟩ => ?_) hs hpl))⟩
  obtain ⟨a, b, dx, fs, t, xs, ys, ex, hin, hl, hx, hy, q⟩ := q1
  subst ex
  cases r1 with
  | cons r rr =>
  cases rr with
  | cons r' rr =>
  cases rr
  cases r
  cases r'
  refine zip_q fun Q1 E1 k1 => own_iterA O hr.in1.in1 I1 hin hl hx fun h1 tk1 it1 hk1 hit1 ho1 => k1 it1 _ fun Q2 E2 k2 => ?_
  have I2 : Inv X pins σ H1 { s1 with heap := h1, toks := tk1 } := I1.kept (t' := tk1) hk1
  obtain ⟨its2, rv2, p2, _⟩ := I2.list hy
  obtain ⟨its, rv, p1, _⟩ := I2.tuple hx
  refine wpAny_pyIter_list p2.isList (k2 _ _ ?_)
  have zp : (h1.push { cls := .type "list_iterator", data := .fields #[.ref b, .int 0 0] }).objs.size = h1.objs.size + 1 := Heap.size_push ..
  dsimp only
  rw [zp]
  intro h' hz hTI hTO hsz hk
  refine wpAny_pyIter_zip hz ?_
  have hkk : ∀ c o, h1.get? c = some o → h'.get? c = some o := fun c o e => hk c o (Heap.get?_push_of_some _ e)
  have I3 : Inv X pins σ H1 { s1 with heap := h', toks := tk1 } := I2.kept (t' := tk1) hkk
  have l1 : it1 < h1.objs.size := Heap.lt_size ho1
  have lb : b < h1.objs.size := p2.lt
  have lt : t < h1.objs.size := by obtain ⟨_, h, _⟩ := p1; exact Heap.lt_size h
  have hi2 : h'.get? h1.objs.size = some { cls := .type "list_iterator", data := .fields #[.ref b, .int 0 0] } := hk _ _ (Heap.get?_push_size _ rfl)
  have nt : it1 ≠ b := fun e => by
    rw [e] at ho1
    obtain ⟨o, ho, hc, _⟩ := p2.isList
    have ho' : h1.get? b = some o := ho
    rw [ho'] at ho1
    cases ho1
    have hc' : Value.type "tuple_iterator" = Value.type "list" := hc
    exact absurd hc' (by decide)
  have S := sepO l1 lt lb nt
  refine ⟨_, [h1.objs.size + 3, h1.objs.size + 1, h1.objs.size + 2, it1, h1.objs.size], ZipAtO (h1.objs.size + 3) (h1.objs.size + 1) (h1.objs.size + 2) it1 h1.objs.size t b, _, H1, rfl, I3, turn_zipO S, ⟨hz, hTI, ⟨_, _, hTO⟩, ⟨_, hkk _ _ ho1, rfl, rfl⟩, ⟨_, hi2, rfl, rfl⟩⟩, fun c m => ?_, q⟩
  have hlt : s1.heap.objs.size ≤ h1.objs.size := Nat.le_of_lt (Nat.lt_of_le_of_lt hit1 l1)
  have le : s1.heap.objs.size ≤ c := by
    have e' : c = h1.objs.size + 3 ∨ c = h1.objs.size + 1 ∨ c = h1.objs.size + 2 ∨ c = it1 ∨ c = h1.objs.size := by simpa using m
    rcases e' with z | z | z | z | z <;> rw [z]
    · exact Nat.le_trans hlt (Nat.le_add_right _ 3)
    · exact Nat.le_trans hlt (Nat.le_add_right _ 1)
    · exact Nat.le_trans hlt (Nat.le_add_right _ 2)
    · exact hit1
    · exact hlt
  exact I1.fpOk le (I1.hok.fresh le)
end L2

set_option maxRecDepth 100000
set_option maxHeartbeats 4000000
/-! # range(n) as a value; list(range(..)) -/
namespace L2
open PySem PySem.Spec PyProof.Rows
section
variable {X : Cx}
theorem cr_range1 : CallR X (.type "range") (fun vs H Q => ∃ j, vs = [V.int j] ∧ ∀ p, H p = none → Q (.ref p) (upd H p (.rng 0 j))) := by
  intro pins s σ H vs us Q I r h
  obtain ⟨j, rfl, q⟩ := h
  obtain ⟨u, rfl, rj⟩ := vals1 r
  obtain ⟨t, rfl⟩ := rj
  refine call_range_1 ⟨.ref s.heap.objs.size, upd H s.heap.objs.size (.rng 0 j), I.laid (t' := s.toks + 1 + 1) (fun b o e => Heap.get?_push_of_some _ e) (Nat.le_refl _) ?_, rfl, q _ (I.hok.fresh (Nat.le_refl _))⟩
  exact ⟨s.toks, t, s.toks + 1, Heap.get?_push_size _ rfl⟩
/-- the whole numbers from lo on, n of them -/
def runI (lo : Int) (n : Nat) : List V := (List.range n).map fun i => V.int (lo + (i : Nat))
theorem vals_run {lo : Int} : ∀ (n : Nat) (us : List Value), us.length = n → (∀ i v, us[i]? = some v → ∃ t, v = Value.int (lo + (i : Nat)) t) → Vals (runI lo n) us := by
  intro n
  induction n with
  | zero =>
    intro us l _
    cases us with
    | nil => exact .nil
    | cons _ _ => cases l
  | succ n ih =>
    intro us l h
    have hd : us = us.take n ++ [us[n]] := by
      conv => lhs; rw [← List.take_append_drop n us]
      congr 1
      rw [List.drop_eq_getElem_cons (by omega), List.drop_of_length_le (by omega)]
    have h1 := ih (us.take n) (by rw [List.length_take]; omega) fun i v e => by
      rw [List.getElem?_take] at e
      split at e
      · exact h i v e
      · cases e
    obtain ⟨t, ht⟩ := h n us[n] (List.getElem?_eq_getElem (by omega))
    rw [hd, ht]
    unfold runI
    rw [List.range_succ, List.map_append]
    exact h1.append (.cons ⟨t, rfl⟩ .nil)
/-- list(r), r a range by ones -/
theorem call_list_rng (hc : X.calm = true := by rfl) : CallR X (.type "list") (fun xs H Q => ∃ r lo hi, xs = [V.ref r] ∧ H r = some (.rng lo hi) ∧ (-(2 ^ 62) ≤ lo ∧ lo < 2 ^ 62 ∧ -(2 ^ 62) ≤ hi ∧ hi < 2 ^ 62 ∧ hi - lo ≤ 2 ^ 20) ∧ ∀ l, H l = none → Q (.ref l) (upd H l (.lst (runI lo (hi - lo).toNat)))) := by
  intro pins s σ H xs us Q I rr h
  obtain ⟨r, lo, hi, rfl, hr, ⟨b1, b2, b3, b4, b5⟩, q⟩ := h
  obtain ⟨u, rfl, ru⟩ := vals1 rr
  cases ru
  obtain ⟨t1, t2, t3, ho⟩ := I.hok r _ hr
  refine call_list_range (n := (hi - lo).toNat) (I.ok.hd hc) ho (small_one b1 b2 b3 b4) (by rw [rangeSize_one]; split <;> omega) (by omega) fun h' tk acc' c' hk hS hI => ?_
  refine ⟨.ref s.heap.objs.size, _, I.laid (t' := tk) hk (Nat.le_refl _) (show ObjOk X.prog X.w _ h' _ (.lst (runI lo (hi - lo).toNat)) from ⟨?_, acc'.toList, c', vals_run _ _ (by rw [Array.length_toList]; exact hI.1) fun i v e => ?_, ?_⟩), rfl, q _ (I.hok.fresh (Nat.le_refl _))⟩
  · unfold runI
    rw [List.length_map, List.length_range, sizeLine_eq]
    omega
  · rw [Array.getElem?_toList] at e
    obtain ⟨t, ht⟩ := hI.2 i v e
    exact ⟨t, by rw [ht, Int.mul_one]⟩
  · rw [Array.toArray_toList]
    exact hS
end
end L2

set_option maxRecDepth 100000
set_option maxHeartbeats 4000000
/-! # Plain lemmas: members of rows of numbers; lists of people -/
namespace L2
open PySem PySem.Spec PyProof.Rows
theorem inV_ints (x : Int) (xs : List Int) : inV (.int x) (xs.map V.int) = decide (x ∈ xs) := by
  unfold inV
  rw [List.any_map]
  induction xs with
  | nil => rfl
  | cons y ys ih =>
    rw [List.any_cons, ih]
    by_cases h : y = x
    · subst h; simp [eqV]
    · have h' : ¬ x = y := fun e => h e.symm
      simp [eqV, h, h']
theorem flat_ints (xs : List Int) : (xs.map V.int).all flatV = true := List.all_eq_true.mpr fun v hv => by obtain ⟨x, _, rfl⟩ := List.mem_map.mp hv; rfl
/-- what is wrong first with a list of people: (false, entry): no person; (true, entry): named twice -/
def badP (n : Int) : List Int → List Int → Option (Bool × Int)
  | _, [] => none
  | pre, p :: ps => if 0 ≤ p ∧ p < n then (if p ∈ pre then some (true, p) else badP n (pre ++ [p]) ps) else some (false, p)
theorem badP_step {n : Int} {ps : List Int} {i : Nat} {p : Int} (h : badP n (ps.take i) (ps.drop i) = badP n [] ps) (hp : ps[i]? = some p) :
    (¬ (0 ≤ p ∧ p < n) → badP n [] ps = some (false, p)) ∧ ((0 ≤ p ∧ p < n) → p ∈ ps.take i → badP n [] ps = some (true, p)) ∧ ((0 ≤ p ∧ p < n) → p ∉ ps.take i → badP n (ps.take (i + 1)) (ps.drop (i + 1)) = badP n [] ps) := by
  obtain ⟨hi, rfl⟩ := List.getElem?_eq_some_iff.mp hp
  rw [List.drop_eq_getElem_cons hi] at h
  refine ⟨fun c => ?_, fun c m => ?_, fun c m => ?_⟩
  · rw [← h, badP, if_neg c]
  · rw [← h, badP, if_pos c, if_pos m]
  · rw [← h, badP, if_pos c, if_neg m, List.take_succ, hp]
    rfl
theorem badP_end {n : Int} {ps : List Int} (h : badP n (ps.take ps.length) (ps.drop ps.length) = badP n [] ps) : badP n [] ps = none := by
  rw [← h, List.drop_length, badP]
theorem badP_none {n : Int} : ∀ {ps pre : List Int}, badP n pre ps = none ↔ (∀ p ∈ ps, 0 ≤ p ∧ p < n) ∧ ps.Nodup ∧ ∀ p ∈ ps, p ∉ pre
  | [], pre => by simp [badP]
  | p :: ps, pre => by
    rw [badP]
    split
    · rename_i c
      split
      · rename_i m
        simp [m]
      · rename_i m
        rw [badP_none (ps := ps)]
        constructor
        · rintro ⟨h1, h2, h3⟩
          refine ⟨fun x hx => ?_, List.nodup_cons.mpr ⟨fun z => ?_, h2⟩, fun x hx => ?_⟩
          · rcases List.mem_cons.mp hx with rfl | hx
            · exact c
            · exact h1 x hx
          · exact h3 p z (by simp)
          · rcases List.mem_cons.mp hx with rfl | hx
            · exact m
            · exact fun z => h3 x hx (by simp [z])
        · rintro ⟨h1, h2, h3⟩
          refine ⟨fun x hx => h1 x (by simp [hx]), (List.nodup_cons.mp h2).2, fun x hx z => ?_⟩
          rcases List.mem_append.mp z with z | z
          · exact h3 x (by simp [hx]) z
          · rw [List.mem_singleton.mp z] at hx
            exact (List.nodup_cons.mp h2).1 hx
    · rename_i c
      constructor
      · intro z; cases z
      · rintro ⟨h1, _, _⟩
        exact absurd (h1 p (by simp)) c
theorem badP_run (n : Nat) : badP (n : Nat) [] ((List.range n).map fun i => ((i : Nat) : Int)) = none := by
  rw [badP_none]
  refine ⟨fun p hp => ?_, ?_, fun p _ z => by cases z⟩
  · obtain ⟨i, hi, rfl⟩ := List.mem_map.mp hp
    have := List.mem_range.mp hi
    omega
  · unfold List.Nodup
    rw [List.pairwise_map]
    exact List.Pairwise.imp (fun h e => h (by omega)) (List.nodup_range : (List.range n).Nodup)
/-! ## slices -/
theorem cutTo (xs : List V) (j : Nat) : cutV xs none (some ((j : Nat) : Int)) = xs.take j := by
  unfold cutV
  rw [HT.sIx_none, HT.sIx_nat, List.drop_zero, Nat.sub_zero]
  rcases Nat.le_total j xs.length with h | h
  · rw [Nat.min_eq_left h]
  · rw [Nat.min_eq_right h, List.take_of_length_le h, List.take_of_length_le (Nat.le_refl _)]
theorem cutFrom (xs : List V) (j : Nat) : cutV xs (some ((j : Nat) : Int)) none = xs.drop j := by
  unfold cutV
  rw [HT.sIx_none, HT.sIx_nat]
  rcases Nat.le_total j xs.length with h | h
  · rw [Nat.min_eq_left h, List.take_of_length_le (by rw [List.length_drop]; exact Nat.le_refl _)]
  · rw [Nat.min_eq_right h, Nat.sub_self, List.take_zero, List.drop_of_length_le h]
theorem cutEnd (xs : List V) (j : Nat) : cutV xs (some ((j : Nat) : Int)) (some ((xs.length : Nat) : Int)) = xs.drop j := by
  unfold cutV
  rw [HT.sIx_nat, HT.sIx_nat, Nat.min_self]
  rcases Nat.le_total j xs.length with h | h
  · rw [Nat.min_eq_left h, List.take_of_length_le (by rw [List.length_drop]; exact Nat.le_refl _)]
  · rw [Nat.min_eq_right h, Nat.sub_self, List.take_zero, List.drop_of_length_le h]
/-- len(x) within a comprehension -/
def rLenQ (K : PySem.W.Frag) : List V → Hp → VK → Prop := fun xs H Q => ∃ p ys, xs = [V.ref p] ∧ (SqL K H p ys ∨ SqT K H p ys) ∧ Q (.int ((ys.length : Nat) : Int)) H
/-- a block of two: what the rest asks is shown once, for every memory that the first may leave -/
theorem seqP {t u : TS} {D : Ends} {σ : L2.St} {H : Hp} (P : Hp → Prop) (h2 : ∀ H', P H' → u D σ H') (h1 : (∀ H', P H' → u D σ H') → t { D with nx := u D } σ H) : tSeq t u D σ H := h1 h2
theorem seqQ {t u : TS} {D : Ends} {σ : L2.St} {H : Hp} (P : L2.St → Hp → Prop) (h2 : ∀ σ' H', P σ' H' → u D σ' H') (h1 : (∀ σ' H', P σ' H' → u D σ' H') → t { D with nx := u D } σ H) : tSeq t u D σ H := h1 h2
/-- a drawn place of a written row -/
theorem pick {ms : List Int} {v : Int} (h0 : 0 ≤ v) (h1 : v < ms.length) : ∃ m ∈ ms, atI (ms.map V.int) v = some (.int m) := by
  obtain ⟨j, rfl⟩ : ∃ j : Nat, v = (j : Nat) := ⟨v.toNat, by omega⟩
  have hj : j < ms.length := by omega
  exact ⟨ms[j], List.getElem_mem hj, atI_nat (by rw [List.getElem?_map, List.getElem?_eq_getElem hj]; rfl)⟩
theorem atI_neg1 {α : Type} {xs : List α} {v : α} (h : xs[xs.length - 1]? = some v) : atI xs (-1) = some v := by
  obtain ⟨hi, e⟩ := List.getElem?_eq_some_iff.mp h
  have ne : xs ≠ [] := fun z => by rw [z] at hi; cases hi
  have : xs = xs.dropLast ++ [v] := by
    rw [← e, ← List.getLast_eq_getElem ne]
    exact (List.dropLast_concat_getLast ne).symm
  rw [this]
  exact atI_last _ _
/-- a loop's body -/
def forBodyL : Stmt → List Stmt
  | .For _ _ b _ _ => b
  | _ => []
end L2

set_option maxRecDepth 100000
set_option maxHeartbeats 8000000
namespace K09
open PySem PySem.Spec PyProof.Rows L2
section
variable {w : World} {K : PySem.W.Frag} {mg : Str → Option Value} {base : Heap}
abbrev xP (n : Int) : HO := .xd [("person", .int n)]
def spPerson (K : PySem.W.Frag) : Sp := fun vs H Q E => ∃ (h : Addr) (days starts : List Int) (gap n : Int), vs = [.ref h, .int n] ∧ IsH K H h days starts gap ∧ (¬ (0 ≤ n ∧ n < starts.length) → Rs (c_NoPerson K) (xP n) H E) ∧ (0 ≤ n ∧ n < starts.length → Q .non H)
theorem ok_check_person (T : Tx K mg) : Ok PG w K mg base (L2.CX PG w) 4 (a_check_person K) p_check_person (spPerson K) := by
  refine Ok.of 3 T.f_check_person sc_check_person bi_check_person (by decide) (fun vs H Q E h => ?_) (fun cdv A outer s H vs Q E hr h => ?_)
  · obtain ⟨_, _, _, _, _, rfl, _⟩ := h
    rfl
  · obtain ⟨h, days, starts, gap, n, rfl, hh, e1, q⟩ := h
    obtain ⟨dx, wp, t, h1, h2, h3, l1, l2⟩ := id hh
    refine ⟨_, pss_one (ps_if (pt_not (pt_chain op_le op_lt pe_int (pv 1) (pprop (ok_House_people T) (pv 0) T.cHouse T.wHouse_people hr pass0))) (pss_one (ps_raiseX rfl T.e_NoPerson (by decide) (by decide) hr (takes_of rfl rfl rfl rfl) rfl (pa_cons (pv 1) pa_nil))) pss_nil), ?_⟩
    refine ⟨_, rfl, _, _, rfl, rfl, _, rfl, ite2 (fun c => ?_) (fun c => ?_)⟩
    · refine ⟨_, rfl, h, dx, _, rfl, h1, h, days, starts, gap, rfl, hh, _, _, rfl, rfl, _, rfl, ite2 (fun d => ?_) (fun d => ?_)⟩
      · exact ⟨_, rfl, rfl, fun z hz => (e1 (fun y => by simp [y.2] at d)).now z hz⟩
      · exact q ⟨of_decide_eq_true c, by simpa using d⟩
    · refine ⟨_, rfl, iteT ?_⟩
      exact ⟨_, rfl, rfl, fun z hz => (e1 (fun y => c (decide_eq_true y.1))).now z hz⟩
def spPeople (K : PySem.W.Frag) : Sp := fun vs H Q E => ∃ (h a : Addr) (days starts : List Int) (gap : Int) (ps : List Int), vs = [.ref h, .ref a] ∧ IsH K H h days starts gap ∧ SqL K H a (ps.map V.int) ∧
  (∀ e, badP starts.length [] ps = some (false, e) → Rs (c_NoPerson K) (xP e) H E) ∧ (∀ e, badP starts.length [] ps = some (true, e) → Rs (c_NamedTwice K) (xP e) H E) ∧ (badP starts.length [] ps = none → ∀ H', Same H H' → Q .non H')
theorem ok_check_people (T : Tx K mg) : Ok PG w K mg base (L2.CX PG w) 5 (a_check_people K) p_check_people (spPeople K) := by
  refine Ok.of 4 T.f_check_people sc_check_people bi_check_people (by decide) (fun vs H Q E h => ?_) (fun cdv A outer s H vs Q E hr h => ?_)
  · obtain ⟨_, _, _, _, _, _, rfl, _⟩ := h
    rfl
  · obtain ⟨h, a, days, starts, gap, ps, rfl, hh, ha, e1, e2, q⟩ := h
    have nd := sc_check_people.nd
    refine ⟨_, pss_one (ps_for (passX rfl) rfl (pi_enumW (by rfl) T.m_enumerate (pa_cons (pv 1) pa_nil)) (pg_tup rfl (pgs_cons (pg_name (i := 2) nd rfl (.inl rfl)) (pgs_cons (pg_name (i := 3) nd rfl (.inl rfl)) pgs_nil)))
        (pss_cons (ps_expr (pc (ok_check_person T) hr T.g_check_person px (pa_cons (pv 0) (pa_cons (pv 3) pa_nil))))
          (pss_one (ps_if (pt_cmpR op_in_seq (pv 3) (pe_slice sl_list (pv 1) po_none (po_some (pv 2))) (by rfl)) (pss_one (ps_raiseX rfl T.e_NamedTwice (by decide) (by decide) hr (takes_of rfl rfl rfl rfl) rfl (pa_cons (pv 3) pa_nil))) pss_nil)))), ?_⟩
    refine ⟨_, rfl, a, ps.map V.int, rfl, .inl ha, fun J G hG wk => ?_⟩
    refine for_it wk (fun i σ H' => ∃ x2 x3, σ = [some (.ref h), some (.ref a), x2, x3] ∧ Same H H' ∧ badP starts.length (ps.take i) (ps.drop i) = badP starts.length [] ps) ⟨_, _, rfl, .refl _, rfl⟩ (fun i σ H' _ p => (let ⟨_, _, _, sm, _⟩ := p; hG H' sm)) (fun i x σ H0 H1 hi p y => ?_) (fun σ H' p => ?_)
    · obtain ⟨x2, x3, rfl, sm, hb⟩ := p
      obtain ⟨T', x', y', rfl, hT, rfl, f1, f2⟩ := y
      obtain ⟨n, hn, rfl⟩ := map_get f2
      cases f1
      have sm1 : Same H (upd H0 T' (.tup [.int (i : Nat), .int n])) := sm.new' hT
      obtain ⟨b1, b2, b3⟩ := badP_step hb hn
      refine ⟨T', _, rfl, SqT.of upd_same, rfl, _, _, rfl, _, _, rfl, rfl, ?_⟩
      generalize upd H0 T' (.tup [.int (i : Nat), .int n]) = G1 at sm1 ⊢
      refine ⟨_, rfl, _, rfl, h, days, starts, gap, n, rfl, hh.same sm1, fun c => (e1 n (b1 c)).same sm1, fun c => ?_⟩
      refine ⟨_, rfl, _, rfl, _, rfl, _, rfl, a, _, rfl, sm1.seq ha, fun D hD => ?_⟩
      have ec : cutV (ps.map V.int) none (some ((i : Nat) : Int)) = (ps.take i).map V.int := by
        rw [List.map_take]; exact cutTo _ _
      have s2 : Same G1 (upd G1 D (.lst (cutV (ps.map V.int) none (some ((i : Nat) : Int))))) := .new hD
      refine ⟨D, (ps.take i).map V.int, rfl, .inl (by rw [ec]; exact SqL.of upd_same), rfl, flat_ints _, _, rfl, ite2 (fun m => ?_) (fun m => ?_)⟩
      · rw [inV_ints] at m
        exact ⟨_, rfl, rfl, fun z hz => (e2 n (b2 c (of_decide_eq_true m))) _ z (sm1.trans s2) hz⟩
      · rw [inV_ints] at m
        exact ⟨_, _, rfl, sm1.trans s2, b3 c (by simpa using m)⟩
    · obtain ⟨x2, x3, rfl, sm, hb⟩ := p
      rw [List.length_map] at hb
      exact q (badP_end hb) _ sm
end
end K09

set_option maxRecDepth 100000
set_option maxHeartbeats 4000000
/-! # First choice night by night, growth: the mathematics -/
namespace GR
/-- first choice, night by night: acc is what was taken so far -/
def takeG (gap : Nat) : List Int → List Int → List Int → List Int
  | acc, w :: ws, h :: hs => takeG gap (acc ++ [if h - (acc.drop (acc.length - gap)).sum < w then h - (acc.drop (acc.length - gap)).sum else w]) ws hs
  | acc, _, _ => acc
theorem takeG_go {gap i : Nat} {days hs acc : List Int} {w h : Int} (hw : days[i]? = some w) (hh : hs[i]? = some h) : takeG gap acc (days.drop i) (hs.drop i) = takeG gap (acc ++ [if h - (acc.drop (acc.length - gap)).sum < w then h - (acc.drop (acc.length - gap)).sum else w]) (days.drop (i + 1)) (hs.drop (i + 1)) := by
  obtain ⟨h1, rfl⟩ := List.getElem?_eq_some_iff.mp hw
  obtain ⟨h2, rfl⟩ := List.getElem?_eq_some_iff.mp hh
  rw [List.drop_eq_getElem_cons h1, List.drop_eq_getElem_cons h2, takeG]
theorem takeG_fin {gap : Nat} {days hs acc : List Int} : takeG gap acc (days.drop days.length) hs = acc := by
  rw [List.drop_length]
  cases hs <;> simp [takeG]
/-- the sum of the last gap of the first k values of f -/
def win (f : Nat → Int) (gap k : Nat) : Int := (((List.range k).map f).drop (k - gap)).sum
/-- the sum of the first k values -/
def pre (f : Nat → Int) (k : Nat) : Int := ((List.range k).map f).sum
theorem pre_succ (f : Nat → Int) (k : Nat) : pre f (k + 1) = pre f k + f k := by
  unfold pre
  rw [List.range_succ, List.map_append, List.sum_append, List.map_singleton, List.sum_singleton]
theorem sum_split (xs : List Int) (j : Nat) : xs.sum = (xs.take j).sum + (xs.drop j).sum := by
  conv => lhs; rw [← List.take_append_drop j xs]
  exact List.sum_append
theorem win_pre (f : Nat → Int) (gap k : Nat) : win f gap k = pre f k - pre f (k - gap) := by
  unfold win
  have h := sum_split ((List.range k).map f) (k - gap)
  have e : ((List.range k).map f).take (k - gap) = (List.range (k - gap)).map f := by
    rw [← List.map_take, List.take_range]
    congr 2
    omega
  rw [e] at h
  unfold pre
  omega
/-- x is first choice of days with h k people here on night k + 1 -/
def IsFC (gap : Nat) (d h x : Nat → Int) : Prop := ∀ k, x k = if h k - win x gap k < d k then h k - win x gap k else d k
theorem takeG_is {gap : Nat} {days hs : List Int} (hl : hs.length = days.length) {x : Nat → Int} (hx : ∀ k, k < days.length → x k = if hs.getD k 0 - win x gap k < days.getD k 0 then hs.getD k 0 - win x gap k else days.getD k 0) : takeG gap [] days hs = (List.range days.length).map x := by
  have key : ∀ k, k ≤ days.length → takeG gap ((List.range k).map x) (days.drop k) (hs.drop k) = takeG gap [] days hs := by
    intro k
    induction k with
    | zero => intro _; rfl
    | succ k ih =>
      intro hk
      rw [← ih (by omega), takeG_go (List.getElem?_eq_getElem (show k < days.length by omega)) (List.getElem?_eq_getElem (show k < hs.length by omega))]
      rw [List.range_succ, List.map_append, List.map_singleton]
      have := hx k (by omega)
      unfold win at this
      rw [this, List.length_map, List.length_range]
      simp only [List.getD_eq_getElem?_getD, List.getElem?_eq_getElem (show k < days.length by omega), List.getElem?_eq_getElem (show k < hs.length by omega), Option.getD_some]
  rw [← key days.length (Nat.le_refl _), takeG_fin]
/-- first choice as a function of the night -/
def fc (gap : Nat) (d h : Nat → Int) : Nat → List Int
  | 0 => []
  | k + 1 => fc gap d h k ++ [if h k - ((fc gap d h k).drop (k - gap)).sum < d k then h k - ((fc gap d h k).drop (k - gap)).sum else d k]
def fcx (gap : Nat) (d h : Nat → Int) (k : Nat) : Int := if h k - ((fc gap d h k).drop (k - gap)).sum < d k then h k - ((fc gap d h k).drop (k - gap)).sum else d k
theorem fc_map (gap : Nat) (d h : Nat → Int) (k : Nat) : fc gap d h k = (List.range k).map (fcx gap d h) := by
  induction k with
  | zero => rfl
  | succ k ih =>
    rw [List.range_succ, List.map_append, ← ih]
    rfl
theorem fcx_is (gap : Nat) (d h : Nat → Int) : IsFC gap d h (fcx gap d h) := by
  intro k
  unfold win
  rw [← fc_map]
  rfl
/-- f are the flags of the growth of somebody who comes on night c, over first choice x -/
def IsGr (gap c : Nat) (d x f : Nat → Int) : Prop := ∀ k, f k = if c ≤ k + 1 ∧ x k < d k ∧ win f gap k = 0 then 1 else 0
def gr (gap c : Nat) (d x : Nat → Int) : Nat → List Int
  | 0 => []
  | k + 1 => gr gap c d x k ++ [if c ≤ k + 1 ∧ x k < d k ∧ ((gr gap c d x k).drop (k - gap)).sum = 0 then 1 else 0]
def grx (gap c : Nat) (d x : Nat → Int) (k : Nat) : Int := if c ≤ k + 1 ∧ x k < d k ∧ ((gr gap c d x k).drop (k - gap)).sum = 0 then 1 else 0
theorem gr_map (gap c : Nat) (d x : Nat → Int) (k : Nat) : gr gap c d x k = (List.range k).map (grx gap c d x) := by
  induction k with
  | zero => rfl
  | succ k ih =>
    rw [List.range_succ, List.map_append, ← ih]
    rfl
theorem grx_is (gap c : Nat) (d x : Nat → Int) : IsGr gap c d x (grx gap c d x) := by
  intro k
  unfold win
  rw [← gr_map]
  rfl
theorem IsGr.bit {gap c : Nat} {d x f : Nat → Int} (h : IsGr gap c d x f) (k : Nat) : f k = 0 ∨ f k = 1 := by
  rw [h k]; split <;> simp
theorem pre_mono {f : Nat → Int} (h : ∀ k, 0 ≤ f k) {j k : Nat} (hj : j ≤ k) : pre f j ≤ pre f k := by
  induction k with
  | zero => rw [show j = 0 by omega]; exact Int.le_refl _
  | succ k ih =>
    rcases Nat.lt_or_ge k j with c | c
    · rw [show j = k + 1 by omega]; exact Int.le_refl _
    · rw [pre_succ]
      have := ih c
      have := h k
      omega
theorem IsGr.nn {gap c : Nat} {d x f : Nat → Int} (h : IsGr gap c d x f) (k : Nat) : 0 ≤ f k := by
  rcases h.bit k with e | e <;> omega
/-- at most one flag in any gap + 1 nights -/
theorem IsGr.one {gap c : Nat} {d x f : Nat → Int} (h : IsGr gap c d x f) (k : Nat) : pre f (k + 1) - pre f (k - gap) ≤ 1 ∧ win f gap k ≤ 1 := by
  have main : pre f (k + 1) - pre f (k - gap) ≤ 1 := by
    induction k with
    | zero =>
      rw [pre_succ, Nat.zero_sub]
      rcases h.bit 0 with e | e <;> omega
    | succ k ih =>
      rw [pre_succ (k := k + 1)]
      have hw := win_pre f gap (k + 1)
      rcases h.bit (k + 1) with e | e
      · have : pre f (k - gap) ≤ pre f (k + 1 - gap) := pre_mono h.nn (by omega)
        omega
      · have hk := h (k + 1)
        rw [e] at hk
        have : win f gap (k + 1) = 0 := by
          by_cases c : c ≤ k + 1 + 1 ∧ x (k + 1) < d (k + 1) ∧ win f gap (k + 1) = 0
          · exact c.2.2
          · rw [if_neg c] at hk; omega
        omega
  refine ⟨main, ?_⟩
  rw [win_pre]
  rw [pre_succ] at main
  have := h.nn k
  omega
theorem IsGr.wnn {gap c : Nat} {d x f : Nat → Int} (h : IsGr gap c d x f) (k : Nat) : 0 ≤ win f gap k := by
  rw [win_pre]
  have := pre_mono h.nn (show k - gap ≤ k by omega)
  omega
/-- before the coming there is no flag -/
theorem IsGr.early {gap c : Nat} {d x f : Nat → Int} (h : IsGr gap c d x f) {k : Nat} (hk : k + 1 ≤ c) : pre f k = 0 := by
  induction k with
  | zero => rfl
  | succ k ih =>
    rw [pre_succ, ih (by omega), h k, if_neg (by omega)]
    rfl
theorem win_congr {f g : Nat → Int} {gap k : Nat} (h : ∀ j, j < k → f j = g j) : win f gap k = win g gap k := by
  unfold win
  congr 2
  exact List.map_congr_left fun j hj => h j (List.mem_range.mp hj)
theorem win_add (f g : Nat → Int) (gap k : Nat) : win (fun j => f j + g j) gap k = win f gap k + win g gap k := by
  have p : ∀ n, pre (fun j => f j + g j) n = pre f n + pre g n := fun n => by
    induction n with
    | zero => rfl
    | succ n ih => rw [pre_succ, pre_succ, pre_succ, ih]; omega
  rw [win_pre, win_pre, win_pre, p, p]
  omega
/-- a person more: first choice is one greater on the growth and the same elsewhere -/
theorem grow_fc {gap c : Nat} {d h h' x f : Nat → Int} (hx : IsFC gap d h x) (hf : IsGr gap c d x f) (hh : ∀ k, h' k = h k + if c ≤ k + 1 then 1 else 0) : IsFC gap d h' (fun k => x k + f k) := by
  intro k
  show x k + f k = if h' k - win (fun j => x j + f j) gap k < d k then h' k - win (fun j => x j + f j) gap k else d k
  rw [win_add]
  have h1 := hx k
  have h2 := hf k
  have h3 := (hf.one k).2
  have h4 := hf.wnn k
  have h5 := hh k
  by_cases e : c ≤ k + 1
  · rw [if_pos e] at h5
    by_cases z : win f gap k = 0
    · by_cases r : x k < d k
      · rw [if_pos ⟨e, r, z⟩] at h2
        split at h1 <;> split <;> omega
      · rw [if_neg (fun y => r y.2.1)] at h2
        split at h1 <;> split <;> omega
    · rw [if_neg (fun y => z y.2.2)] at h2
      split at h1 <;> split <;> omega
  · rw [if_neg e] at h5
    rw [if_neg (fun y => e y.1)] at h2
    have : win f gap k = 0 := by
      rw [win_pre, hf.early (k := k) (by omega), hf.early (k := k - gap) (by omega)]
      rfl
    split at h1 <;> split <;> omega
theorem IsFC.uniq {gap : Nat} {d h x y : Nat → Int} (hx : IsFC gap d h x) (hy : IsFC gap d h y) : ∀ k, x k = y k := by
  intro k
  induction k using Nat.strongRecOn with
  | _ k ih =>
    rw [hx k, hy k, win_congr ih]
/-- more room, no fewer nights -/
theorem grow_more {gap c : Nat} {d x y f g : Nat → Int} (hf : IsGr gap c d x f) (hg : IsGr gap c d y g) (hxy : ∀ k, x k ≤ y k) : ∀ k, pre g k ≤ pre f k := by
  intro k
  induction k using Nat.strongRecOn with
  | _ k ih =>
    cases k with
    | zero => exact Int.le_refl _
    | succ k =>
      rw [pre_succ, pre_succ]
      have h0 := ih k (by omega)
      have h1 := ih (k - gap) (by omega)
      have h2 := pre_mono hf.nn (show k - gap ≤ k by omega)
      have h3 := hf.nn k
      rcases hg.bit k with e | e
      · omega
      · have hk := hg k
        rw [e] at hk
        have c2 : c ≤ k + 1 ∧ y k < d k ∧ win g gap k = 0 := by
          by_cases c2 : c ≤ k + 1 ∧ y k < d k ∧ win g gap k = 0
          · exact c2
          · rw [if_neg c2] at hk; omega
        have w1 := win_pre g gap k
        by_cases eq : pre g k = pre f k
        · have w2 := win_pre f gap k
          have hfk := hf k
          have := hxy k
          rw [if_pos ⟨c2.1, by omega, by omega⟩] at hfk
          omega
        · omega
end GR
namespace GR
/-- the nights that are flagged, up to night k -/
def ngh (f : Nat → Int) (k : Nat) : List Int := ((List.range k).filter fun j => decide (f j = 1)).map fun j => ((j : Nat) : Int) + 1
theorem ngh_succ (f : Nat → Int) (k : Nat) : ngh f (k + 1) = ngh f k ++ if f k = 1 then [((k : Nat) : Int) + 1] else [] := by
  unfold ngh
  rw [List.range_succ, List.filter_append, List.map_append]
  congr 1
  by_cases h : f k = 1
  · rw [if_pos h, List.filter_cons_of_pos (by exact decide_eq_true h)]; rfl
  · rw [if_neg h, List.filter_cons_of_neg (by simpa using h)]; rfl
theorem ngh_mem {f : Nat → Int} {k : Nat} {e : Int} : e ∈ ngh f k ↔ ∃ j, j < k ∧ f j = 1 ∧ e = ((j : Nat) : Int) + 1 := by
  unfold ngh
  constructor
  · intro h
    obtain ⟨j, hj, rfl⟩ := List.mem_map.mp h
    obtain ⟨h1, h2⟩ := List.mem_filter.mp hj
    exact ⟨j, List.mem_range.mp h1, of_decide_eq_true h2, rfl⟩
  · rintro ⟨j, h1, h2, rfl⟩
    exact List.mem_map.mpr ⟨j, List.mem_filter.mpr ⟨List.mem_range.mpr h1, decide_eq_true h2⟩, rfl⟩
theorem ngh_len {f : Nat → Int} (h : ∀ k, f k = 0 ∨ f k = 1) (k : Nat) : ((ngh f k).length : Int) = pre f k := by
  induction k with
  | zero => rfl
  | succ k ih =>
    rw [ngh_succ, pre_succ, List.length_append, Int.natCast_add, ih]
    rcases h k with e | e
    · rw [e, if_neg (by decide)]; rfl
    · rw [e, if_pos rfl]; rfl
theorem ngh_le (f : Nat → Int) (k : Nat) : (ngh f k).length ≤ k := by
  unfold ngh
  rw [List.length_map]
  have := List.length_filter_le (fun j => decide (f j = 1)) (List.range k)
  rwa [List.length_range] at this
theorem pre_zero {f : Nat → Int} (h : ∀ k, 0 ≤ f k) {m n : Nat} (hm : m ≤ n) : pre f n - pre f m = 0 ↔ ∀ j, m ≤ j → j < n → f j = 0 := by
  induction n with
  | zero =>
    rw [show m = 0 by omega]
    simp
  | succ n ih =>
    rcases Nat.lt_or_ge n m with c | c
    · rw [show m = n + 1 by omega]
      constructor
      · intro _ j h1 h2; omega
      · intro _; omega
    · rw [pre_succ]
      have i := ih c
      have hn := h n
      have hp := pre_mono h c
      constructor
      · intro e j h1 h2
        rcases Nat.lt_or_ge j n with q | q
        · exact i.1 (by omega) j h1 q
        · rw [show j = n by omega]; omega
      · intro e
        have := i.2 fun j h1 h2 => e j h1 (by omega)
        have := e n c (by omega)
        omega
/-- nobody watched on one of the gap nights before -/
theorem near_win {f : Nat → Int} (h : ∀ k, f k = 0 ∨ f k = 1) {gap k : Nat} : win f gap k = 0 ↔ ∀ e ∈ ngh f k, (gap : Int) < ((k : Nat) : Int) + 1 - e := by
  have nn : ∀ k, 0 ≤ f k := fun k => by rcases h k with e | e <;> omega
  rw [win_pre, pre_zero nn (by omega)]
  constructor
  · intro z e he
    obtain ⟨j, h1, h2, rfl⟩ := ngh_mem.mp he
    by_cases c : k - gap ≤ j
    · have := z j c h1; omega
    · omega
  · intro z j h1 h2
    rcases h j with e | e
    · exact e
    · have := z _ (ngh_mem.mpr ⟨j, h2, e, rfl⟩)
      omega
/-- the last of them is the greatest -/
theorem ngh_last (f : Nat → Int) (k : Nat) (hne : ngh f k ≠ []) : ∃ l, (ngh f k)[(ngh f k).length - 1]? = some l ∧ l ∈ ngh f k ∧ ∀ e ∈ ngh f k, e ≤ l := by
  induction k with
  | zero => exact absurd rfl hne
  | succ k ih =>
    rw [ngh_succ] at hne ⊢
    by_cases h : f k = 1
    · rw [if_pos h]
      refine ⟨((k : Nat) : Int) + 1, ?_, by simp, fun e he => ?_⟩
      · rw [List.length_append, List.getElem?_append_right (by simp)]
        simp
      · rcases List.mem_append.mp he with z | z
        · obtain ⟨j, h1, _, rfl⟩ := ngh_mem.mp z
          omega
        · rw [List.mem_singleton.mp z]; exact Int.le_refl _
    · rw [if_neg h, List.append_nil] at hne ⊢
      exact ih hne
theorem near_last {f : Nat → Int} (h : ∀ k, f k = 0 ∨ f k = 1) {gap k : Nat} : win f gap k = 0 ↔ ngh f k = [] ∨ ∀ l, (ngh f k)[(ngh f k).length - 1]? = some l → (gap : Int) < ((k : Nat) : Int) + 1 - l := by
  rw [near_win h]
  constructor
  · intro z
    by_cases hne : ngh f k = []
    · exact .inl hne
    · obtain ⟨l, h1, h2, _⟩ := ngh_last f k hne
      exact .inr fun l' e => by rw [h1] at e; cases e; exact z l h2
  · rintro (z | z) e he
    · rw [z] at he; cases he
    · obtain ⟨l, h1, h2, h3⟩ := ngh_last f k (fun y => by rw [y] at he; cases he)
      have := z l h1
      have := h3 e he
      omega
end GR

set_option maxRecDepth 100000
set_option maxHeartbeats 8000000
namespace K09
open PySem PySem.Spec PyProof.Rows L2 GR
section
variable {w : World} {K : PySem.W.Frag} {mg : Str → Option Value} {base : Heap}
def spChoose (K : PySem.W.Frag) : Sp := fun vs H Q _ => ∃ (wp a : Addr) (days hs : List Int) (gap : Nat), vs = [.ref wp, .int (gap : Nat), .ref a] ∧ IsW K H wp days ∧ SqL K H a (hs.map V.int) ∧ days.length ≤ 60 ∧ hs.length = days.length ∧
  ∀ H' l, Same H H' → H l = none → H' l = some (.lst ((takeG gap [] days hs).map V.int)) → Q (.ref l) H'
theorem ok_choose_first (T : Tx K mg) : Ok PG w K mg base CX0 4 (a_choose_first K) p_choose_first (spChoose K) := by
  refine Ok.of 3 T.f_choose_first sc_choose_first bi_choose_first (by decide) (fun vs H Q E h => ?_) (fun cdv A outer s H vs Q E hr h => ?_)
  · obtain ⟨_, _, _, _, _, rfl, _⟩ := h
    rfl
  · obtain ⟨wp, a, days, hs, gap, rfl, hw, ha, ld, lh, q⟩ := h
    obtain ⟨dx, t, h1, h2⟩ := id hw
    have nd := sc_choose_first.nd
    refine ⟨_, pss_cons (ps_set (i := 3) nd rfl (.inl rfl) (pe_lst pa_nil))
      (pss_cons (ps_for (passX rfl) rfl (pi_zipO (it_Wants T) hr T.m_zip (pa_cons (pv 0) (pa_cons (pv 2) pa_nil))) (pg_tup rfl (pgs_cons (pg_name (i := 4) nd rfl (.inl rfl)) (pgs_cons (pg_name (i := 5) nd rfl (.inl rfl)) pgs_nil)))
        (pss_cons (ps_set (i := 6) nd rfl (.inl rfl) (pe_callB (cr_sum rfl) (by rfl) T.m_sum (by decide +kernel) (pa_cons (pe_slice sl_list (pv 3) (po_some (pe_callB (call_max2 rfl) (by rfl) T.m_max (by decide +kernel) (pa_cons pe_int (pa_cons (pe_op op_sub (pe_callB call_len_seq (by rfl) T.m_len PySem.boot_len (pa_cons (pv 3) pa_nil)) (pv 1)) pa_nil)))) po_none) pa_nil)))
          (pss_one (ps_expr (pe_bm PySem.F.plainAttrs_list PySem.F.slot_list_append PySem.F.type_list_append mt_append (pv 3) (pa_cons (pe_callB (call_min2 rfl) (by rfl) T.m_min (by decide +kernel) (pa_cons (pv 4) (pa_cons (pe_op op_sub (pv 5) (pv 6)) pa_nil))) pa_nil))))))
      (pss_one (ps_ret (pv 3)))), ?_⟩
    refine ⟨by show 0 ≤ sizeLine; decide, fun L hL => ?_⟩
    have s0 : Same H (upd H L (.lst [])) := .new hL
    refine ⟨_, rfl, _, rfl, wp, a, dx, _, t, _, _, rfl, s0 _ _ h1, rfl, s0.seqT h2, s0.seq ha, ?_⟩
    refine for_it (walk_zipO (xs := days.map V.int) (ys := hs.map V.int)) (fun i σ H' => ∃ x4 x5 x6 acc, σ = [some (.ref wp), some (.int (gap : Nat)), some (.ref a), some (.ref L), x4, x5, x6] ∧ Same H H' ∧ H' L = some (.lst (acc.map V.int)) ∧ acc.length = i ∧ takeG gap acc (days.drop i) (hs.drop i) = takeG gap [] days hs) ⟨_, _, _, [], rfl, s0, upd_same, rfl, rfl⟩ (fun i σ H' _ p => (let ⟨_, _, _, _, _, sm, _⟩ := p; ⟨sm.seqT h2, sm.seq ha⟩)) (fun i x σ H0 H1 hi p y => ?_) (fun σ H' p => ?_)
    · obtain ⟨x4, x5, x6, acc, rfl, sm, hl, la, hg⟩ := p
      obtain ⟨T', x', y', rfl, hT, rfl, f1, f2⟩ := y
      obtain ⟨n, hn, rfl⟩ := map_get f1
      obtain ⟨m, hm, rfl⟩ := map_get f2
      rw [List.length_map, List.length_map] at hi
      have st : Same H0 (upd H0 T' (.tup [.int n, .int m])) := .new hT
      have sm1 : Same H (upd H0 T' (.tup [.int n, .int m])) := sm.trans st
      have hl1 := st _ _ hl
      refine ⟨T', _, rfl, SqT.of upd_same, rfl, _, _, rfl, _, _, rfl, rfl, ?_⟩
      generalize upd H0 T' (.tup [.int n, .int m]) = G at sm1 hl1 ⊢
      refine ⟨_, rfl, _, rfl, L, _, rfl, .inl (SqL.of hl1), _, rfl, _, _, rfl, rfl, _, _, rfl, _, rfl, L, _, rfl, SqL.of hl1, fun u hu => ?_⟩
      have ej : (if ((acc.map V.int).length : Nat) - ((gap : Nat) : Int) > 0 then ((acc.map V.int).length : Nat) - ((gap : Nat) : Int) else 0) = ((acc.length - gap : Nat) : Int) := by rw [List.length_map]; split <;> omega
      have ec : cutV (acc.map V.int) (some (if ((acc.map V.int).length : Nat) - ((gap : Nat) : Int) > 0 then ((acc.map V.int).length : Nat) - ((gap : Nat) : Int) else 0)) none = (acc.drop (acc.length - gap)).map V.int := by
        rw [ej, cutFrom, List.map_drop]
      rw [ec]
      have s2 : Same G (upd G u (.lst ((acc.drop (acc.length - gap)).map V.int))) := .new hu
      have hl2 := s2 _ _ hl1
      refine ⟨u, acc.drop (acc.length - gap), rfl, SqL.of upd_same, ?_⟩
      refine ⟨_, rfl, .inl ⟨rfl, _, SqL.of hl2⟩, _, rfl, _, rfl, _, rfl, _, _, rfl, rfl, _, _, rfl, L, _, _, rfl, rfl, hl2, by rw [List.length_map, la, sizeLine_eq]; omega, ?_⟩
      refine ⟨_, _, _, acc ++ [if m - (acc.drop (acc.length - gap)).sum < n then m - (acc.drop (acc.length - gap)).sum else n], rfl, fun b o eb => ?_, ?_, by rw [List.length_append, la]; rfl, ?_⟩
      · rw [upd_ne (fun z => by rw [z, hL] at eb; cases eb)]
        exact s2 _ _ (sm1 _ _ eb)
      · rw [upd_same, List.map_append]; rfl
      · rw [← takeG_go hn hm]
        exact hg
    · obtain ⟨x4, x5, x6, acc, rfl, sm, hl, la, hg⟩ := p
      rw [List.length_map, List.length_map, lh, Nat.min_self] at la hg
      rw [takeG_fin] at hg
      subst hg
      exact ⟨_, rfl, q _ L sm hL hl⟩
abbrev lcSc1 : Scope := { kind := .function, names := [(".0", .local), ("night", .cell), ("len", .globalImplicit), ("house", .cell), ("people", .cell)], isGenerator := false, isCoroutine := false }
def hereP (starts ps : List Int) (n : Int) : Int := ((ps.filter fun p => decide (starts.getD p.toNat 0 ≤ n)).length : Nat)
def herePs (starts ps : List Int) (n : Nat) : List Int := (List.range n).map fun j => hereP starts ps ((j : Nat) + 1)
def spFirstC (K : PySem.W.Frag) : Sp := fun vs H Q E => ∃ (h a : Addr) (days starts ps : List Int) (gap : Nat), vs = [.ref h, .ref a] ∧ IsH K H h days starts (gap : Nat) ∧ SqL K H a (ps.map V.int) ∧
  (∀ e, badP starts.length [] ps = some (false, e) → Rs (c_NoPerson K) (xP e) H E) ∧ (∀ e, badP starts.length [] ps = some (true, e) → Rs (c_NamedTwice K) (xP e) H E) ∧
  (badP starts.length [] ps = none → ps.length ≤ 1000 ∧ ∀ H' l, Same H H' → H l = none → H' l = some (.lst ((takeG gap [] days (herePs starts ps days.length)).map V.int)) → Q (.ref l) H')
theorem ok_first_choice (T : Tx K mg) : Ok PG w K mg base (L2.CX PG w) 6 (a_first_choice K) p_first_choice (spFirstC K) := by
  refine Ok.of 5 T.f_first_choice sc_first_choice bi_first_choice (by decide) (fun vs H Q E h => ?_) (fun cdv A outer s H vs Q E hr h => ?_)
  · obtain ⟨_, _, _, _, _, _, rfl, _⟩ := h
    rfl
  · obtain ⟨h, a, days, starts, ps, gap, rfl, hh, ha, e1, e2, q⟩ := h
    obtain ⟨dx, wp, t, h1, h2, h3, l1, l2⟩ := id hh
    have nd := sc_first_choice.nd
    refine ⟨_, pss_cons (ps_expr (pc (ok_check_people T) hr T.g_check_people px (pa_cons (pv 0) (pa_cons (pv 1) pa_nil))))
      (pss_cons (ps_setLc (i := 2) (own := [("night", 3)]) (g := gName 3) (tt := tYes) rfl nd rfl rfl (sw_true rfl rfl rfl (by decide +kernel)) (pi_range2 rfl T.m_range (pa_cons pe_int (pa_cons (pe_op op_add (pprop (ok_House_nights T) (pv 0) T.cHouse T.wHouse_nights (hr.mono (by decide)) pass0) pe_int) pa_nil))) (blkOk_by (N := n_first_choice) (sc := defScope s_first_choice) (by decide +kernel)) (fun _ _ _ _ _ => pg_name (i := 3) nd rfl (Or.inr rfl)) (fun _ _ _ _ _ => pts_nil) (fun _ _ _ _ _ => pe_callB (r := rLenQ K) call_len_seq (by rfl) T.m_len PySem.boot_len (pa_cons (pe_lc (own := [("person", 4)]) (wi := iList K (tVar 1)) (g := gName 4) rfl nd (pi_list (pv 1)) (blkOk_by (N := n_first_choice) (sc := lcSc1) (by decide +kernel)) (fun _ _ _ _ _ => pg_name (i := 4) nd rfl (Or.inl rfl)) (fun _ _ _ _ _ => pts_one (pt_cmpR op_le (pe_ix (r := rIxT K) (ta := tFld K (tVar 0) "comings") (tb := tVar 4) ix_tup (pe_fld (pv 0) rfl) (pv 4) (fun _ _ => rfl)) (pv 3) (nomark _))) (fun _ _ _ _ _ => pv 4)) pa_nil)))
      (pss_one (ps_ret (pc (ok_choose_first T) (hr.mono (by decide)) T.g_choose_first pass0 (pa_cons (pe_fld (pv 0) rfl) (pa_cons (pe_fld (pv 0) rfl) (pa_cons (pv 2) pa_nil))))))), ?_⟩
    refine ⟨_, rfl, _, rfl, h, a, days, starts, (gap : Nat), ps, rfl, hh, ha, e1, e2, fun eb H1 s1 => ?_⟩
    obtain ⟨lp, qq⟩ := q eb
    have hin := (badP_none.mp eb).1
    have ha1 := s1.seq ha
    refine ⟨_, rfl, h, dx, _, rfl, s1 _ _ h1, h, days, starts, _, rfl, hh.same s1, _, _, rfl, rfl, _, _, rfl, ⟨by omega, by omega, by omega, by omega⟩, fun D hD => ?_⟩
    have hN : ((days.length : Int) + 1 - 1).toNat = days.length := by omega
    refine lc_range (lo := 1) (n := ((days.length : Int) + 1 - 1).toNat) (fun i H' => Same H1 H' ∧ H' D = some (.lst ((herePs starts ps i).map V.int))) ⟨.new hD, upd_same⟩ (fun i H' hi z => ?_) (fun H' z => ?_)
    · rw [hN] at hi
      obtain ⟨sm, hd⟩ := z
      refine ⟨rfl, yesT ?_⟩
      refine ⟨_, rfl, a, rfl, ⟨_, sm.seq ha1⟩, fun F hF => ?_⟩
      refine lc_list (xs := ps.map V.int) (fun j H2 => Same H' H2 ∧ H2 F = some (.lst (((ps.take j).filter (fun p => decide (starts.getD p.toNat 0 ≤ 1 + ((i : Nat) : Int)))).map V.int))) ⟨.new hF, upd_same⟩ (fun j H2 _ z => z.1.seq (sm.seq ha1)) (fun j x H2 hx z => ?_) (fun H2 z => ?_)
      · obtain ⟨p, hp, rfl⟩ := map_get hx
        obtain ⟨s2, hf⟩ := z
        have tk : ps.take (j + 1) = ps.take j ++ [p] := by rw [List.take_succ, hp]; rfl
        obtain ⟨p0, p1⟩ := hin p (List.mem_of_getElem? hp)
        obtain ⟨k, rfl⟩ : ∃ k : Nat, p = (k : Nat) := ⟨p.toNat, by omega⟩
        have hk : k < starts.length := by omega
        have hm : (starts.map V.int)[k]? = some (V.int (starts.getD k 0)) := by rw [List.getElem?_map, List.getD_eq_getElem?_getD, List.getElem?_eq_getElem hk]; rfl
        have s13 := s1.trans (sm.trans s2)
        refine ⟨rfl, _, rfl, h, _, dx, _, _, rfl, s13 _ _ h1, T.cHouse, T.nHouse_comings, rfl, _, rfl, t, _, _, _, rfl, rfl, s13.seqT h3, atI_nat hm, _, rfl, _, _, rfl, rfl, _, rfl, ite2 (fun c => ?_) (fun c => ?_)⟩
        · refine ⟨_, rfl, _, hf, ?_, fun b o eb => ?_, ?_⟩
          · rw [List.length_map, sizeLine_eq]
            have := List.length_filter_le (fun p : Int => decide (starts.getD p.toNat 0 ≤ 1 + ((i : Nat) : Int))) (ps.take j)
            rw [List.length_take] at this
            omega
          · rw [upd_ne (fun z => by rw [z, hF] at eb; cases eb)]
            exact s2 _ _ eb
          · rw [upd_same, tk, List.filter_append, List.filter_cons_of_pos (by exact c), List.filter_nil, List.map_append]; rfl
        · refine ⟨s2, ?_⟩
          rw [tk, List.filter_append, List.filter_cons_of_neg (by exact c), List.filter_nil, List.append_nil]
          exact hf
      · obtain ⟨s2, hf⟩ := z
        rw [List.length_map, List.take_length] at hf
        have hd2 := s2 _ _ hd
        refine ⟨F, _, rfl, .inl (SqL.of hf), _, hd2, ?_, fun b o e => ?_, ?_⟩
        · rw [herePs, List.length_map, List.length_map, List.length_range, sizeLine_eq]; omega
        · rw [upd_ne (fun z => by rw [z, hD] at e; cases e)]
          exact s2 _ _ (sm _ _ e)
        · rw [upd_same, herePs, herePs, List.range_succ, List.map_append, List.map_append, List.length_map, Int.add_comm 1]
          rfl
    · obtain ⟨sm, hd⟩ := z
      rw [hN] at hd
      have s2 := s1.trans sm
      refine ⟨_, rfl, h, _, dx, _, _, rfl, s2 _ _ h1, T.cHouse, T.nHouse_wants, rfl, _, rfl, h, _, dx, _, _, rfl, s2 _ _ h1, T.cHouse, T.nHouse_rest, rfl, _, rfl, wp, D, days, _, gap, rfl, h2.same s2, SqL.of hd, l1, by rw [herePs, List.length_map, List.length_range], fun H3 l s3 hl hv => ?_⟩
      exact qq H3 l (s2.trans s3) (s2.free hl) hv
end
end K09

set_option maxRecDepth 100000
set_option maxHeartbeats 8000000
namespace K09
open PySem PySem.Spec PyProof.Rows L2 GR
/-- the want of night k + 1 -/
def dF (days : List Int) (k : Nat) : Int := days.getD k 0
/-- how many of ps have come by night k + 1 -/
def hhF (starts ps : List Int) (k : Nat) : Int := hereP starts ps ((k : Nat) + 1)
def xF (gap : Nat) (days starts ps : List Int) : Nat → Int := fcx gap (dF days) (hhF starts ps)
def gF (gap : Nat) (days starts ps : List Int) (person : Int) : Nat → Int := grx gap (starts.getD person.toNat 0).toNat (dF days) (xF gap days starts ps)
theorem take_eq (gap : Nat) (days starts ps : List Int) : takeG gap [] days (herePs starts ps days.length) = (List.range days.length).map (xF gap days starts ps) := by
  refine takeG_is (by rw [herePs, List.length_map, List.length_range]) fun k hk => ?_
  have := fcx_is gap (dF days) (hhF starts ps) k
  have e : (herePs starts ps days.length).getD k 0 = hhF starts ps k := by
    rw [herePs, List.getD_eq_getElem?_getD, List.getElem?_map, List.getElem?_range hk]
    rfl
  rw [e]
  exact this
theorem take_run {gap : Nat} {days starts ps acc : List Int} {i : Nat} (hi : i < days.length) : takeG gap ((List.range i).map (xF gap days starts ps)) (days.drop i) ((herePs starts ps days.length).drop i) = takeG gap ((List.range (i + 1)).map (xF gap days starts ps)) (days.drop (i + 1)) ((herePs starts ps days.length).drop (i + 1)) := by
  have e : (herePs starts ps days.length)[i]? = some (hhF starts ps i) := by
    rw [herePs, List.getElem?_map, List.getElem?_range hi]; rfl
  rw [takeG_go (List.getElem?_eq_getElem hi) e, List.range_succ, List.map_append, List.map_singleton]
  have := fcx_is gap (dF days) (hhF starts ps) i
  unfold win at this
  rw [show xF gap days starts ps i = fcx gap (dF days) (hhF starts ps) i from rfl, this, List.length_map, List.length_range]
  have d : dF days i = days[i] := by unfold dF; rw [List.getD_eq_getElem?_getD, List.getElem?_eq_getElem hi]; rfl
  rw [d]
  rfl
section
variable {w : World} {K : PySem.W.Frag} {mg : Str → Option Value} {base : Heap}
def spFirst (K : PySem.W.Frag) : Sp := fun vs H Q _ => ∃ (d s pe : Addr) (days starts ps : List Int) (gap : Nat), vs = [.ref d, .ref s, .int (gap : Nat), .ref pe] ∧ SqL K H d (days.map V.int) ∧ SqL K H s (starts.map V.int) ∧ SqL K H pe (ps.map V.int) ∧ days.length ≤ 60 ∧ ps.length ≤ 1000 ∧ (∀ p ∈ ps, 0 ≤ p ∧ p < starts.length) ∧
  ∀ H' l, Same H H' → H l = none → H' l = some (.lst (((List.range days.length).map (xF gap days starts ps)).map V.int)) → Q (.ref l) H'
theorem ok_law_first (T : Tx K mg) : Ok PG w K mg base CX0 2 (a_law_first K) p_law_first (spFirst K) := by
  refine Ok.of 1 T.f_law_first sc_law_first bi_law_first (by decide) (fun vs H Q E h => ?_) (fun cdv A outer s H vs Q E hr h => ?_)
  · obtain ⟨_, _, _, _, _, _, _, rfl, _⟩ := h
    rfl
  · obtain ⟨d, s', pe, days, starts, ps, gap, rfl, hd, hs, hp, ld, ls, hin, q⟩ := h
    have nd := sc_law_first.nd
    refine ⟨_, pss_cons (ps_set (i := 4) nd rfl (.inl rfl) (pe_lst pa_nil))
      (pss_cons (ps_for (passX rfl) rfl (pi_range1 rfl T.m_range (pa_cons (pe_callB call_len_seq (by rfl) T.m_len PySem.boot_len (pa_cons (pv 0) pa_nil)) pa_nil)) (pg_name (i := 5) nd rfl (.inr rfl))
        (pss_cons (ps_set (i := 6) nd rfl (.inl rfl) (pe_callB call_len_seq (by rfl) T.m_len PySem.boot_len (pa_cons (pe_lc (own := [("person", 7)]) (g := gName 7) rfl nd (pi_list (pv 3)) (blkOk_by (N := n_law_first) (sc := defScope s_law_first) (by decide +kernel)) (fun _ _ _ _ _ => pg_name (i := 7) nd rfl (Or.inl rfl)) (fun _ _ _ _ _ => pts_one (pt_cmpR op_le (pe_ix (r := rIxL K) (ta := tVar 1) (tb := tVar 7) ix_list (pv 1) (pv 7) (fun _ _ => rfl)) (pe_op op_add (pv 5) pe_int) (nomark _))) (fun _ _ _ _ _ => pv 7)) pa_nil)))
          (pss_one (ps_expr (pe_bm PySem.F.plainAttrs_list PySem.F.slot_list_append PySem.F.type_list_append mt_append (pv 4) (pa_cons (pe_callB (call_min2 rfl) (by rfl) T.m_min (by decide +kernel) (pa_cons (pe_ix ix_list (pv 0) (pv 5) (fun _ _ => rfl)) (pa_cons (pe_op op_sub (pv 6) (pe_callB (cr_sum rfl) (by rfl) T.m_sum (by decide +kernel) (pa_cons (pe_slice sl_list (pv 4) (po_some (pe_callB (call_max2 rfl) (by rfl) T.m_max (by decide +kernel) (pa_cons pe_int (pa_cons (pe_op op_sub (pv 5) (pv 2)) pa_nil)))) (po_some (pv 5))) pa_nil))) pa_nil))) pa_nil))))))
      (pss_one (ps_ret (pv 4)))), ?_⟩
    refine ⟨by show 0 ≤ sizeLine; decide, fun L hL => ?_⟩
    have s0 : Same H (upd H L (.lst [])) := .new hL
    refine ⟨_, rfl, d, _, rfl, .inl (s0.seq hd), _, rfl, by omega, by rw [List.length_map]; omega, ?_⟩
    refine for_range (lo := 0) (n := (days.map V.int).length) (fun i σ H' => ∃ x5 x6 x7, σ = [some (.ref d), some (.ref s'), some (.int (gap : Nat)), some (.ref pe), some (.ref L), x5, x6, x7] ∧ Same H H' ∧ H' L = some (.lst (((List.range i).map (xF gap days starts ps)).map V.int))) ⟨_, _, _, rfl, s0, upd_same⟩ ?_ ?_
    · rintro i σ H1 hi ⟨x5, x6, x7, rfl, sm, hl⟩
      rw [List.length_map] at hi
      rw [Int.zero_add]
      refine ⟨_, rfl, pe, rfl, ⟨_, sm.seq hp⟩, fun F hF => ?_⟩
      refine lc_list (xs := ps.map V.int) (fun j H2 => Same H1 H2 ∧ H2 F = some (.lst (((ps.take j).filter fun p => decide (starts.getD p.toNat 0 ≤ (i : Nat) + 1)).map V.int))) ⟨.new hF, upd_same⟩ (fun j H2 _ z => (sm.trans z.1).seq hp) (fun j x H2 hx z => ?_) (fun H2 z => ?_)
      · obtain ⟨p, hn, rfl⟩ := map_get hx
        obtain ⟨s2, h2⟩ := z
        have tk : ps.take (j + 1) = ps.take j ++ [p] := by rw [List.take_succ, hn]; rfl
        obtain ⟨p0, p1⟩ := hin p (List.mem_of_getElem? hn)
        obtain ⟨k, rfl⟩ : ∃ k : Nat, p = (k : Nat) := ⟨p.toNat, by omega⟩
        have hk : k < starts.length := by omega
        have hm : (starts.map V.int)[k]? = some (V.int (starts.getD k 0)) := by rw [List.getElem?_map, List.getD_eq_getElem?_getD, List.getElem?_eq_getElem hk]; rfl
        refine ⟨rfl, _, rfl, _, rfl, s', _, _, _, rfl, rfl, (sm.trans s2).seq hs, atI_nat hm, _, rfl, _, _, rfl, rfl, _, _, rfl, rfl, _, rfl, ite2 (fun c => ?_) (fun c => ?_)⟩
        · refine ⟨_, rfl, _, h2, ?_, fun b o eb => ?_, ?_⟩
          · rw [List.length_map, sizeLine_eq]
            have := List.length_filter_le (fun p : Int => decide (starts.getD p.toNat 0 ≤ (i : Nat) + 1)) (ps.take j)
            rw [List.length_take] at this
            omega
          · rw [upd_ne (fun z => by rw [z, hF] at eb; cases eb)]
            exact s2 _ _ eb
          · rw [upd_same, tk, List.filter_append, List.filter_cons_of_pos (by exact c), List.filter_nil, List.map_append]; rfl
        · refine ⟨s2, ?_⟩
          rw [tk, List.filter_append, List.filter_cons_of_neg (by exact c), List.filter_nil, List.append_nil]
          exact h2
      · obtain ⟨s2, h2⟩ := z
        rw [List.length_map, List.take_length] at h2
        refine ⟨F, _, rfl, .inl (SqL.of h2), ?_⟩
        rw [List.length_map]
        have s12 := sm.trans s2
        have hl2 := s2 _ _ hl
        have hw : (days.map V.int)[i]? = some (V.int days[i]) := by rw [List.getElem?_map, List.getElem?_eq_getElem hi]; rfl
        refine ⟨_, rfl, .inl ⟨rfl, _, SqL.of hl2⟩, _, rfl, _, rfl, d, _, _, _, rfl, rfl, s12.seq hd, atI_nat hw, _, rfl, _, rfl, ?_⟩
        refine ⟨_, rfl, _, rfl, _, _, rfl, rfl, _, _, rfl, _, rfl, _, rfl, _, rfl, L, _, rfl, SqL.of hl2, fun u hu => ?_⟩
        have lx : ((List.range i).map (xF gap days starts ps)).length = i := by rw [List.length_map, List.length_range]
        have ej : (if (i : Nat) - ((gap : Nat) : Int) > 0 then (i : Nat) - ((gap : Nat) : Int) else 0) = ((i - gap : Nat) : Int) := by split <;> omega
        have ec : cutV (((List.range i).map (xF gap days starts ps)).map V.int) (some (if (i : Nat) - ((gap : Nat) : Int) > 0 then (i : Nat) - ((gap : Nat) : Int) else 0)) (some ((i : Nat) : Int)) = (((List.range i).map (xF gap days starts ps)).drop (i - gap)).map V.int := by
          have := cutEnd (((List.range i).map (xF gap days starts ps)).map V.int) (i - gap)
          rw [List.length_map, lx] at this
          rw [ej, this, List.map_drop]
        rw [ec]
        have s3 : Same H2 (upd H2 u (.lst ((((List.range i).map (xF gap days starts ps)).drop (i - gap)).map V.int))) := .new hu
        refine ⟨u, _, rfl, SqL.of upd_same, _, _, rfl, rfl, _, _, rfl, L, _, _, rfl, rfl, s3 _ _ hl2, ?_, ?_⟩
        · rw [List.length_map, lx, sizeLine_eq]; omega
        · refine ⟨_, _, _, rfl, fun b o eb => ?_, ?_⟩
          · rw [upd_ne (fun z => by rw [z, hL] at eb; cases eb)]
            exact s3 _ _ (s12 _ _ eb)
          · rw [upd_same, List.range_succ, List.map_append, List.map_append]
            have := fcx_is gap (dF days) (hhF starts ps) i
            have d : dF days i = days[i] := by unfold dF; rw [List.getD_eq_getElem?_getD, List.getElem?_eq_getElem hi]; rfl
            rw [d] at this
            rw [show List.map (xF gap days starts ps) [i] = [fcx gap (dF days) (hhF starts ps) i] from rfl, this]
            rfl
    · rintro σ H1 ⟨x5, x6, x7, rfl, sm, hl⟩
      rw [List.length_map] at hl
      exact ⟨_, rfl, q H1 L sm hL hl⟩
end
end K09

set_option maxRecDepth 100000
set_option maxHeartbeats 8000000
namespace K09
open PySem PySem.Spec PyProof.Rows L2 GR
theorem sub_room {days : List Int} {x : Nat → Int} {i : Nat} {a b : V} (h1 : (days.map V.int)[i]? = some a) (h2 : (((List.range days.length).map x).map V.int)[i]? = some b) : a = .int (dF days i) ∧ b = .int (x i) := by
  obtain ⟨n, hn, rfl⟩ := map_get h1
  obtain ⟨m, hm, rfl⟩ := map_get h2
  obtain ⟨hi, rfl⟩ := List.getElem?_eq_some_iff.mp hn
  rw [List.getElem?_map, List.getElem?_range hi] at hm
  cases hm
  exact ⟨by unfold dF; rw [List.getD_eq_getElem?_getD, List.getElem?_eq_getElem hi]; rfl, rfl⟩
section
variable {w : World} {K : PySem.W.Frag} {mg : Str → Option Value} {base : Heap}
def roomL (gap : Nat) (days starts ps : List Int) : List Int := (List.range days.length).map fun k => dF days k - xF gap days starts ps k
def spRoom (K : PySem.W.Frag) : Sp := fun vs H Q E => ∃ (h a : Addr) (days starts ps : List Int) (gap : Nat), vs = [.ref h, .ref a] ∧ IsH K H h days starts (gap : Nat) ∧ SqL K H a (ps.map V.int) ∧
  (∀ e, badP starts.length [] ps = some (false, e) → Rs (c_NoPerson K) (xP e) H E) ∧ (∀ e, badP starts.length [] ps = some (true, e) → Rs (c_NamedTwice K) (xP e) H E) ∧
  (badP starts.length [] ps = none → ps.length ≤ 1000 ∧ ∀ H' l, Same H H' → H l = none → H' l = some (.lst ((roomL gap days starts ps).map V.int)) → Q (.ref l) H')
theorem ok_room_left (T : Tx K mg) : Ok PG w K mg base (L2.CX PG w) 7 (a_room_left K) p_room_left (spRoom K) := by
  refine Ok.of 6 T.f_room_left sc_room_left bi_room_left (by decide) (fun vs H Q E h => ?_) (fun cdv A outer s H vs Q E hr h => ?_)
  · obtain ⟨_, _, _, _, _, _, rfl, _⟩ := h
    rfl
  · obtain ⟨h, a, days, starts, ps, gap, rfl, hh, ha, e1, e2, q⟩ := h
    obtain ⟨dx, wp, t, h1, h2, h3, l1, l2⟩ := id hh
    have nd := sc_room_left.nd
    refine ⟨_, pss_one (ps_ret (pe_lc (own := [("want", 2), ("taken", 3)]) (g := gTup K 2 (gCons (gName 2) (gCons (gName 3) gNil))) (tt := tYes) rfl nd (pi_zipO (it_Wants T) hr T.m_zip (pa_cons (pe_fld (pv 0) rfl) (pa_cons (pc (ok_first_choice T) hr T.g_first_choice px (pa_cons (pv 0) (pa_cons (pv 1) pa_nil))) pa_nil))) (blkOk_by (N := n_room_left) (sc := defScope s_room_left) (by decide +kernel)) (fun _ _ _ _ _ => pg_tup rfl (pgs_cons (pg_name (i := 2) nd rfl (Or.inl rfl)) (pgs_cons (pg_name (i := 3) nd rfl (Or.inl rfl)) pgs_nil))) (fun _ _ _ _ _ => pts_nil) (fun _ _ _ _ _ => pe_op op_sub (pv 2) (pv 3)))), ?_⟩
    refine ⟨_, rfl, h, _, dx, _, _, rfl, h1, T.cHouse, T.nHouse_wants, rfl, _, rfl, _, rfl, h, a, days, starts, ps, gap, rfl, hh, ha, e1, e2, fun eb => ⟨(q eb).1, fun H1 l s1 hl hv => ?_⟩⟩
    obtain ⟨dw, u, w1, w2⟩ := id h2
    rw [take_eq] at hv
    refine ⟨wp, l, dw, _, u, _, _, rfl, s1 _ _ w1, rfl, s1.seqT w2, SqL.of hv, fun D hD => ?_⟩
    refine lc_it (walk_zipO (xs := days.map V.int) (ys := ((List.range days.length).map (xF gap days starts ps)).map V.int)) (fun i H' => Same H1 H' ∧ H' D = some (.lst (((List.range i).map fun k => dF days k - xF gap days starts ps k).map V.int))) ⟨.new hD, upd_same⟩ (fun i H' _ p => ⟨p.1.seqT (s1.seqT w2), p.1.seq (SqL.of hv)⟩) (fun i x H' H2 hi p y => ?_) (fun H' p => ?_)
    · obtain ⟨sm, hd⟩ := p
      obtain ⟨T', x', y', rfl, hT, rfl, f1, f2⟩ := y
      obtain ⟨rfl, rfl⟩ := sub_room f1 f2
      rw [List.length_map, List.length_map, List.length_map, List.length_range, Nat.min_self] at hi
      have dT : D ≠ T' := fun z => by rw [z, hT] at hd; cases hd
      refine ⟨T', _, rfl, SqT.of upd_same, rfl, _, _, rfl, _, _, rfl, rfl, rfl, yesT ⟨_, rfl, _, rfl, _, _, rfl, rfl, _, by rw [upd_ne dT]; exact hd, ?_, fun b o eb => ?_, ?_⟩⟩
      · rw [List.length_map, List.length_map, List.length_range, sizeLine_eq]; omega
      · rw [upd_ne (fun z => by rw [z, hD] at eb; cases eb), upd_ne (fun z => by rw [z] at eb; have := sm _ _ eb; rw [hT] at this; cases this)]
        exact sm _ _ eb
      · rw [upd_same, List.range_succ, List.map_append, List.map_append]; rfl
    · obtain ⟨sm, hd⟩ := p
      rw [List.length_map, List.length_map, List.length_map, List.length_range, Nat.min_self] at hd
      exact (q eb).2 H' D (s1.trans sm) (s1.free hD) hd
def spNights (K : PySem.W.Frag) : Sp := fun vs H Q _ => ∃ (h a : Addr) (days starts : List Int) (x : Nat → Int) (person gap c : Nat), vs = [.ref h, .ref a, .int (person : Nat)] ∧ IsH K H h days starts (gap : Nat) ∧ SqL K H a (((List.range days.length).map fun k => dF days k - x k).map V.int) ∧ person < starts.length ∧ starts.getD person 0 = (c : Nat) ∧ 1 ≤ c ∧ c ≤ days.length + 1 ∧
  ∀ H' l, Same H H' → H l = none → H' l = some (.lst ((ngh (grx gap c (dF days) x) days.length).map V.int)) → Q (.ref l) H'
theorem ok_nights_with_room (T : Tx K mg) : Ok PG w K mg base CX0 6 (a_nights_with_room K) p_nights_with_room (spNights K) := by
  refine Ok.of 5 T.f_nights_with_room sc_nights_with_room bi_nights_with_room (by decide) (fun vs H Q E h => ?_) (fun cdv A outer s H vs Q E hr h => ?_)
  · obtain ⟨_, _, _, _, _, _, _, _, rfl, _⟩ := h
    rfl
  · obtain ⟨h, a, days, starts, x, person, gap, c, rfl, hh, ha, lp, ec, c1, c2, q⟩ := h
    obtain ⟨dx, wp, t, h1, h2, h3, l1, l2⟩ := id hh
    have nd := sc_nights_with_room.nd
    refine ⟨_, pss_cons (ps_set (i := 3) nd rfl (.inl rfl) (pe_lst pa_nil))
      (pss_cons (ps_for (passX rfl) rfl (pi_range2 rfl T.m_range (pa_cons (pe_ix ix_tup (pe_fld (pv 0) rfl) (pv 2) (fun _ _ => rfl)) (pa_cons (pe_op op_add (pprop (ok_House_nights T) (pv 0) T.cHouse T.wHouse_nights hr pass0) pe_int) pa_nil))) (pg_name (i := 4) nd rfl (.inl rfl))
        (pss_cons (ps_set (i := 5) nd rfl (.inl rfl) (pe_or (pe_notT (pv 3)) (pe_one (pe_cmpR op_gt (pe_op op_sub (pv 4) (pe_ix ix_list (pv 3) (pe_un un_neg pe_int) (fun _ _ => rfl))) (pe_fld (pv 0) rfl) (nomark _)))))
          (pss_one (ps_if (PW.pt (pw_and (pt_val (pv 5)) (pw_and1 (pt_cmpR op_gt (pe_ix ix_list (pv 1) (pe_op op_sub (pv 4) pe_int) (fun _ _ => rfl)) pe_int (nomark _))))) (pss_one (ps_expr (pe_bm PySem.F.plainAttrs_list PySem.F.slot_list_append PySem.F.type_list_append mt_append (pv 3) (pa_cons (pv 4) pa_nil)))) pss_nil))))
      (pss_one (ps_ret (pv 3)))), ?_⟩
    refine ⟨by show 0 ≤ sizeLine; decide, fun L hL => ?_⟩
    have s0 : Same H (upd H L (.lst [])) := .new hL
    have hm : (starts.map V.int)[person]? = some (V.int (c : Nat)) := by rw [← ec, List.getElem?_map, List.getD_eq_getElem?_getD, List.getElem?_eq_getElem lp]; rfl
    have G := grx_is gap c (dF days) x
    refine ⟨_, rfl, h, _, dx, _, _, rfl, s0 _ _ h1, T.cHouse, T.nHouse_comings, rfl, _, rfl, t, _, _, _, rfl, rfl, s0.seqT h3, atI_nat hm, ?_⟩
    refine ⟨_, rfl, h, dx, _, rfl, s0 _ _ h1, h, days, starts, _, rfl, hh.same s0, _, _, rfl, rfl, _, _, rfl, ⟨by omega, by omega, by omega, by omega⟩, ?_⟩
    have z0 : ngh (grx gap c (dF days) x) (c - 1) = [] := by
      have := ngh_len G.bit (c - 1)
      rw [G.early (by omega)] at this
      exact List.eq_nil_of_length_eq_zero (by omega)
    refine for_range (lo := (c : Nat)) (n := ((days.length : Int) + 1 - (c : Nat)).toNat) (fun i σ H' => ∃ x4 x5, σ = [some (.ref h), some (.ref a), some (.int (person : Nat)), some (.ref L), x4, x5] ∧ Same H H' ∧ H' L = some (.lst ((ngh (grx gap c (dF days) x) (c - 1 + i)).map V.int))) ⟨_, _, rfl, s0, by rw [Nat.add_zero, z0]; exact upd_same⟩ ?_ ?_
    · rintro i σ H1 hi ⟨x4, x5, rfl, sm, hl⟩
      have hi : c - 1 + i < days.length := by omega
      generalize hk : c - 1 + i = k at hl hi
      rw [show ((c : Nat) : Int) + (i : Nat) = ((k + 1 : Nat) : Int) by omega]
      refine seqQ (fun σ' H' => ∃ b, σ' = [some (.ref h), some (.ref a), some (.int (person : Nat)), some (.ref L), some (.int ((k + 1 : Nat) : Int)), some (.bl b)] ∧ H' = H1 ∧ (b = true ↔ win (grx gap c (dF days) x) gap k = 0)) (fun σ' H' z => ?_) (fun next => ?_)
      · obtain ⟨b, rfl, rfl, hb⟩ := z
        have gk := G k
        have e1 : c - 1 + (i + 1) = k + 1 := by omega
        have no : ¬ (x k < dF days k ∧ win (grx gap c (dF days) x) gap k = 0) → ngh (grx gap c (dF days) x) (k + 1) = ngh (grx gap c (dF days) x) k := fun z => by
          have f0 : grx gap c (dF days) x k = 0 := by rw [gk, if_neg (fun y => z ⟨y.2.1, y.2.2⟩)]
          rw [ngh_succ, f0, if_neg (by decide), List.append_nil]
        refine ⟨_, rfl, _, rfl, ite2 (fun hb1 => ?_) (fun hb1 => ?_)⟩
        · have hk2 : (((List.range days.length).map fun k => dF days k - x k).map V.int)[k]? = some (V.int (dF days k - x k)) := by
            rw [List.getElem?_map, List.getElem?_map, List.getElem?_range hi]; rfl
          refine ⟨_, rfl, _, rfl, _, _, rfl, rfl, a, _, _, _, rfl, rfl, sm.seq ha, by rw [show ((k + 1 : Nat) : Int) - 1 = (k : Nat) by omega]; exact atI_nat hk2, _, _, rfl, rfl, _, rfl, ite2 (fun r1 => ?_) (fun r1 => ?_)⟩
          · have r1 := of_decide_eq_true r1
            refine ⟨_, rfl, .inl ⟨rfl, _, SqL.of hl⟩, _, rfl, L, _, _, rfl, rfl, hl, ?_, _, _, rfl, fun b o eb => ?_, ?_⟩
            · rw [List.length_map, sizeLine_eq]
              have := ngh_le (grx gap c (dF days) x) k
              omega
            · rw [upd_ne (fun z => by rw [z, hL] at eb; cases eb)]
              exact sm _ _ eb
            · have f1 : grx gap c (dF days) x k = 1 := by rw [gk, if_pos ⟨by omega, by omega, hb.1 hb1⟩]
              rw [upd_same, e1, ngh_succ, f1, if_pos rfl, List.map_append]
              rfl
          · refine ⟨_, _, rfl, sm, ?_⟩
            rw [e1, no (fun y => r1 (decide_eq_true (by omega)))]
            exact hl
        · refine ⟨_, _, rfl, sm, ?_⟩
          rw [e1, no (fun y => hb1 (hb.2 y.2))]
          exact hl
      · have nl := near_last G.bit (gap := gap) (k := k)
        refine ⟨_, rfl, _, .inl ⟨_, SqL.of hl, rfl⟩, _, rfl, ite2 (fun em => ?_) (fun em => ?_)⟩
        · refine next _ _ ⟨true, rfl, rfl, ⟨fun _ => nl.2 (.inl ?_), fun _ => rfl⟩⟩
          simpa using em
        · have ne : ngh (grx gap c (dF days) x) k ≠ [] := by simpa using em
          obtain ⟨l, g1, g2, g3⟩ := ngh_last _ _ ne
          refine ⟨_, rfl, _, rfl, _, rfl, L, _, _, _, rfl, rfl, SqL.of hl, atI_neg1 (by rw [List.length_map, List.getElem?_map, g1]; rfl), _, _, rfl, rfl, _, rfl, h, _, dx, _, _, rfl, sm _ _ h1, T.cHouse, T.nHouse_rest, rfl, _, _, rfl, rfl, ?_⟩
          refine next _ _ ⟨_, rfl, rfl, ?_⟩
          rw [decide_eq_true_iff, nl]
          constructor
          · intro z
            exact .inr fun l' e => by rw [g1] at e; cases e; omega
          · rintro (z | z)
            · exact absurd z ne
            · have := z l g1; omega
    · rintro σ H1 ⟨x4, x5, rfl, sm, hl⟩
      rw [show c - 1 + ((days.length : Int) + 1 - (c : Nat)).toNat = days.length by omega] at hl
      exact ⟨_, rfl, q H1 L sm hL hl⟩
end
end K09

set_option maxRecDepth 100000
set_option maxHeartbeats 8000000
namespace K09
open PySem PySem.Spec PyProof.Rows L2 GR
section
variable {w : World} {K : PySem.W.Frag} {mg : Str → Option Value} {base : Heap}
def spGrow (K : PySem.W.Frag) : Sp := fun vs H Q E => ∃ (h a : Addr) (days starts ps : List Int) (gap : Nat) (person : Int), vs = [.ref h, .ref a, .int person] ∧ IsH K H h days starts (gap : Nat) ∧ SqL K H a (ps.map V.int) ∧ ps.length ≤ 1000 ∧ (∀ x ∈ starts, 1 ≤ x ∧ x ≤ (days.length : Int) + 1) ∧
  (∀ e, badP starts.length [] ps = some (false, e) → Rs (c_NoPerson K) (xP e) H E) ∧ (∀ e, badP starts.length [] ps = some (true, e) → Rs (c_NamedTwice K) (xP e) H E) ∧
  (badP starts.length [] ps = none → ¬ (0 ≤ person ∧ person < starts.length) → Rs (c_NoPerson K) (xP person) H E) ∧ (badP starts.length [] ps = none → 0 ≤ person ∧ person < starts.length → person ∈ ps → Rs (c_NamedTwice K) (xP person) H E) ∧
  (badP starts.length [] ps = none → 0 ≤ person ∧ person < starts.length → person ∉ ps → ∀ H' l, Same H H' → H l = none → H' l = some (.lst ((ngh (gF gap days starts ps person) days.length).map V.int)) → Q (.ref l) H')
theorem ok_growth (T : Tx K mg) : Ok PG w K mg base (L2.CX PG w) 8 (a_growth K) p_growth (spGrow K) := by
  refine Ok.of 7 T.f_growth sc_growth bi_growth (by decide) (fun vs H Q E h => ?_) (fun cdv A outer s H vs Q E hr h => ?_)
  · obtain ⟨_, _, _, _, _, _, _, rfl, _⟩ := h
    rfl
  · obtain ⟨h, a, days, starts, ps, gap, person, rfl, hh, ha, lp, bs, e1, e2, e3, e4, q⟩ := h
    have nd := sc_growth.nd
    refine ⟨_, pss_cons (ps_set (i := 3) nd rfl (.inl rfl) (pc (ok_room_left T) hr T.g_room_left px (pa_cons (pv 0) (pa_cons (pv 1) pa_nil))))
      (pss_cons (ps_expr (pc (ok_check_person T) (hr.mono (by decide)) T.g_check_person px (pa_cons (pv 0) (pa_cons (pv 2) pa_nil))))
      (pss_cons (ps_if (pt_cmpR op_in_seq (pv 2) (pv 1) (by rfl)) (pss_one (ps_raiseX rfl T.e_NamedTwice (by decide) (by decide) hr (takes_of rfl rfl rfl rfl) rfl (pa_cons (pv 2) pa_nil))) pss_nil)
      (pss_one (ps_ret (pc (ok_nights_with_room T) (hr.mono (by decide)) T.g_nights_with_room pass0 (pa_cons (pv 0) (pa_cons (pv 3) (pa_cons (pv 2) pa_nil)))))))), ?_⟩
    refine ⟨_, rfl, _, rfl, h, a, days, starts, ps, gap, rfl, hh, ha, e1, e2, fun eb => ⟨lp, fun H1 l s1 hl hv => ?_⟩⟩
    refine ⟨_, rfl, _, rfl, h, days, starts, _, person, rfl, hh.same s1, fun c => (e3 eb c).same s1, fun c => ?_⟩
    refine ⟨_, rfl, _, rfl, a, _, rfl, .inl (s1.seq ha), rfl, flat_ints _, _, rfl, ite2 (fun m => ?_) (fun m => ?_)⟩
    · rw [inV_ints] at m
      exact ⟨_, rfl, rfl, fun z hz => (e4 eb c (of_decide_eq_true m)) _ z s1 hz⟩
    · rw [inV_ints] at m
      have m : person ∉ ps := by simpa using m
      obtain ⟨p, rfl⟩ : ∃ p : Nat, person = (p : Nat) := ⟨person.toNat, by omega⟩
      have hp : p < starts.length := by omega
      have bc := bs _ (List.getElem_mem hp)
      obtain ⟨c', hc'⟩ : ∃ c' : Nat, starts[p] = (c' : Nat) := ⟨starts[p].toNat, by omega⟩
      have eg : starts.getD p 0 = (c' : Nat) := by rw [List.getD_eq_getElem?_getD, List.getElem?_eq_getElem hp]; exact hc'
      have eF : gF gap days starts ps ((p : Nat) : Int) = grx gap c' (dF days) (xF gap days starts ps) := by
        unfold gF
        rw [Int.toNat_natCast, eg, Int.toNat_natCast]
      refine ⟨_, rfl, _, rfl, _, rfl, h, l, days, starts, xF gap days starts ps, p, gap, c', rfl, hh.same s1, SqL.of hv, hp, eg, by omega, by omega, fun H2 l2 s2 hl2 hv2 => ?_⟩
      rw [← eF] at hv2
      exact q eb c m H2 l2 (s1.trans s2) (s1.free hl2) hv2
/-- a list of days, starts and the rest as the law keeps it -/
def Part (K : PySem.W.Frag) (H : Hp) (p : Addr) (days starts : List Int) (gap : Nat) : Prop := ∃ d s : Addr, SqL K H p [.ref d, .ref s, .int (gap : Nat)] ∧ SqL K H d (days.map V.int) ∧ SqL K H s (starts.map V.int)
theorem Part.same {H H' : Hp} {p : Addr} {days starts : List Int} {gap : Nat} (h : Part K H p days starts gap) (s : Same H H') : Part K H' p days starts gap := let ⟨d, t, a, b, c⟩ := h; ⟨d, t, s.seq a, s.seq b, s.seq c⟩
def spLGrow (K : PySem.W.Frag) : Sp := fun vs H Q _ => ∃ (p a : Addr) (days starts ps : List Int) (gap person : Nat), vs = [.ref p, .ref a, .int (person : Nat)] ∧ Part K H p days starts gap ∧ SqL K H a (ps.map V.int) ∧ days.length ≤ 60 ∧ ps.length ≤ 1000 ∧ (∀ p ∈ ps, 0 ≤ p ∧ p < starts.length) ∧ person < starts.length ∧ (∀ x ∈ starts, 1 ≤ x ∧ x ≤ (days.length : Int) + 1) ∧
  ∀ H' l, Same H H' → H l = none → H' l = some (.lst ((ngh (gF gap days starts ps (person : Nat)) days.length).map V.int)) → Q (.ref l) H'
theorem ok_law_growth (T : Tx K mg) : Ok PG w K mg base CX0 3 (a_law_growth K) p_law_growth (spLGrow K) := by
  refine Ok.of 2 T.f_law_growth sc_law_growth bi_law_growth (by decide) (fun vs H Q E h => ?_) (fun cdv A outer s H vs Q E hr h => ?_)
  · obtain ⟨_, _, _, _, _, _, _, rfl, _⟩ := h
    rfl
  · obtain ⟨p, a, days, starts, ps, gap, person, rfl, hP, ha, ld, lp, hin, hpe, bs, q⟩ := h
    obtain ⟨d, t, g1, g2, g3⟩ := id hP
    have nd := sc_law_growth.nd
    refine ⟨_, pss_cons (ps_set (i := 3) nd rfl (.inl rfl) (pc (ok_law_first T) hr T.g_law_first pass0 (pa_cons (pe_ix ix_list (pv 0) pe_int (fun _ _ => rfl)) (pa_cons (pe_ix ix_list (pv 0) pe_int (fun _ _ => rfl)) (pa_cons (pe_ix ix_list (pv 0) pe_int (fun _ _ => rfl)) (pa_cons (pv 1) pa_nil))))))
      (pss_cons (ps_set (i := 4) nd rfl (.inl rfl) (pe_lst pa_nil))
      (pss_cons (ps_for (passX rfl) rfl (pi_range2 rfl T.m_range (pa_cons pe_int (pa_cons (pe_op op_add (pe_callB call_len_seq (by rfl) T.m_len PySem.boot_len (pa_cons (pv 3) pa_nil)) pe_int) pa_nil))) (pg_name (i := 5) nd rfl (.inr rfl))
        (pss_cons (ps_setLc (i := 6) (own := [("earlier", 7)]) (g := gName 7) rfl nd rfl rfl (sw_true rfl rfl rfl (by decide +kernel)) (pi_list (pv 4)) (blkOk_by (N := n_law_growth) (sc := defScope s_law_growth) (by decide +kernel)) (fun _ _ _ _ _ => pg_name (i := 7) nd rfl (Or.inl rfl)) (fun _ _ _ _ _ => pts_one (pt_cmpR op_le (pe_op op_sub (pv 5) (pv 7)) (pe_ix (r := rIxL K) (ta := tVar 0) (tb := tC (V.int 2)) ix_list (pv 0) pe_int (fun _ _ => rfl)) (nomark _))) (fun _ _ _ _ _ => pv 7))
          (pss_one (ps_if (PW.pt (pw_and (pt_cmpR op_le (pe_ix ix_list (pe_ix ix_list (pv 0) pe_int (fun _ _ => rfl)) (pv 2) (fun _ _ => rfl)) (pv 5) (nomark _)) (pw_and (pt_cmpR op_lt (pe_ix ix_list (pv 3) (pe_op op_sub (pv 5) pe_int) (fun _ _ => rfl)) (pe_ix ix_list (pe_ix ix_list (pv 0) pe_int (fun _ _ => rfl)) (pe_op op_sub (pv 5) pe_int) (fun _ _ => rfl)) (nomark _)) (pw_and1 (pt_cmpR op_eq (pe_callB call_len_seq (by rfl) T.m_len PySem.boot_len (pa_cons (pv 6) pa_nil)) pe_int (nomark _)))))) (pss_one (ps_expr (pe_bm PySem.F.plainAttrs_list PySem.F.slot_list_append PySem.F.type_list_append mt_append (pv 4) (pa_cons (pv 5) pa_nil)))) pss_nil))))
      (pss_one (ps_ret (pv 4))))), ?_⟩
    refine ⟨_, rfl, p, _, _, _, rfl, rfl, g1, rfl, _, rfl, p, _, _, _, rfl, rfl, g1, rfl, _, rfl, p, _, _, _, rfl, rfl, g1, rfl, _, rfl, d, t, a, days, starts, ps, gap, rfl, g2, g3, ha, ld, lp, hin, fun H1 xL s1 hx0 hx => ?_⟩
    have bc := bs _ (List.getElem_mem hpe)
    obtain ⟨c, hc⟩ : ∃ c : Nat, starts[person] = (c : Nat) := ⟨starts[person].toNat, by omega⟩
    have eg : starts.getD person 0 = (c : Nat) := by rw [List.getD_eq_getElem?_getD, List.getElem?_eq_getElem hpe]; exact hc
    have eF : gF gap days starts ps ((person : Nat) : Int) = grx gap c (dF days) (xF gap days starts ps) := by
      unfold gF
      rw [Int.toNat_natCast, eg, Int.toNat_natCast]
    rw [eF] at q
    have hm : (starts.map V.int)[person]? = some (V.int (c : Nat)) := by rw [← hc, List.getElem?_map, List.getElem?_eq_getElem hpe]; rfl
    have G := grx_is gap c (dF days) (xF gap days starts ps)
    refine ⟨by show 0 ≤ sizeLine; decide, fun L hL => ?_⟩
    have sL' : Same H1 (upd H1 L (.lst [])) := .new hL
    have s0 := s1.trans sL'
    have lx : ((((List.range days.length).map (xF gap days starts ps)).map V.int).length : Int) = days.length := by simp
    refine ⟨_, rfl, xL, _, rfl, .inl (SqL.of (sL' _ _ hx)), _, _, rfl, rfl, _, _, rfl, ⟨by omega, by omega, by omega, by omega⟩, ?_⟩
    have nLx : xL ≠ L := fun z => by rw [z, hL] at hx; cases hx
    refine for_range (lo := 1) (n := (((((List.range days.length).map (xF gap days starts ps)).map V.int).length : Int) + 1 - 1).toNat) (fun i σ H' => ∃ x5 x6 x7, σ = [some (.ref p), some (.ref a), some (.int (person : Nat)), some (.ref xL), some (.ref L), x5, x6, x7] ∧ Same H1 H' ∧ H' L = some (.lst ((ngh (grx gap c (dF days) (xF gap days starts ps)) i).map V.int))) ⟨_, _, _, rfl, sL', upd_same⟩ ?_ ?_
    · rintro i σ H2 hi ⟨x5, x6, x7, rfl, sm, hl⟩
      have hi : i < days.length := by omega
      have s2 := s1.trans sm
      refine ⟨_, rfl, L, rfl, ⟨_, SqL.of hl⟩, fun D hD => ?_⟩
      refine lc_list (xs := (ngh (grx gap c (dF days) (xF gap days starts ps)) i).map V.int) (fun j H3 => Same H2 H3 ∧ H3 D = some (.lst ((((ngh (grx gap c (dF days) (xF gap days starts ps)) i).take j).filter fun e => decide (1 + ((i : Nat) : Int) - e ≤ (gap : Nat))).map V.int))) ⟨.new hD, upd_same⟩ (fun j H3 _ z => SqL.of (z.1 _ _ hl)) (fun j x H3 hx z => ?_) (fun H3 z => ?_)
      · obtain ⟨e, he, rfl⟩ := map_get hx
        obtain ⟨s3, h3⟩ := z
        have tk : (ngh (grx gap c (dF days) (xF gap days starts ps)) i).take (j + 1) = (ngh (grx gap c (dF days) (xF gap days starts ps)) i).take j ++ [e] := by rw [List.take_succ, he]; rfl
        refine ⟨rfl, _, rfl, _, rfl, _, _, rfl, rfl, _, rfl, p, _, _, _, rfl, rfl, (s2.trans s3).seq g1, rfl, _, _, rfl, rfl, _, rfl, ite2 (fun cc => ?_) (fun cc => ?_)⟩
        · refine ⟨_, rfl, _, h3, ?_, fun b o eb => ?_, ?_⟩
          · rw [List.length_map, sizeLine_eq]
            have h1 := List.length_filter_le (fun e => decide (1 + ((i : Nat) : Int) - e ≤ (gap : Nat))) ((ngh (grx gap c (dF days) (xF gap days starts ps)) i).take j)
            rw [List.length_take] at h1
            have := ngh_le (grx gap c (dF days) (xF gap days starts ps)) i
            omega
          · rw [upd_ne (fun z => by rw [z, hD] at eb; cases eb)]
            exact s3 _ _ eb
          · rw [upd_same, tk, List.filter_append, List.filter_cons_of_pos (by exact cc), List.filter_nil, List.map_append]; rfl
        · refine ⟨s3, ?_⟩
          rw [tk, List.filter_append, List.filter_cons_of_neg (by exact cc), List.filter_nil, List.append_nil]
          exact h3
      · obtain ⟨s3, h3⟩ := z
        rw [List.length_map, List.take_length] at h3
        have sm3 := sm.trans s3
        have s4 := s1.trans sm3
        have hl3 := s3 _ _ hl
        have gk := G i
        have nw := near_win G.bit (gap := gap) (k := i)
        have no : ¬ (c ≤ i + 1 ∧ xF gap days starts ps i < dF days i ∧ win (grx gap c (dF days) (xF gap days starts ps)) gap i = 0) → ngh (grx gap c (dF days) (xF gap days starts ps)) (i + 1) = ngh (grx gap c (dF days) (xF gap days starts ps)) i := fun z => by
          have f0 : grx gap c (dF days) (xF gap days starts ps) i = 0 := by rw [gk, if_neg z]
          rw [ngh_succ, f0, if_neg (by decide), List.append_nil]
        have go : ∀ z7 : Option V, ¬ (c ≤ i + 1 ∧ xF gap days starts ps i < dF days i ∧ win (grx gap c (dF days) (xF gap days starts ps)) gap i = 0) → ∃ y5 y6 y7 : Option V, [some (V.ref p), some (V.ref a), some (V.int ((person : Nat) : Int)), some (V.ref xL), some (V.ref L), some (V.int (1 + ((i : Nat) : Int))), some (V.ref D), z7] = [some (V.ref p), some (V.ref a), some (V.int ((person : Nat) : Int)), some (V.ref xL), some (V.ref L), y5, y6, y7] ∧ Same H1 H3 ∧ H3 L = some (.lst ((ngh (grx gap c (dF days) (xF gap days starts ps)) (i + 1)).map V.int)) := fun z7 z => ⟨_, _, _, rfl, sm3, by rw [no z]; exact hl3⟩
        have hx2 : (((List.range days.length).map (xF gap days starts ps)).map V.int)[i]? = some (V.int (xF gap days starts ps i)) := by
          rw [List.getElem?_map, List.getElem?_map, List.getElem?_range hi]; rfl
        have hd2 : (days.map V.int)[i]? = some (V.int (dF days i)) := by
          unfold dF
          rw [List.getElem?_map, List.getD_eq_getElem?_getD, List.getElem?_eq_getElem hi]; rfl
        have em : (1 : Int) + (i : Nat) - 1 = (i : Nat) := by omega
        refine ⟨_, rfl, p, _, _, _, rfl, rfl, s4.seq g1, rfl, _, rfl, t, _, _, _, rfl, rfl, s4.seq g3, atI_nat hm, _, rfl, _, _, rfl, rfl, _, rfl, ite2 (fun q1 => ?_) (fun q1 => ?_)⟩
        · have q1 := of_decide_eq_true q1
          refine ⟨_, rfl, _, rfl, _, _, rfl, rfl, xL, _, _, _, rfl, rfl, SqL.of (sm3 _ _ hx), by rw [em]; exact atI_nat hx2, _, rfl, p, _, _, _, rfl, rfl, s4.seq g1, rfl, _, rfl, _, _, rfl, rfl, d, _, _, _, rfl, rfl, s4.seq g2, by rw [em]; exact atI_nat hd2, _, _, rfl, rfl, _, rfl, ite2 (fun q2 => ?_) (fun q2 => ?_)⟩
          · have q2 := of_decide_eq_true q2
            refine ⟨_, rfl, D, _, rfl, .inl (SqL.of h3), rfl, _, rfl, ite2 (fun q3 => ?_) (fun q3 => ?_)⟩
            · have w0 : win (grx gap c (dF days) (xF gap days starts ps)) gap i = 0 := by
                rw [nw]
                intro e he
                have z : (((ngh (grx gap c (dF days) (xF gap days starts ps)) i).filter fun e => decide (1 + ((i : Nat) : Int) - e ≤ (gap : Nat))).map V.int).length = 0 := by simpa using q3
                rw [List.length_map] at z
                have z := List.eq_nil_of_length_eq_zero z
                have := List.filter_eq_nil_iff.mp z e he
                have : ¬ (1 + ((i : Nat) : Int) - e ≤ (gap : Nat)) := fun y => this (decide_eq_true y)
                omega
              refine ⟨_, rfl, .inl ⟨rfl, _, SqL.of hl3⟩, _, rfl, L, _, _, rfl, rfl, hl3, ?_, _, _, _, rfl, fun b o eb => ?_, ?_⟩
              · rw [List.length_map, sizeLine_eq]
                have := ngh_le (grx gap c (dF days) (xF gap days starts ps)) i
                omega
              · rw [upd_ne (fun z => by rw [z, hL] at eb; cases eb)]
                exact sm3 _ _ eb
              · have f1 : grx gap c (dF days) (xF gap days starts ps) i = 1 := by rw [gk, if_pos ⟨by omega, q2, w0⟩]
                rw [upd_same, ngh_succ, f1, if_pos rfl, List.map_append, Int.add_comm 1]
                rfl
            · refine go _ fun z => q3 ?_
              have z2 := nw.1 z.2.2
              have : (ngh (grx gap c (dF days) (xF gap days starts ps)) i).filter (fun e => decide (1 + ((i : Nat) : Int) - e ≤ (gap : Nat))) = [] := List.filter_eq_nil_iff.mpr fun e he y => by
                have := z2 e he
                have := of_decide_eq_true y
                omega
              rw [this]
              rfl
          · exact go _ fun z => q2 (decide_eq_true z.2.1)
        · exact go _ fun z => q1 (decide_eq_true (by omega))
    · rintro σ H2 ⟨x5, x6, x7, rfl, sm, hl⟩
      rw [show (((((List.range days.length).map (xF gap days starts ps)).map V.int).length : Int) + 1 - 1).toNat = days.length by omega] at hl
      exact ⟨_, rfl, q H2 L (s1.trans sm) (s1.free hL) hl⟩
end
end K09

set_option maxRecDepth 100000
set_option maxHeartbeats 8000000
namespace K09
open PySem PySem.Spec PyProof.Rows L2 GR
theorem small_nat {n : Nat} (h : n ≤ 1001) : ((n : Nat) : Int).natAbs < 2 ^ 200 := Nat.lt_trans (show _ < 2 ^ 10 by omega) (by decide)
section
variable {w : World} {K : PySem.W.Frag} {mg : Str → Option Value} {base : Heap}
def spShuf (K : PySem.W.Frag) : Sp := fun vs H Q _ => ∃ (p a : Addr) (st : List V) (row : List Int), vs = [.ref p, .ref a] ∧ H p = some (.lst st) ∧ PoolOk st ∧ SqL K H a (row.map V.int) ∧ a ≠ p ∧ row.length ≤ 1000 ∧ NewRow p H (fun ns => ns.Perm row) Q
theorem ok_law_shuffled (T : Tx K mg) : Ok PG w K mg base CX0 3 (a_law_shuffled K) p_law_shuffled (spShuf K) := by
  refine Ok.of 2 T.f_law_shuffled sc_law_shuffled bi_law_shuffled (by decide) (fun vs H Q E h => ?_) (fun cdv A outer s H vs Q E hr h => ?_)
  · obtain ⟨_, _, _, _, rfl, _⟩ := h
    rfl
  · obtain ⟨p, a, st, row, rfl, hp, ok, ha, nap, lr, q⟩ := h
    have nd := sc_law_shuffled.nd
    refine ⟨_, pss_cons (ps_set (i := 2) nd rfl (.inl rfl) (pe_callTy call_list_of (by rfl) T.m_list (by decide +kernel) (pa_cons (pv 1) pa_nil)))
      (pss_cons (ps_set (i := 3) nd rfl (.inl rfl) (pe_lst pa_nil))
      (pss_cons (ps_for (passX rfl) rfl (pi_range1 rfl T.m_range (pa_cons (pe_callB call_len_seq (by rfl) T.m_len PySem.boot_len (pa_cons (pv 1) pa_nil)) pa_nil)) (pg_name (i := 4) nd rfl (.inl rfl))
        (pss_cons (ps_set (i := 5) nd rfl (.inl rfl) (pc (ok_law_draw T) hr T.g_law_draw pass0 (pa_cons (pv 0) (pa_cons (pe_callB call_len_seq (by rfl) T.m_len PySem.boot_len (pa_cons (pv 2) pa_nil)) pa_nil))))
          (pss_cons (ps_expr (pe_bm PySem.F.plainAttrs_list PySem.F.slot_list_append PySem.F.type_list_append mt_append (pv 3) (pa_cons (pe_ix ix_list (pv 2) (pv 5) (fun _ _ => rfl)) pa_nil)))
          (pss_one (ps_set (i := 2) nd rfl (.inl rfl) (pe_op op_cat (pe_slice sl_list (pv 2) po_none (po_some (pv 5))) (pe_slice sl_list (pv 2) (po_some (pe_op op_add (pv 5) pe_int)) po_none)))))))
      (pss_one (ps_ret (pv 3))))), ?_⟩
    refine ⟨_, rfl, a, _, rfl, .inl ha, fun l hl => ?_⟩
    have s0 : Same H (upd H l (.lst (row.map V.int))) := .new hl
    have nlp : l ≠ p := fun z => by rw [z, hp] at hl; cases hl
    refine ⟨by show 0 ≤ sizeLine; decide, fun D hD => ?_⟩
    have nDp : D ≠ p := fun z => by have := s0 _ _ hp; rw [z, this] at hD; cases hD
    have nlD : l ≠ D := fun z => by rw [← z, upd_same] at hD; cases hD
    have s1 := s0.new' (o := .lst []) hD
    have hD0 := s0.free hD
    have hl1 : upd (upd H l (.lst (row.map V.int))) D (.lst []) l = some (.lst (row.map V.int)) := by rw [upd_ne nlD, upd_same]
    have hp1 := s1 _ _ hp
    have hD1 : upd (upd H l (.lst (row.map V.int))) D (.lst []) D = some (.lst []) := upd_same
    generalize upd (upd H l (.lst (row.map V.int))) D (.lst []) = H1 at s1 hl1 hp1 hD1 ⊢
    refine ⟨_, rfl, a, _, rfl, .inl (s1.seq ha), _, rfl, by omega, by rw [List.length_map]; omega, ?_⟩
    refine for_range (lo := 0) (n := (row.map V.int).length) (fun i σ H' => ∃ x4 x5 lA, ∃ lf dn : List Int, ∃ st', σ = [some (.ref p), some (.ref a), some (.ref lA), some (.ref D), x4, x5] ∧ But p H H' ∧ H' p = some (.lst st') ∧ PoolOk st' ∧ lA ≠ D ∧ lA ≠ p ∧ H' lA = some (.lst (lf.map V.int)) ∧ H' D = some (.lst (dn.map V.int)) ∧ (dn ++ lf).Perm row ∧ dn.length = i) ⟨_, _, l, row, [], st, rfl, .of s1, hp1, ok, nlD, nlp, hl1, hD1, by rw [List.nil_append], rfl⟩ ?_ ?_
    · rintro i σ H2 hi ⟨x4, x5, lA, lf, dn, st', rfl, bt, hp2, ok2, n1, n2, hl2, hd2, pm, ld⟩
      rw [List.length_map] at hi
      have lens := pm.length_eq
      rw [List.length_append] at lens
      rw [Int.zero_add]
      refine ⟨_, rfl, _, rfl, lA, _, rfl, .inl (SqL.of hl2), p, st', _, rfl, by rw [List.length_map]; omega, by rw [List.length_map]; exact small_nat (by omega), hp2, ok2, fun v st3 v0 v1 ok3 => ?_⟩
      rw [List.length_map] at v1
      obtain ⟨j, rfl⟩ : ∃ j : Nat, v = (j : Nat) := ⟨v.toNat, by omega⟩
      have hj : j < lf.length := by omega
      have b3 : But p H2 (upd H2 p (.lst st3)) := .set
      have hl3 := b3 _ _ n2 hl2
      have hd3 := b3 _ _ nDp hd2
      have hp3 : upd H2 p (.lst st3) p = some (.lst st3) := upd_same
      generalize upd H2 p (.lst st3) = H3 at b3 hl3 hd3 hp3 ⊢
      have hm : (lf.map V.int)[j]? = some (V.int lf[j]) := by rw [List.getElem?_map, List.getElem?_eq_getElem hj]; rfl
      refine ⟨_, rfl, .inl ⟨rfl, _, SqL.of hd3⟩, _, rfl, _, rfl, lA, _, _, _, rfl, rfl, SqL.of hl3, atI_nat hm, D, _, _, rfl, rfl, hd3, by rw [List.length_map, sizeLine_eq]; omega, ?_⟩
      have b4 : But p H (upd H3 D (.lst (dn.map V.int ++ [.int lf[j]]))) := fun b o nb eb => by
        rw [upd_ne (fun z => by rw [z, hD0] at eb; cases eb)]
        exact b3 _ _ nb (bt _ _ nb eb)
      have hp4 : upd H3 D (.lst (dn.map V.int ++ [.int lf[j]])) p = some (.lst st3) := by rw [upd_ne (Ne.symm nDp)]; exact hp3
      have hl4 : upd H3 D (.lst (dn.map V.int ++ [.int lf[j]])) lA = some (.lst (lf.map V.int)) := by rw [upd_ne n1]; exact hl3
      have hd4 : upd H3 D (.lst (dn.map V.int ++ [.int lf[j]])) D = some (.lst ((dn ++ [lf[j]]).map V.int)) := by rw [upd_same, List.map_append]; rfl
      generalize upd H3 D (.lst (dn.map V.int ++ [.int lf[j]])) = H4 at b4 hp4 hl4 hd4 ⊢
      refine ⟨_, rfl, _, rfl, _, rfl, lA, _, rfl, SqL.of hl4, fun u hu => ?_⟩
      rw [cutTo]
      have s5 : Same H4 (upd H4 u (.lst ((lf.map V.int).take j))) := .new hu
      refine ⟨_, rfl, _, rfl, _, _, rfl, rfl, _, rfl, lA, _, rfl, SqL.of (s5 _ _ hl4), fun u2 hu2 => ?_⟩
      rw [show ((j : Nat) : Int) + 1 = ((j + 1 : Nat) : Int) by omega, cutFrom]
      have s6 := s5.new' (o := .lst ((lf.map V.int).drop (j + 1))) hu2
      refine ⟨u, u2, _, _, rfl, rfl, Same.new hu2 _ _ upd_same, upd_same, by rw [List.length_take, List.length_drop, List.length_map, sizeLine_eq]; omega, fun u3 hu3 => ?_⟩
      have s7 := s6.new' (o := .lst ((lf.map V.int).take j ++ (lf.map V.int).drop (j + 1))) hu3
      have hu3' := s6.free hu3
      refine ⟨_, _, u3, lf.take j ++ lf.drop (j + 1), dn ++ [lf[j]], st3, rfl, b4.trans (.of s7), s7 _ _ hp4, ok3, (fun z => by rw [z, hd4] at hu3'; cases hu3'), (fun z => by rw [z, hp4] at hu3'; cases hu3'), by rw [upd_same, List.map_append, List.map_take, List.map_drop], s7 _ _ hd4, ?_, by rw [List.length_append, ld]; rfl⟩
      refine List.Perm.trans ?_ pm
      have e : lf = lf.take j ++ lf[j] :: lf.drop (j + 1) := by
        rw [← List.drop_eq_getElem_cons hj, List.take_append_drop]
      conv => rhs; rw [e]
      rw [List.append_assoc]
      exact List.Perm.append_left dn (by rw [List.singleton_append]; exact List.perm_middle.symm)
    · rintro σ H2 ⟨x4, x5, lA, lf, dn, st', rfl, bt, hp2, ok2, n1, n2, hl2, hd2, pm, ld⟩
      rw [List.length_map] at ld
      have lens := pm.length_eq
      rw [List.length_append] at lens
      have : lf = [] := List.eq_nil_of_length_eq_zero (by omega)
      rw [this, List.append_nil] at pm
      exact ⟨_, rfl, q H2 D dn st' bt hp2 ok2 hD0 hd2 pm⟩
end
end K09

set_option maxRecDepth 100000
set_option maxHeartbeats 8000000
namespace K09
open PySem PySem.Spec PyProof.Rows L2 GR
section
variable {w : World} {K : PySem.W.Frag} {mg : Str → Option Value} {base : Heap}
/-- what holds of a house's parts -/
structure PB (days starts : List Int) (gap : Nat) : Prop where
  ld : days.length ≤ 60
  ls : starts.length ≤ 30
  bd : ∀ x ∈ days, 0 ≤ x ∧ x ≤ 30
  bs : ∀ x ∈ starts, 1 ≤ x ∧ x ≤ (days.length : Int) + 1
  lg : gap ≤ 60
def spHouse (K : PySem.W.Frag) : Sp := fun vs H Q _ => ∃ (p : Addr) (st : List V), vs = [.ref p] ∧ H p = some (.lst st) ∧ PoolOk st ∧
  ∀ H' (l d t : Addr) days starts (gap : Nat) st', But p H H' → H' p = some (.lst st') → PoolOk st' → l ≠ p → d ≠ p → t ≠ p → H' l = some (.lst [.ref d, .ref t, .int (gap : Nat)]) → H' d = some (.lst (days.map V.int)) → H' t = some (.lst (starts.map V.int)) → PB days starts gap → Q (.ref l) H'
theorem ok_law_house (T : Tx K mg) : Ok PG w K mg base CX0 5 (a_law_house K) p_law_house (spHouse K) := by
  refine Ok.of 4 T.f_law_house sc_law_house bi_law_house (by decide) (fun vs H Q E h => ?_) (fun cdv A outer s H vs Q E hr h => ?_)
  · obtain ⟨_, _, rfl, _⟩ := h
    rfl
  · obtain ⟨p, st, rfl, hp, ok, q⟩ := h
    have nd := sc_law_house.nd
    refine ⟨_, pss_cons (ps_set (i := 1) nd rfl (.inl rfl) (pe_lst (pa_cons pe_int (pa_cons pe_int (pa_cons pe_int pa_nil)))))
      (pss_cons (ps_if (pt_cmpR op_eq (pc (ok_law_draw T) (hr.mono (by decide)) T.g_law_draw pass0 (pa_cons (pv 0) (pa_cons pe_int pa_nil))) pe_int (nomark _)) (pss_one (ps_set (i := 1) nd rfl (.inl rfl) (pe_lst (pa_cons pe_int (pa_cons pe_int (pa_cons pe_int pa_nil)))))) pss_nil)
      (pss_cons (ps_set (i := 2) nd rfl (.inl rfl) (pc (ok_law_size T) (hr.mono (by decide)) T.g_law_size pass0 (pa_cons (pv 0) (pa_cons (pe_ix ix_list (pv 1) pe_int (fun _ _ => rfl)) pa_nil))))
      (pss_cons (ps_set (i := 3) nd rfl (.inl rfl) (pc (ok_law_size T) (hr.mono (by decide)) T.g_law_size pass0 (pa_cons (pv 0) (pa_cons (pe_ix ix_list (pv 1) pe_int (fun _ _ => rfl)) pa_nil))))
      (pss_cons (ps_set (i := 4) nd rfl (.inl rfl) (pc (ok_law_draw T) (hr.mono (by decide)) T.g_law_draw pass0 (pa_cons (pv 0) (pa_cons (pe_ix ix_list (pv 1) pe_int (fun _ _ => rfl)) pa_nil))))
      (pss_cons (ps_set (i := 5) nd rfl (.inl rfl) (pc (ok_law_comings T) (hr.mono (by decide)) T.g_law_comings pass0 (pa_cons (pv 0) (pa_cons (pv 3) (pa_cons (pv 2) pa_nil)))))
      (pss_cons (ps_set (i := 6) nd rfl (.inl rfl) (pe_op op_add pe_int (pc (ok_law_draw T) (hr.mono (by decide)) T.g_law_draw pass0 (pa_cons (pv 0) (pa_cons pe_int pa_nil)))))
      (pss_cons (ps_if (pt_cmpR op_eq (pc (ok_law_draw T) (hr.mono (by decide)) T.g_law_draw pass0 (pa_cons (pv 0) (pa_cons pe_int pa_nil))) pe_int (nomark _)) (pss_one (ps_set (i := 6) nd rfl (.inl rfl) pe_int)) pss_nil)
      (pss_one (ps_ret (pe_lst (pa_cons (pc (ok_law_wants T) hr T.g_law_wants pass0 (pa_cons (pv 0) (pa_cons (pv 2) (pa_cons (pv 6) pa_nil)))) (pa_cons (pv 5) (pa_cons (pv 4) pa_nil))))))))))))), ?_⟩
    refine seqQ (fun σ' H' => ∃ l, σ' = [some (.ref p), some (.ref l), none, none, none, none, none] ∧ But p H H' ∧ l ≠ p ∧ H' p = some (.lst st) ∧ H' l = some (.lst [.int 9, .int 6, .int 5])) (fun σ' H0 z => ?_) (fun next => ⟨by show 3 ≤ sizeLine; decide, fun l hl => next _ _ ⟨l, rfl, .of (.new hl), (fun z => by rw [z, hp] at hl; cases hl), Same.new hl _ _ hp, upd_same⟩⟩)
    obtain ⟨l0, rfl, b0, nl0, hp0, hl0⟩ := z
    refine seqQ (fun σ' H' => ∃ l, ∃ sz : List Int, ∃ st', σ' = [some (.ref p), some (.ref l), none, none, none, none, none] ∧ But p H H' ∧ l ≠ p ∧ H' p = some (.lst st') ∧ PoolOk st' ∧ H' l = some (.lst (sz.map V.int)) ∧ ∃ s0 s1 s2, sz = [s0, s1, s2] ∧ 0 < s0 ∧ s0 ≤ 60 ∧ 0 < s1 ∧ s1 ≤ 30 ∧ 0 < s2 ∧ s2 ≤ 61) (fun σ' H1 z => ?_) (fun next => ?_)
    · obtain ⟨l, sz, st1, rfl, b1, nl, hp1, ok1, hl1, s0, s1, s2, rfl, z0, z1, z2, z3, z4, z5⟩ := z
      refine ⟨_, rfl, _, rfl, l, _, _, _, rfl, rfl, SqL.of hl1, rfl, p, st1, s0, rfl, z0, by omega, hp1, ok1, fun nights H2 st2 hn b2 hp2 ok2 => ?_⟩
      have hl2 := b2 _ _ nl hl1
      refine ⟨_, rfl, _, rfl, l, _, _, _, rfl, rfl, SqL.of hl2, rfl, p, st2, s1, rfl, z2, by omega, hp2, ok2, fun people H3 st3 hpe b3 hp3 ok3 => ?_⟩
      have hl3 := b3 _ _ nl hl2
      refine ⟨_, rfl, _, rfl, l, _, _, _, rfl, rfl, SqL.of hl3, rfl, p, st3, s2, rfl, z4, Nat.lt_trans (show s2.natAbs < 2 ^ 10 by omega) (by decide), hp3, ok3, fun gv st4 g0 g1 ok4 => ?_⟩
      obtain ⟨gap, rfl⟩ : ∃ g : Nat, gv = (g : Nat) := ⟨gv.toNat, by omega⟩
      have b4 := ((b1.trans b2).trans b3).trans (But.set (o := .lst st4))
      have hp4 : upd H3 p (.lst st4) p = some (.lst st4) := upd_same
      generalize upd H3 p (.lst st4) = H4 at b4 hp4 ⊢
      refine ⟨_, rfl, _, rfl, _, rfl, p, st4, people, nights, rfl, hpe.1, by omega, hn.1, by omega, hp4, ok4, fun H5 t starts st5 b5 hp5 ok5 ht0 ht ⟨lt, bt⟩ => ?_⟩
      have ntp : t ≠ p := fun z => by rw [z, hp4] at ht0; cases ht0
      refine ⟨_, rfl, p, st5, 6, rfl, by decide, by decide, hp5, ok5, fun mv st6 m0 m1 ok6 => ⟨_, _, rfl, rfl, ?_⟩⟩
      have b6 := (b4.trans b5).trans (But.set (o := .lst st6))
      have hp6 : upd H5 p (.lst st6) p = some (.lst st6) := upd_same
      have ht6 : upd H5 p (.lst st6) t = some (.lst (starts.map V.int)) := by rw [upd_ne ntp]; exact ht
      generalize upd H5 p (.lst st6) = H6 at b6 hp6 ht6 ⊢
      refine seqQ (fun σ' H' => σ' = [some (.ref p), some (.ref l), some (.int nights), some (.int people), some (.int (gap : Nat)), some (.ref t), some (.int (1 + mv))] ∧ H' = H6) (fun σ' H6' z => ?_) (fun next => next _ _ ⟨rfl, rfl⟩)
      obtain ⟨rfl, rfl⟩ := z
      refine seqQ (fun σ' H' => ∃ m st', σ' = [some (.ref p), some (.ref l), some (.int nights), some (.int people), some (.int (gap : Nat)), some (.ref t), some (.int m)] ∧ 0 ≤ m ∧ m ≤ 30 ∧ But p H H' ∧ H' p = some (.lst st') ∧ PoolOk st' ∧ H' t = some (.lst (starts.map V.int))) (fun σ' H7 z => ?_) (fun next => ?_)
      · obtain ⟨m, st7, rfl, m0', m1', b7, hp7, ok7, ht7⟩ := z
        refine ⟨_, rfl, _, rfl, _, rfl, p, st7, nights, m, rfl, hn.1, by omega, m0', by omega, hp7, ok7, fun H8 d days st8 b8 hp8 ok8 hd0 hd lnd bd => ?_⟩
        have ndp : d ≠ p := fun z => by rw [z, hp7] at hd0; cases hd0
        refine ⟨_, rfl, _, rfl, by show 3 ≤ sizeLine; decide, fun r hrr => ?_⟩
        have nrp : r ≠ p := fun z => by rw [z, hp8] at hrr; cases hrr
        exact q _ r d t days starts gap st8 ((b7.trans b8).trans (.of (.new hrr))) (Same.new hrr _ _ hp8) ok8 nrp ndp ntp upd_same (Same.new hrr _ _ hd) (Same.new hrr _ _ (b8 _ _ ntp ht7)) ⟨by omega, by omega, fun x hx => by have := bd x hx; omega, fun x hx => by have := bt x hx; omega, by omega⟩
      · refine ⟨_, rfl, p, st6, 8, rfl, by decide, by decide, hp6, ok6, fun v st7 _ _ ok7 => ⟨rfl, _, rfl, ite2 (fun _ => ?_) (fun _ => ?_)⟩⟩
        · exact next _ _ ⟨30, st7, rfl, by decide, by decide, b6.trans .set, upd_same, ok7, by rw [upd_ne ntp]; exact ht6⟩
        · exact next _ _ ⟨_, st7, rfl, by omega, by omega, b6.trans .set, upd_same, ok7, by rw [upd_ne ntp]; exact ht6⟩
    · refine ⟨_, rfl, p, st, 16, rfl, by decide, by decide, hp0, ok, fun v st1 _ _ ok1 => ⟨rfl, _, rfl, ite2 (fun _ => ?_) (fun _ => ?_)⟩⟩
      · refine ⟨by show 3 ≤ sizeLine; decide, fun l hl => ?_⟩
        exact next _ _ ⟨l, [60, 30, 61], st1, rfl, (b0.trans .set).trans (.of (.new hl)), (fun z => by rw [z, upd_same] at hl; cases hl), Same.new hl _ _ upd_same, ok1, upd_same, _, _, _, rfl, by decide, by decide, by decide, by decide, by decide, by decide⟩
      · exact next _ _ ⟨l0, [9, 6, 5], st1, rfl, b0.trans .set, nl0, upd_same, ok1, by rw [upd_ne nl0]; exact hl0, _, _, _, rfl, by decide, by decide, by decide, by decide, by decide, by decide⟩
end
end K09

set_option maxRecDepth 100000
set_option maxHeartbeats 8000000
namespace K09
open PySem PySem.Spec PyProof.Rows L2 GR
/-- the people whose way is chosen by f -/
def pick3 (ws : List Int) (f : Int → Bool) (n : Nat) : List Int := ((List.range n).filter fun j => f (ws.getD j 0)).map fun j => ((j : Nat) : Int)
theorem pick3_succ (ws : List Int) (f : Int → Bool) (n : Nat) : pick3 ws f (n + 1) = pick3 ws f n ++ if f (ws.getD n 0) = true then [((n : Nat) : Int)] else [] := by
  unfold pick3
  rw [List.range_succ, List.filter_append, List.map_append]
  congr 1
  by_cases h : f (ws.getD n 0) = true
  · rw [if_pos h, List.filter_cons_of_pos (p := fun j => f (ws.getD j 0)) h]; rfl
  · rw [if_neg h, List.filter_cons_of_neg (p := fun j => f (ws.getD j 0)) h]; rfl
theorem pick3_le (ws : List Int) (f : Int → Bool) (n : Nat) : (pick3 ws f n).length ≤ n := by
  unfold pick3
  rw [List.length_map]
  have := List.length_filter_le (fun j => f (ws.getD j 0)) (List.range n)
  rwa [List.length_range] at this
theorem pick3_mem {ws : List Int} {f : Int → Bool} {n : Nat} {x : Int} : x ∈ pick3 ws f n ↔ ∃ j, j < n ∧ f (ws.getD j 0) = true ∧ x = (j : Nat) := by
  unfold pick3
  constructor
  · intro h
    obtain ⟨j, hj, rfl⟩ := List.mem_map.mp h
    obtain ⟨h1, h2⟩ := List.mem_filter.mp hj
    exact ⟨j, List.mem_range.mp h1, h2, rfl⟩
  · rintro ⟨j, h1, h2, rfl⟩
    exact List.mem_map.mpr ⟨j, List.mem_filter.mpr ⟨List.mem_range.mpr h1, h2⟩, rfl⟩
theorem pick3_nodup (ws : List Int) (f : Int → Bool) (n : Nat) : (pick3 ws f n).Nodup := by
  unfold pick3 List.Nodup
  rw [List.pairwise_map]
  refine List.Pairwise.imp (fun h e => h (by omega)) ((List.nodup_range : (List.range n).Nodup).filter _)
/-- drawn groups of people -/
structure Grp (n : Nat) (inner outer free : List Int) : Prop where
  ii : ∀ p ∈ inner, 0 ≤ p ∧ p < (n : Nat)
  oo : ∀ p ∈ outer, 0 ≤ p ∧ p < (n : Nat)
  ff : ∀ p ∈ free, 0 ≤ p ∧ p < (n : Nat)
  ni : inner.Nodup
  no : outer.Nodup
  io : ∀ p ∈ inner, p ∈ outer
  li : inner.length ≤ n
  lo : outer.length ≤ n
  lf : free.length ≤ n
  pr : ∃ rest : List Int, outer.Perm (rest ++ inner) ∧ ∀ p ∈ rest, 0 ≤ p ∧ p < (n : Nat)
theorem pick3_split {ws : List Int} {f g : Int → Bool} {n : Nat} (fg : ∀ x, f x = true → g x = true) : (pick3 ws g n).Perm (pick3 ws (fun x => g x && !f x) n ++ pick3 ws f n) := by
  induction n with
  | zero => exact List.Perm.refl _
  | succ n ih =>
    rw [pick3_succ, pick3_succ, pick3_succ]
    generalize ws.getD n 0 = v
    by_cases hf : f v = true
    · rw [if_pos (fg _ hf), if_neg (by simp [hf]), if_pos hf, List.append_nil, ← List.append_assoc]
      exact ih.append_right _
    · by_cases hg : g v = true
      · rw [if_pos hg, if_pos (by simp [hf, hg]), if_neg hf, List.append_nil]
        refine (ih.append_right _).trans ?_
        rw [List.append_assoc, List.append_assoc]
        exact List.Perm.append_left _ List.perm_append_comm
      · rw [if_neg hg, if_neg (by simp [hg]), if_neg hf, List.append_nil, List.append_nil, List.append_nil]
        exact ih
theorem grp_of {ws inner outer : List Int} {n : Nat} (h1 : inner.Perm (pick3 ws (fun x => decide (V.int x = V.int 2)) n)) (h2 : outer.Perm (pick3 ws (fun x => decide (0 < x)) n)) : Grp n inner outer (pick3 ws (fun x => decide (V.int x = V.int 0)) n) where
  ii := fun p hp => by obtain ⟨j, a, _, rfl⟩ := pick3_mem.mp (h1.mem_iff.mp hp); omega
  oo := fun p hp => by obtain ⟨j, a, _, rfl⟩ := pick3_mem.mp (h2.mem_iff.mp hp); omega
  ff := fun p hp => by obtain ⟨j, a, _, rfl⟩ := pick3_mem.mp hp; omega
  ni := h1.nodup_iff.mpr (pick3_nodup _ _ _)
  no := h2.nodup_iff.mpr (pick3_nodup _ _ _)
  io := fun p hp => by
    obtain ⟨j, a, b, rfl⟩ := pick3_mem.mp (h1.mem_iff.mp hp)
    refine h2.mem_iff.mpr (pick3_mem.mpr ⟨j, a, ?_, rfl⟩)
    have : V.int (ws.getD j 0) = V.int 2 := of_decide_eq_true b
    have : ws.getD j 0 = 2 := by injection this
    rw [this]; rfl
  li := by rw [h1.length_eq]; exact pick3_le _ _ _
  lo := by rw [h2.length_eq]; exact pick3_le _ _ _
  lf := pick3_le _ _ _
  pr := by
    refine ⟨pick3 ws (fun x => decide (0 < x) && !decide (V.int x = V.int 2)) n, (h2.trans (pick3_split (f := fun x => decide (V.int x = V.int 2)) fun x hx => ?_)).trans (List.Perm.append_left _ h1.symm), fun p hp => by obtain ⟨j, a, _, rfl⟩ := pick3_mem.mp hp; omega⟩
    have : V.int x = V.int 2 := of_decide_eq_true hx
    have : x = 2 := by injection this
    rw [this]; rfl
section
variable {w : World} {K : PySem.W.Frag} {mg : Str → Option Value} {base : Heap}
def spGroups (K : PySem.W.Frag) : Sp := fun vs H Q _ => ∃ (p : Addr) (st : List V) (n : Nat), vs = [.ref p, .int (n : Nat)] ∧ H p = some (.lst st) ∧ PoolOk st ∧ n ≤ 30 ∧
  ∀ H' (l i o f : Addr) inner outer free st', But p H H' → H' p = some (.lst st') → PoolOk st' → l ≠ p → i ≠ p → o ≠ p → f ≠ p → H' l = some (.lst [.ref i, .ref o, .ref f]) → H' i = some (.lst (inner.map V.int)) → H' o = some (.lst (outer.map V.int)) → H' f = some (.lst (free.map V.int)) → Grp n inner outer free → Q (.ref l) H'
/-- a comprehension that picks people by their way -/
theorem lc_pick {H1 : Hp} {W D : Addr} {ws : List Int} {f : Int → Bool} {n : Nat} {te : TE} {tt : TT} {vs : List Nat} {σ : L2.St} {i0 : Nat} {Qd : Hp → Prop} (hW : H1 W = some (.lst (ws.map V.int))) (hD : H1 D = none) (hn : n ≤ 30) (lw : ws.length = n)
    (ht : ∀ (i : Nat) (H2 : Hp), i < n → Same H1 H2 → wipe ((wipe σ vs).set i0 (some (.int (0 + ((i : Nat) : Int))))) vs = wipe σ vs ∧ (∀ R : Bool → Hp → Prop, R (f (ws.getD i 0)) H2 → tt ((wipe σ vs).set i0 (some (.int (0 + ((i : Nat) : Int))))) H2 R) ∧ ∀ Q : VK, Q (.int (i : Nat)) H2 → te ((wipe σ vs).set i0 (some (.int (0 + ((i : Nat) : Int))))) H2 Q)
    (hd : ∀ (H' : Hp), Same H1 H' → H' D = some (.lst ((pick3 ws f n).map V.int)) → Qd H') :
    ∃ W : Nat → Nat → Hp → Prop, (∃ m, W 0 m (upd H1 D (.lst []))) ∧ ∀ i m H, W i m H →
      ((Itr 0 n).stop i H ∧ Qd H) ∨ ((Itr 0 n).go i H ∧ ∃ Nx : Hp → Prop, (∀ H', Nx H' → ∃ m', m' < m ∧ W (i + 1) m' H') ∧ ∀ x H', (Itr 0 n).yld i H x H' → gName i0 x (wipe σ vs) H' fun σ2 H2 => wipe σ2 vs = wipe σ vs ∧ tt σ2 H2 fun b H3 =>
        if b = true then te σ2 H3 fun y H4 => ∃ acc, H4 D = some (.lst acc) ∧ acc.length < sizeLine ∧ Nx (upd H4 D (.lst (acc ++ [y]))) else Nx H3) := by
  refine lc_range (lo := 0) (n := n) (fun i H' => Same H1 H' ∧ H' D = some (.lst ((pick3 ws f i).map V.int))) ⟨.new hD, upd_same⟩ ?_ ?_
  · rintro i H' hi ⟨sm, h'⟩
    obtain ⟨h0, h1, h2⟩ := ht i H' hi sm
    refine ⟨h0, h1 _ ?_⟩
    refine ite2 (fun c => ?_) (fun c => ?_)
    · refine h2 _ ⟨_, h', ?_, fun b o eb => ?_, ?_⟩
      · rw [List.length_map, sizeLine_eq]
        have := pick3_le ws f i
        omega
      · rw [upd_ne (fun z => by rw [z, hD] at eb; cases eb)]
        exact sm _ _ eb
      · rw [upd_same, pick3_succ, if_pos c, List.map_append]; rfl
    · refine ⟨sm, ?_⟩
      rw [pick3_succ, if_neg c, List.append_nil]
      exact h'
  · rintro H' ⟨sm, h'⟩
    exact hd H' sm h'
theorem ok_law_groups (T : Tx K mg) : Ok PG w K mg base CX0 4 (a_law_groups K) p_law_groups (spGroups K) := by
  refine Ok.of 3 T.f_law_groups sc_law_groups bi_law_groups (by decide) (fun vs H Q E h => ?_) (fun cdv A outer s H vs Q E hr h => ?_)
  · obtain ⟨_, _, _, rfl, _⟩ := h
    rfl
  · obtain ⟨p, st, n, rfl, hp, ok, hn, q⟩ := h
    have nd := sc_law_groups.nd
    refine ⟨_, pss_cons (ps_set (i := 2) nd rfl (.inr rfl) (pe_lc (own := [("person", 3)]) (g := gName 3) (tt := tYes) rfl nd (pi_range1 rfl T.m_range (pa_cons (pv 1) pa_nil)) (blkOk_by (N := n_law_groups) (sc := defScope s_law_groups) (by decide +kernel)) (fun _ _ _ _ _ => pg_name (i := 3) nd rfl (Or.inl rfl)) (fun _ _ _ _ _ => pts_nil) (fun _ _ _ _ _ => pc (ok_law_draw T) (hr.mono (by decide)) T.g_law_draw pass0 (pa_cons (pv 0) (pa_cons pe_int pa_nil)))))
      (pss_cons (ps_set (i := 4) nd rfl (.inl rfl) (pc (ok_law_shuffled T) hr T.g_law_shuffled pass0 (pa_cons (pv 0) (pa_cons (pe_lc (own := [("person", 3)]) (g := gName 3) rfl nd (pi_range1 rfl T.m_range (pa_cons (pv 1) pa_nil)) (blkOk_by (N := n_law_groups) (sc := defScope s_law_groups) (by decide +kernel)) (fun _ _ _ _ _ => pg_name (i := 3) nd rfl (Or.inl rfl)) (fun _ _ _ _ _ => pts_one (pt_cmpR op_eq (pe_ix (r := rIxL K) (ta := tVar 2) (tb := tVar 3) ix_list (pv 2) (pv 3) (fun _ _ => rfl)) pe_int (nomark _))) (fun _ _ _ _ _ => pv 3)) pa_nil))))
      (pss_cons (ps_set (i := 5) nd rfl (.inl rfl) (pc (ok_law_shuffled T) hr T.g_law_shuffled pass0 (pa_cons (pv 0) (pa_cons (pe_lc (own := [("person", 3)]) (g := gName 3) rfl nd (pi_range1 rfl T.m_range (pa_cons (pv 1) pa_nil)) (blkOk_by (N := n_law_groups) (sc := defScope s_law_groups) (by decide +kernel)) (fun _ _ _ _ _ => pg_name (i := 3) nd rfl (Or.inl rfl)) (fun _ _ _ _ _ => pts_one (pt_cmpR op_gt (pe_ix (r := rIxL K) (ta := tVar 2) (tb := tVar 3) ix_list (pv 2) (pv 3) (fun _ _ => rfl)) pe_int (nomark _))) (fun _ _ _ _ _ => pv 3)) pa_nil))))
      (pss_cons (ps_setLc (i := 6) (own := [("person", 3)]) (g := gName 3) rfl nd rfl rfl (sw_true rfl rfl rfl (by decide +kernel)) (pi_range1 rfl T.m_range (pa_cons (pv 1) pa_nil)) (blkOk_by (N := n_law_groups) (sc := defScope s_law_groups) (by decide +kernel)) (fun _ _ _ _ _ => pg_name (i := 3) nd rfl (Or.inl rfl)) (fun _ _ _ _ _ => pts_one (pt_cmpR op_eq (pe_ix (r := rIxL K) (ta := tVar 2) (tb := tVar 3) ix_list (pv 2) (pv 3) (fun _ _ => rfl)) pe_int (nomark _))) (fun _ _ _ _ _ => pv 3))
      (pss_one (ps_ret (pe_lst (pa_cons (pv 4) (pa_cons (pv 5) (pa_cons (pv 6) pa_nil))))))))), ?_⟩
    refine ⟨_, rfl, n, rfl, by omega, by omega, fun W hW => ?_⟩
    have nWp : W ≠ p := fun z => by rw [z, hp] at hW; cases hW
    refine lc_draws (C := fun _ => True) hp ok hW (by omega) (fun i H3 st3 h3 ok3 b3 => ⟨rfl, fun Q q => ?_⟩) fun H3 ws st3 b3 h3 ok3 hs3 lw _ => ?_
    · exact ⟨_, rfl, p, st3, 3, rfl, by decide, by decide, h3, ok3, fun v st4 v0 v1 ok4 => q _ _ st4 trivial But.set upd_same ok4⟩
    have lw' : ws.length = n := by omega
    have wAt : ∀ {i : Nat}, i < n → (ws.map V.int)[i]? = some (V.int (ws.getD i 0)) := fun {i} hi => by
      rw [List.getElem?_map, List.getD_eq_getElem?_getD, List.getElem?_eq_getElem (by omega)]; rfl
    refine ⟨_, rfl, _, rfl, n, rfl, by omega, by omega, fun A1 hA1 => ?_⟩
    have nA1 : A1 ≠ p := fun z => by rw [z, h3] at hA1; cases hA1
    refine lc_pick (f := fun x => decide (V.int x = V.int 2)) hs3 hA1 hn lw' (fun i H4 hi s4 => ⟨rfl, fun R r => ?_, fun Q q => ⟨_, rfl, by rw [Int.zero_add]; exact q⟩⟩) fun H4 s4 hA4 => ?_
    · rw [Int.zero_add]
      exact ⟨_, rfl, _, rfl, W, _, _, _, rfl, rfl, SqL.of (s4 _ _ hs3), atI_nat (wAt hi), rfl, _, rfl, r⟩
    have b4 : But p H H4 := b3.trans (.of s4)
    refine ⟨p, A1, st3, _, rfl, s4 _ _ h3, ok3, SqL.of hA4, nA1, (by have := pick3_le ws (fun x => decide (V.int x = V.int 2)) ((n : Nat) : Int).toNat; omega), fun H5 I inner st5 b5 hp5 ok5 hI0 hI pmI => ?_⟩
    have nIp : I ≠ p := fun z => by have := s4 _ _ h3; rw [z, this] at hI0; cases hI0
    have hW5 := b5 _ _ nWp (s4 _ _ hs3)
    refine ⟨_, rfl, _, rfl, n, rfl, by omega, by omega, fun A2 hA2 => ?_⟩
    have nA2 : A2 ≠ p := fun z => by rw [z, hp5] at hA2; cases hA2
    refine lc_pick (f := fun x => decide (0 < x)) hW5 hA2 hn lw' (fun i H4 hi s4 => ⟨rfl, fun R r => ?_, fun Q q => ⟨_, rfl, by rw [Int.zero_add]; exact q⟩⟩) fun H6 s6 hA6 => ?_
    · rw [Int.zero_add]
      exact ⟨_, rfl, _, rfl, W, _, _, _, rfl, rfl, SqL.of (s4 _ _ hW5), atI_nat (wAt hi), _, _, rfl, rfl, _, rfl, r⟩
    refine ⟨p, A2, st5, _, rfl, s6 _ _ hp5, ok5, SqL.of hA6, nA2, (by have := pick3_le ws (fun x => decide (0 < x)) ((n : Nat) : Int).toNat; omega), fun H7 O outer st7 b7 hp7 ok7 hO0 hO pmO => ?_⟩
    have nOp : O ≠ p := fun z => by have := s6 _ _ hp5; rw [z, this] at hO0; cases hO0
    have hW7 := b7 _ _ nWp (s6 _ _ hW5)
    have hI7 := b7 _ _ nIp (s6 _ _ hI)
    refine ⟨_, rfl, n, rfl, by omega, by omega, fun A3 hA3 => ?_⟩
    have nA3 : A3 ≠ p := fun z => by rw [z, hp7] at hA3; cases hA3
    refine lc_pick (f := fun x => decide (V.int x = V.int 0)) hW7 hA3 hn lw' (fun i H4 hi s4 => ⟨rfl, fun R r => ?_, fun Q q => ⟨_, rfl, by rw [Int.zero_add]; exact q⟩⟩) fun H8 s8 hA8 => ?_
    · rw [Int.zero_add]
      exact ⟨_, rfl, _, rfl, W, _, _, _, rfl, rfl, SqL.of (s4 _ _ hW7), atI_nat (wAt hi), rfl, _, rfl, r⟩
    refine ⟨_, rfl, _, rfl, _, rfl, by show 3 ≤ sizeLine; decide, fun l hl => ?_⟩
    have nl : l ≠ p := fun z => by have := s8 _ _ hp7; rw [z, this] at hl; cases hl
    have s9 := s8.new' (o := .lst [.ref I, .ref O, .ref A3]) hl
    exact q _ l I O A3 inner outer _ st7 ((((b4.trans b5).trans (.of s6)).trans b7).trans (.of s9)) (s9 _ _ hp7) ok7 nl nIp nOp nA3 upd_same (s9 _ _ hI7) (s9 _ _ hO) (Same.new hl _ _ hA8) (grp_of pmI pmO)
end
end K09

set_option maxRecDepth 100000
set_option maxHeartbeats 8000000
namespace K09
open PySem PySem.Spec PyProof.Rows L2 GR
section
variable {w : World} {K : PySem.W.Frag} {mg : Str → Option Value} {base : Heap}
def spSpoil (K : PySem.W.Frag) : Sp := fun vs H Q _ => ∃ (p a : Addr) (st : List V) (g : List Int) (n : Int), vs = [.ref p, .ref a, .int n] ∧ H p = some (.lst st) ∧ PoolOk st ∧ a ≠ p ∧ H a = some (.lst (g.map V.int)) ∧ g.length ≤ 100 ∧ 0 ≤ n ∧ n ≤ 30 ∧
  ∀ H' r (ns : List Int) st', But p H H' → H' p = some (.lst st') → PoolOk st' → r ≠ p → H' r = some (.lst (ns.map V.int)) → ns.length ≤ g.length + 1 → Q (.ref r) H'
theorem ok_law_spoiled (T : Tx K mg) : Ok PG w K mg base CX0 3 (a_law_spoiled K) p_law_spoiled (spSpoil K) := by
  refine Ok.of 2 T.f_law_spoiled sc_law_spoiled bi_law_spoiled (by decide) (fun vs H Q E h => ?_) (fun cdv A outer s H vs Q E hr h => ?_)
  · obtain ⟨_, _, _, _, _, rfl, _⟩ := h
    rfl
  · obtain ⟨p, a, st, g, n, rfl, hp, ok, nap, ha, lg, n0, n1, q⟩ := h
    have nd := sc_law_spoiled.nd
    refine ⟨_, pss_cons (ps_if (pt_cmpR op_ne (pc (ok_law_draw T) hr T.g_law_draw pass0 (pa_cons (pv 0) (pa_cons pe_int pa_nil))) pe_int (nomark _)) (pss_one (ps_ret (pv 1))) pss_nil)
      (pss_cons (ps_set (i := 3) nd rfl (.inl rfl) (pc (ok_law_draw T) hr T.g_law_draw pass0 (pa_cons (pv 0) (pa_cons (pe_op op_add (pe_callB call_len_seq (by rfl) T.m_len PySem.boot_len (pa_cons (pv 1) pa_nil)) pe_int) pa_nil))))
      (pss_cons (ps_set (i := 4) nd rfl (.inl rfl) (pe_ix ix_list (pe_lst (pa_cons (pe_un un_neg pe_int) (pa_cons (pv 2) (pa_cons (pe_op op_pow pe_int pe_int) pa_nil)))) (pc (ok_law_draw T) hr T.g_law_draw pass0 (pa_cons (pv 0) (pa_cons pe_int pa_nil))) (fun _ _ => rfl)))
      (pss_cons (ps_if (PW.pt (pw_and (pt_cmpR op_eq (pc (ok_law_draw T) hr T.g_law_draw pass0 (pa_cons (pv 0) (pa_cons pe_int pa_nil))) pe_int (nomark _)) (pw_and1 (pt_cmpR op_gt (pv 2) pe_int (nomark _))))) (pss_one (ps_set (i := 4) nd rfl (.inl rfl) (pc (ok_law_draw T) hr T.g_law_draw pass0 (pa_cons (pv 0) (pa_cons (pv 2) pa_nil))))) pss_nil)
      (pss_one (ps_ret (pe_op op_cat (pe_op op_cat (pe_slice sl_list (pv 1) po_none (po_some (pv 3))) (pe_lst (pa_cons (pv 4) pa_nil))) (pe_slice sl_list (pv 1) (po_some (pv 3)) po_none))))))), ?_⟩
    refine ⟨_, rfl, p, st, 8, rfl, by decide, by decide, hp, ok, fun v st1 _ _ ok1 => ⟨rfl, _, rfl, ite2 (fun _ => ?_) (fun _ => ?_)⟩⟩
    · exact ⟨_, rfl, q _ a g st1 .set upd_same ok1 nap (by rw [upd_ne nap]; exact ha) (by omega)⟩
    · have b1 : But p H (upd H p (.lst st1)) := .set
      have hp1 : upd H p (.lst st1) p = some (.lst st1) := upd_same
      have ha1 := b1 _ _ nap ha
      generalize upd H p (.lst st1) = H1 at b1 hp1 ha1 ⊢
      refine ⟨_, rfl, _, rfl, a, _, rfl, .inl (SqL.of ha1), _, _, rfl, rfl, p, st1, _, rfl, by rw [List.length_map]; omega, by rw [List.length_map]; exact Nat.lt_trans (show _ < 2 ^ 10 by omega) (by decide), hp1, ok1, fun pl st2 v0 v1 ok2 => ?_⟩
      rw [List.length_map] at v1
      obtain ⟨j, rfl⟩ : ∃ j : Nat, pl = (j : Nat) := ⟨pl.toNat, by omega⟩
      have b2 := b1.trans (But.set (o := .lst st2))
      have hp2 : upd H1 p (.lst st2) p = some (.lst st2) := upd_same
      have ha2 : upd H1 p (.lst st2) a = some (.lst (g.map V.int)) := by rw [upd_ne nap]; exact ha1
      generalize upd H1 p (.lst st2) = H2 at b2 hp2 ha2 ⊢
      refine ⟨_, rfl, _, rfl, _, _, rfl, rfl, ⟨by decide, by decide, by decide⟩, by show 3 ≤ sizeLine; decide, fun l hl => ?_⟩
      have nl : l ≠ p := fun z => by rw [z, hp2] at hl; cases hl
      refine ⟨_, rfl, p, st2, 3, rfl, by decide, by decide, Same.new hl _ _ hp2, ok2, fun k st3 k0 k1 ok3 => ?_⟩
      obtain ⟨e, _, em⟩ := pick (ms := [-1, n, 10 ^ (9 : Int).toNat]) k0 k1
      refine ⟨l, _, k, _, rfl, rfl, SqL.of (by rw [upd_ne nl, upd_same]; rfl), em, ?_⟩
      have b3 : But p H (upd (upd H2 l (.lst [.int (-1), .int n, .int (10 ^ (9 : Int).toNat)])) p (.lst st3)) := (b2.trans (.of (.new hl))).trans .set
      have hp3 : upd (upd H2 l (.lst [.int (-1), .int n, .int (10 ^ (9 : Int).toNat)])) p (.lst st3) p = some (.lst st3) := upd_same
      have ha3 : upd (upd H2 l (.lst [.int (-1), .int n, .int (10 ^ (9 : Int).toNat)])) p (.lst st3) a = some (.lst (g.map V.int)) := by rw [upd_ne nap]; exact Same.new hl _ _ ha2
      refine seqQ (fun σ' H' => σ' = [some (.ref p), some (.ref a), some (.int n), some (.int (j : Nat)), some (.int e)] ∧ But p H H' ∧ H' p = some (.lst st3) ∧ H' a = some (.lst (g.map V.int))) (fun σ' H3 z => ?_) (fun next => next _ _ ⟨rfl, b3, hp3, ha3⟩)
      obtain ⟨rfl, b3, hp3, ha3⟩ := z
      refine seqQ (fun σ' H' => ∃ e st', σ' = [some (.ref p), some (.ref a), some (.int n), some (.int (j : Nat)), some (.int e)] ∧ But p H H' ∧ H' p = some (.lst st') ∧ PoolOk st' ∧ H' a = some (.lst (g.map V.int))) (fun σ' H4 z => ?_) (fun next => ?_)
      · obtain ⟨e, st4, rfl, b4, hp4, ok4, ha4⟩ := z
        refine ⟨_, rfl, _, rfl, _, rfl, a, _, rfl, SqL.of ha4, fun u hu => ?_⟩
        rw [cutTo]
        have su : Same H4 (upd H4 u (.lst ((g.map V.int).take j))) := .new hu
        refine ⟨_, rfl, by show 1 ≤ sizeLine; decide, fun x hx => ?_⟩
        have sx := su.new' (o := .lst [.int e]) hx
        refine ⟨u, x, _, _, rfl, rfl, Same.new hx _ _ upd_same, upd_same, by rw [List.length_take, List.length_map, sizeLine_eq]; simp; omega, fun y hy => ?_⟩
        have sy := sx.new' (o := .lst ((g.map V.int).take j ++ [.int e])) hy
        refine ⟨_, rfl, _, rfl, _, rfl, a, _, rfl, SqL.of (sy _ _ ha4), fun z hz => ?_⟩
        rw [cutFrom]
        have sz := sy.new' (o := .lst ((g.map V.int).drop j)) hz
        refine ⟨y, z, _, _, rfl, rfl, Same.new hz _ _ upd_same, upd_same, by rw [List.length_append, List.length_take, List.length_drop, List.length_map, sizeLine_eq]; simp; omega, fun r hrr => ?_⟩
        have sr := sz.new' (o := .lst ((g.map V.int).take j ++ [.int e] ++ (g.map V.int).drop j)) hrr
        refine q _ r (g.take j ++ [e] ++ g.drop j) st4 (b4.trans (.of sr)) (sr _ _ hp4) ok4 (fun zz => ?_) (by rw [upd_same, List.map_append, List.map_append, List.map_take, List.map_drop]; rfl) (by rw [List.length_append, List.length_append, List.length_take, List.length_drop]; simp; omega)
        have := sz.free hrr
        rw [zz, hp4] at this
        cases this
      · refine ⟨_, rfl, p, st3, 2, rfl, by decide, by decide, hp3, ok3, fun v4 st4 _ _ ok4 => ⟨rfl, _, rfl, ite2 (fun _ => ?_) (fun _ => ?_)⟩⟩
        · refine ⟨_, rfl, _, _, rfl, rfl, _, rfl, ite2 (fun pos => ?_) (fun _ => ?_)⟩
          · have pos := of_decide_eq_true pos
            refine ⟨_, rfl, _, rfl, p, st4, n, rfl, pos, Nat.lt_trans (show n.natAbs < 2 ^ 10 by omega) (by decide), upd_same, ok4, fun v5 st5 _ _ ok5 => ?_⟩
            exact next _ _ ⟨v5, st5, rfl, (b3.trans .set).trans .set, upd_same, ok5, by rw [upd_ne nap, upd_ne nap]; exact ha3⟩
          · exact next _ _ ⟨e, st4, rfl, b3.trans .set, upd_same, ok4, by rw [upd_ne nap]; exact ha3⟩
        · exact next _ _ ⟨e, st4, rfl, b3.trans .set, upd_same, ok4, by rw [upd_ne nap]; exact ha3⟩
def spPers (K : PySem.W.Frag) : Sp := fun vs H Q _ => ∃ (p a : Addr) (st : List V) (g : List Int) (n : Int), vs = [.ref p, .ref a, .int n] ∧ H p = some (.lst st) ∧ PoolOk st ∧ a ≠ p ∧ H a = some (.lst (g.map V.int)) ∧ g.length ≤ 100 ∧ 0 ≤ n ∧ n ≤ 30 ∧ NewNum p H (fun _ => True) Q
theorem ok_law_person (T : Tx K mg) : Ok PG w K mg base CX0 3 (a_law_person K) p_law_person (spPers K) := by
  refine Ok.of 2 T.f_law_person sc_law_person bi_law_person (by decide) (fun vs H Q E h => ?_) (fun cdv A outer s H vs Q E hr h => ?_)
  · obtain ⟨_, _, _, _, _, rfl, _⟩ := h
    rfl
  · obtain ⟨p, a, st, g, n, rfl, hp, ok, nap, ha, lg, n0, n1, q⟩ := h
    have nd := sc_law_person.nd
    refine ⟨_, pss_cons (ps_set (i := 3) nd rfl (.inl rfl) (pc (ok_law_draw T) hr T.g_law_draw pass0 (pa_cons (pv 0) (pa_cons pe_int pa_nil))))
      (pss_cons (ps_if (PW.pt (pw_or (pt_cmpR op_eq (pv 3) pe_int (nomark _)) (pw_or1 (pt_cmpR op_eq (pv 2) pe_int (nomark _))))) (pss_one (ps_ret (pe_ix ix_list (pe_lst (pa_cons (pe_un un_neg pe_int) (pa_cons (pv 2) (pa_cons (pe_op op_sub (pe_op op_pow pe_int pe_int) (pc (ok_law_draw T) hr T.g_law_draw pass0 (pa_cons (pv 0) (pa_cons (pe_op op_add (pe_op op_mul pe_int (pe_op op_pow pe_int pe_int)) pe_int) pa_nil)))) pa_nil)))) (pc (ok_law_draw T) hr T.g_law_draw pass0 (pa_cons (pv 0) (pa_cons pe_int pa_nil))) (fun _ _ => rfl)))) pss_nil)
      (pss_cons (ps_if (PW.pt (pw_and (pt_cmpR op_lt (pv 3) pe_int (nomark _)) (pw_and1 (pt_cmpR op_gt (pe_callB call_len_seq (by rfl) T.m_len PySem.boot_len (pa_cons (pv 1) pa_nil)) pe_int (nomark _))))) (pss_one (ps_ret (pe_ix ix_list (pv 1) (pc (ok_law_draw T) hr T.g_law_draw pass0 (pa_cons (pv 0) (pa_cons (pe_callB call_len_seq (by rfl) T.m_len PySem.boot_len (pa_cons (pv 1) pa_nil)) pa_nil))) (fun _ _ => rfl)))) pss_nil)
      (pss_one (ps_ret (pc (ok_law_draw T) hr T.g_law_draw pass0 (pa_cons (pv 0) (pa_cons (pv 2) pa_nil))))))), ?_⟩
    refine ⟨_, rfl, p, st, 16, rfl, by decide, by decide, hp, ok, fun way st1 _ _ ok1 => ?_⟩
    have b1 : But p H (upd H p (.lst st1)) := .set
    have hp1 : upd H p (.lst st1) p = some (.lst st1) := upd_same
    have ha1 := b1 _ _ nap ha
    generalize upd H p (.lst st1) = H1 at b1 hp1 ha1 ⊢
    refine seqQ (fun σ' H' => σ' = [some (.ref p), some (.ref a), some (.int n), some (.int way)] ∧ H' = H1) (fun σ' H1' z => ?_) (fun next => next _ _ ⟨rfl, rfl⟩)
    obtain ⟨rfl, rfl⟩ := z
    refine seqQ (fun σ' H' => σ' = [some (.ref p), some (.ref a), some (.int n), some (.int way)] ∧ H' = H1' ∧ n ≠ 0) (fun σ' H2 z => ?_) (fun next => ?_)
    · obtain ⟨rfl, rfl, nz⟩ := z
      refine seqQ (fun σ' H' => σ' = [some (.ref p), some (.ref a), some (.int n), some (.int way)] ∧ H' = H2) (fun σ' H3 z => ?_) (fun next => ?_)
      · obtain ⟨rfl, rfl⟩ := z
        exact ⟨_, rfl, _, rfl, p, st1, n, rfl, by omega, Nat.lt_trans (show n.natAbs < 2 ^ 10 by omega) (by decide), hp1, ok1, fun v st2 _ _ ok2 => q v _ st2 trivial (b1.trans .set) upd_same ok2⟩
      · refine ⟨_, rfl, _, _, rfl, rfl, _, rfl, ite2 (fun _ => ?_) (fun _ => next _ _ ⟨rfl, rfl⟩)⟩
        refine ⟨_, rfl, a, _, rfl, .inl (SqL.of ha1), _, _, rfl, rfl, _, rfl, ite2 (fun pos => ?_) (fun _ => next _ _ ⟨rfl, rfl⟩)⟩
        have pos := of_decide_eq_true pos
        rw [List.length_map] at pos
        refine ⟨_, rfl, _, rfl, _, rfl, a, _, rfl, .inl (SqL.of ha1), p, st1, _, rfl, by rw [List.length_map]; omega, by rw [List.length_map]; exact Nat.lt_trans (show _ < 2 ^ 10 by omega) (by decide), hp1, ok1, fun k st2 k0 k1 ok2 => ?_⟩
        rw [List.length_map] at k1
        obtain ⟨e, _, em⟩ := pick (ms := g) k0 k1
        exact ⟨a, _, k, _, rfl, rfl, SqL.of (by rw [upd_ne nap]; exact ha1), em, q _ _ st2 trivial (b1.trans .set) upd_same ok2⟩
    · have big : (10 ^ (30 : Int).toNat : Int) = 10 ^ 30 := rfl
      refine ⟨_, rfl, rfl, _, rfl, ite2 (fun _ => ?_) (fun _ => ⟨_, rfl, rfl, _, rfl, ite2 (fun _ => ?_) (fun nz => next _ _ ⟨rfl, rfl, fun z => nz (by rw [z]; rfl)⟩)⟩)⟩
      all_goals
        refine ⟨_, rfl, _, rfl, _, _, rfl, rfl, ⟨by decide, by decide, by decide⟩, _, rfl, _, _, rfl, rfl, ⟨by decide, by decide, by decide⟩, _, _, rfl, rfl, .inl ⟨by decide, by decide⟩, _, _, rfl, rfl, p, st1, _, rfl, by decide, by decide, hp1, ok1, fun v st2 v0 v1 ok2 => ⟨_, _, rfl, rfl, ?_⟩⟩
        have hp2 : upd H1' p (.lst st2) p = some (.lst st2) := upd_same
        refine ⟨by show 3 ≤ sizeLine; decide, fun l hl => ?_⟩
        have nl : l ≠ p := fun z => by rw [z, hp2] at hl; cases hl
        refine ⟨_, rfl, p, st2, 3, rfl, by decide, by decide, Same.new hl _ _ hp2, ok2, fun k st3 k0 k1 ok3 => ?_⟩
        obtain ⟨e, _, em⟩ := pick (ms := [-1, n, 10 ^ (30 : Int).toNat - v]) k0 k1
        exact ⟨l, _, k, _, rfl, rfl, SqL.of (by rw [upd_ne nl, upd_same]; rfl), em, q _ _ st3 trivial (((b1.trans .set).trans (.of (.new hl))).trans .set) upd_same ok3⟩
end
end K09

set_option maxRecDepth 100000
set_option maxHeartbeats 8000000
namespace K09
open PySem PySem.Spec PyProof.Rows L2 GR
inductive Due where
  | noP (e : Int)
  | twice (e : Int)
  | told (row : List Int)
def dueOf (gap : Nat) (days starts ps : List Int) (person : Int) : Due :=
  match badP starts.length [] ps with
  | some (false, e) => .noP e
  | some (true, e) => .twice e
  | none => if 0 ≤ person ∧ person < starts.length then (if person ∈ ps then .twice person else .told (ngh (gF gap days starts ps person) days.length)) else .noP person
/-- the tuple that tells it; N: what is said of the told row's place -/
def IsDue (K : PySem.W.Frag) (N : Addr → Prop) (H : Hp) (t : Addr) : Due → Prop
  | .noP e => SqT K H t [.str "NoPerson", .int e, .bl true, .bl false]
  | .twice e => SqT K H t [.str "NamedTwice", .int e, .bl true, .bl false]
  | .told row => ∃ l, SqT K H t [.str "told", .ref l] ∧ H l = some (.lst (row.map V.int)) ∧ N l ∧ row.length ≤ 60
theorem IsDue.same {K : PySem.W.Frag} {N : Addr → Prop} {H H' : Hp} {t : Addr} {D : Due} (h : IsDue K N H t D) (s : Same H H') : IsDue K N H' t D := by
  cases D with
  | noP e => exact s.seqT h
  | twice e => exact s.seqT h
  | told row =>
    obtain ⟨l, h1, h2, h3, h4⟩ := h
    exact ⟨l, s.seqT h1, s _ _ h2, h3, h4⟩
section
variable {w : World} {K : PySem.W.Frag} {mg : Str → Option Value} {base : Heap}
def spDue (K : PySem.W.Frag) : Sp := fun vs H Q _ => ∃ (p a : Addr) (days starts ps : List Int) (gap : Nat) (person : Int), vs = [.ref p, .ref a, .int person] ∧ Part K H p days starts gap ∧ SqL K H a (ps.map V.int) ∧ PB days starts gap ∧ ps.length ≤ 1000 ∧
  ∀ H' t, Same H H' → IsDue K (fun l => H l = none) H' t (dueOf gap days starts ps person) → Q (.ref t) H'
theorem ok_law_due (T : Tx K mg) : Ok PG w K mg base CX0 4 (a_law_due K) p_law_due (spDue K) := by
  refine Ok.of 3 T.f_law_due sc_law_due bi_law_due (by decide) (fun vs H Q E h => ?_) (fun cdv A outer s H vs Q E hr h => ?_)
  · obtain ⟨_, _, _, _, _, _, _, rfl, _⟩ := h
    rfl
  · obtain ⟨p, a, days, starts, ps, gap, person, rfl, hP, ha, B, lp, q⟩ := h
    obtain ⟨d, t, g1, g2, g3⟩ := id hP
    have nd := sc_law_due.nd
    refine ⟨_, pss_cons (ps_set (i := 3) nd rfl (.inl rfl) (pe_callB call_len_seq (by rfl) T.m_len PySem.boot_len (pa_cons (pe_ix ix_list (pv 0) pe_int (fun _ _ => rfl)) pa_nil)))
      (pss_cons (ps_for (passX rfl) rfl (pi_range1 rfl T.m_range (pa_cons (pe_callB call_len_seq (by rfl) T.m_len PySem.boot_len (pa_cons (pv 1) pa_nil)) pa_nil)) (pg_name (i := 4) nd rfl (.inl rfl))
        (pss_cons (ps_if (pt_not (pt_chain op_le op_lt pe_int (pe_ix ix_list (pv 1) (pv 4) (fun _ _ => rfl)) (pv 3))) (pss_one (ps_ret (pe_tup (pa_cons pe_str (pa_cons (pe_ix ix_list (pv 1) (pv 4) (fun _ _ => rfl)) (pa_cons pe_bl (pa_cons pe_bl pa_nil))))))) pss_nil)
          (pss_one (ps_if (pt_cmpR op_in_seq (pe_ix ix_list (pv 1) (pv 4) (fun _ _ => rfl)) (pe_slice sl_list (pv 1) po_none (po_some (pv 4))) (by rfl)) (pss_one (ps_ret (pe_tup (pa_cons pe_str (pa_cons (pe_ix ix_list (pv 1) (pv 4) (fun _ _ => rfl)) (pa_cons pe_bl (pa_cons pe_bl pa_nil))))))) pss_nil))))
      (pss_cons (ps_if (pt_not (pt_chain op_le op_lt pe_int (pv 2) (pv 3))) (pss_one (ps_ret (pe_tup (pa_cons pe_str (pa_cons (pv 2) (pa_cons pe_bl (pa_cons pe_bl pa_nil))))))) pss_nil)
      (pss_cons (ps_if (pt_cmpR op_in_seq (pv 2) (pv 1) (by rfl)) (pss_one (ps_ret (pe_tup (pa_cons pe_str (pa_cons (pv 2) (pa_cons pe_bl (pa_cons pe_bl pa_nil))))))) pss_nil)
      (pss_one (ps_ret (pe_tup (pa_cons pe_str (pa_cons (pc (ok_law_growth T) hr T.g_law_growth pass0 (pa_cons (pv 0) (pa_cons (pv 1) (pa_cons (pv 2) pa_nil)))) pa_nil)))))))), ?_⟩
    refine ⟨_, rfl, p, _, _, _, rfl, rfl, g1, rfl, t, _, rfl, .inl g3, ?_⟩
    rw [List.length_map]
    have four : 4 ≤ sizeLine := by decide
    refine ⟨_, rfl, a, _, rfl, .inl ha, _, rfl, by omega, by rw [List.length_map]; omega, ?_⟩
    refine for_range (lo := 0) (n := (ps.map V.int).length) (fun i σ H' => ∃ x4, σ = [some (.ref p), some (.ref a), some (.int person), some (.int (starts.length : Nat)), x4] ∧ Same H H' ∧ badP starts.length (ps.take i) (ps.drop i) = badP starts.length [] ps) ⟨_, rfl, .refl _, rfl⟩ ?_ ?_
    · rintro i σ H1 hi ⟨x4, rfl, sm, hb⟩
      rw [List.length_map] at hi
      rw [Int.zero_add]
      obtain ⟨e, he⟩ : ∃ e, ps[i]? = some e := ⟨ps[i], List.getElem?_eq_getElem hi⟩
      obtain ⟨b1, b2, b3⟩ := badP_step hb he
      have hm : (ps.map V.int)[i]? = some (V.int e) := by rw [List.getElem?_map, he]; rfl
      have no : ¬ (0 ≤ e ∧ e < (starts.length : Int)) → ∀ x, H1 x = none → Q (.ref x) (upd H1 x (.tup [.str "NoPerson", .int e, .bl true, .bl false])) := fun c x hx => by
        refine q _ x (sm.new' hx) ?_
        unfold dueOf
        rw [b1 c]
        exact SqT.of upd_same
      refine ⟨_, rfl, _, rfl, a, _, _, _, rfl, rfl, sm.seq ha, atI_nat hm, _, _, rfl, rfl, _, rfl, ite2 (fun c => ?_) (fun c => ?_)⟩
      · refine ⟨_, rfl, _, _, rfl, rfl, _, rfl, ite2 (fun c2 => ?_) (fun c2 => ?_)⟩
        · have c2 : ¬ e < (starts.length : Int) := by simpa using c2
          exact ⟨_, rfl, _, rfl, a, _, _, _, rfl, rfl, sm.seq ha, atI_nat hm, four, fun x hx => no (fun y => c2 y.2) x hx⟩
        · have cc : 0 ≤ e ∧ e < (starts.length : Int) := ⟨of_decide_eq_true c, by simpa using c2⟩
          refine ⟨_, rfl, _, rfl, a, _, _, _, rfl, rfl, sm.seq ha, atI_nat hm, _, rfl, _, rfl, _, rfl, a, _, rfl, sm.seq ha, fun D hD => ?_⟩
          rw [cutTo]
          have s2 := sm.new' (o := .lst ((ps.map V.int).take i)) hD
          refine ⟨D, (ps.take i).map V.int, rfl, .inl (by rw [List.map_take]; exact SqL.of upd_same), rfl, flat_ints _, _, rfl, ite2 (fun m => ?_) (fun m => ?_)⟩
          · rw [inV_ints] at m
            refine ⟨_, rfl, _, rfl, a, _, _, _, rfl, rfl, s2.seq ha, atI_nat hm, four, fun x hx => ?_⟩
            refine q _ x (s2.new' hx) ?_
            unfold dueOf
            rw [b2 cc (of_decide_eq_true m)]
            exact SqT.of upd_same
          · rw [inV_ints] at m
            exact ⟨_, rfl, s2, b3 cc (by simpa using m)⟩
      · refine ⟨_, rfl, iteT ?_⟩
        have c : ¬ 0 ≤ e := fun z => c (decide_eq_true z)
        exact ⟨_, rfl, _, rfl, a, _, _, _, rfl, rfl, sm.seq ha, atI_nat hm, four, fun x hx => no (fun y => c y.1) x hx⟩
    · rintro σ H1 ⟨x4, rfl, sm, hb⟩
      rw [List.length_map] at hb
      have eb := badP_end hb
      have no : ¬ (0 ≤ person ∧ person < (starts.length : Int)) → ∀ x, H1 x = none → Q (.ref x) (upd H1 x (.tup [.str "NoPerson", .int person, .bl true, .bl false])) := fun c x hx => by
        refine q _ x (sm.new' hx) ?_
        unfold dueOf
        rw [eb]
        show IsDue K _ _ x (if _ then _ else _)
        rw [if_neg c]
        exact SqT.of upd_same
      refine ⟨_, rfl, _, _, rfl, rfl, _, rfl, ite2 (fun c => ?_) (fun c => ?_)⟩
      · refine ⟨_, rfl, _, _, rfl, rfl, _, rfl, ite2 (fun c2 => ?_) (fun c2 => ?_)⟩
        · have c2 : ¬ person < (starts.length : Int) := by simpa using c2
          exact ⟨_, rfl, four, fun x hx => no (fun y => c2 y.2) x hx⟩
        · have cc : 0 ≤ person ∧ person < (starts.length : Int) := ⟨of_decide_eq_true c, by simpa using c2⟩
          refine ⟨_, rfl, _, rfl, a, _, rfl, .inl (sm.seq ha), rfl, flat_ints _, _, rfl, ite2 (fun m => ?_) (fun m => ?_)⟩
          · rw [inV_ints] at m
            refine ⟨_, rfl, four, fun x hx => ?_⟩
            refine q _ x (sm.new' hx) ?_
            unfold dueOf
            rw [eb]
            show IsDue K _ _ x (if _ then _ else _)
            rw [if_pos cc, if_pos (of_decide_eq_true m)]
            exact SqT.of upd_same
          · rw [inV_ints] at m
            have m : person ∉ ps := by simpa using m
            obtain ⟨pn, rfl⟩ : ∃ pn : Nat, person = (pn : Nat) := ⟨person.toNat, by omega⟩
            refine ⟨_, rfl, _, rfl, _, rfl, p, a, days, starts, ps, gap, pn, rfl, hP.same sm, sm.seq ha, B.ld, lp, (badP_none.mp eb).1, by omega, B.bs, fun H2 l s2 hl0 hl => ⟨by show 2 ≤ sizeLine; decide, fun x hx => ?_⟩⟩
            refine q _ x ((sm.trans s2).new' hx) ?_
            unfold dueOf
            rw [eb]
            show IsDue K _ _ x (if _ then _ else _)
            rw [if_pos cc, if_neg m]
            exact ⟨l, SqT.of upd_same, Same.new hx _ _ hl, sm.free hl0, by have := ngh_le (gF gap days starts ps ((pn : Nat) : Int)) days.length; have := B.ld; omega⟩
      · refine ⟨_, rfl, iteT ?_⟩
        have c : ¬ 0 ≤ person := fun z => c (decide_eq_true z)
        exact ⟨_, rfl, four, fun x hx => no (fun y => c y.1) x hx⟩
end
end K09

set_option maxRecDepth 100000
set_option maxHeartbeats 8000000
namespace K09
open PySem PySem.Spec PyProof.Rows L2 GR
section
variable {w : World} {K : PySem.W.Frag} {mg : Str → Option Value} {base : Heap}
def spTry (K : PySem.W.Frag) : Sp := fun vs H Q _ => ∃ (h a : Addr) (days starts ps : List Int) (gap : Nat) (person : Int), vs = [.ref h, .ref a, .int person] ∧ IsH K H h days starts (gap : Nat) ∧ SqL K H a (ps.map V.int) ∧ PB days starts gap ∧ ps.length ≤ 1000 ∧
  ∀ H' t, Same H H' → IsDue K (fun l => H l = none) H' t (dueOf gap days starts ps person) → Q (.ref t) H'
theorem ok_law_try (T : Tx K mg) : Ok PG w K mg base CX0 9 (a_law_try K) p_law_try (spTry K) := by
  refine Ok.of 8 T.f_law_try sc_law_try bi_law_try (by decide) (fun vs H Q E h => ?_) (fun cdv A outer s H vs Q E hr h => ?_)
  · obtain ⟨_, _, _, _, _, _, _, rfl, _⟩ := h
    rfl
  · obtain ⟨h, a, days, starts, ps, gap, person, rfl, hh, ha, B, lp, q⟩ := h
    have nd := sc_law_try.nd
    refine ⟨_, pss_cons (ps_set (i := 3) nd rfl (.inl rfl) pe_non)
      (pss_cons (ps_set (i := 4) nd rfl (.inl rfl) (pe_tup (pa_cons pe_str pa_nil)))
      (pss_cons (ps_try_any rfl rfl nd takes0
          (fun W pn xe tk _ => (pss_one (ps_set (i := 3) nd rfl (.inl rfl) (pcS (ok_growth T) (hr.mono (by decide)) T.g_growth (fun σ => passAt tk σ) (pa_cons (pv 0) (pa_cons (pv 1) (pa_cons (pv 2) pa_nil)))))))
          (.as (i := 5) ⟨rfl, by decide, .inl T.e_NoPerson.gC⟩ rfl rfl (fun a oe cls d pn hz hf => (pss_one (ps_set (i := 4) nd rfl (.inl rfl) (pe_tup (pa_cons pe_str (pa_cons (pe_xf T.xNoPerson.1 T.nNoPerson_person hz hf (pv 5)) (pa_cons (pe_and (pe_callB (call_isD T.xNoPerson.2 hz hf) (by rfl) T.m_isinstance (by decide +kernel) (pa_cons (pv 5) (pa_cons (pgC T.gNightsError) pa_nil))) (pe_one (pe_callB (call_isD T.xNoPerson.2 hz hf) (by rfl) T.m_isinstance (by decide +kernel) (pa_cons (pv 5) (pa_cons (pe_bltn (v := .ty "ValueError") (by rfl) T.m_ValueError (by decide +kernel) rfl) pa_nil))))) (pa_cons (pe_callB (call_isD T.xNoPerson.2 hz hf) (by rfl) T.m_isinstance (by decide +kernel) (pa_cons (pv 5) (pa_cons (pgC T.e_NamedTwice.gC) pa_nil))) pa_nil))))))))
          (.as (i := 5) ⟨rfl, by decide, .inl T.e_NamedTwice.gC⟩ rfl rfl (fun a oe cls d pn hz hf => (pss_one (ps_set (i := 4) nd rfl (.inl rfl) (pe_tup (pa_cons pe_str (pa_cons (pe_xf T.xNamedTwice.1 T.nNamedTwice_person hz hf (pv 5)) (pa_cons (pe_and (pe_callB (call_isD T.xNamedTwice.2 hz hf) (by rfl) T.m_isinstance (by decide +kernel) (pa_cons (pv 5) (pa_cons (pgC T.gNightsError) pa_nil))) (pe_one (pe_callB (call_isD T.xNamedTwice.2 hz hf) (by rfl) T.m_isinstance (by decide +kernel) (pa_cons (pv 5) (pa_cons (pe_bltn (v := .ty "ValueError") (by rfl) T.m_ValueError (by decide +kernel) rfl) pa_nil))))) (pa_cons pe_bl pa_nil))))))))
          .nil)))
      (pss_cons (ps_if (pt_cmpR op_eq (pe_ix ix_tup (pv 4) pe_int (fun _ _ => rfl)) pe_str (nomark _)) (pss_one (ps_ret (pe_tup (pa_cons pe_str (pa_cons (pv 3) pa_nil))))) pss_nil)
      (pss_one (ps_ret (pv 4)))))), ?_⟩
    refine ⟨by show 1 ≤ sizeLine; decide, fun wd hwd => ?_⟩
    have s1 : Same H (upd H wd (.tup [.str "told"])) := .new hwd
    refine ⟨_, rfl, _, rfl, _, rfl, h, a, days, starts, ps, gap, person, rfl, hh.same s1, s1.seq ha, lp, B.bs, fun e c => ?_, fun e c => ?_, fun eb c => ?_, fun eb c m => ?_, fun eb c m H' l sm hl0 hl => ?_⟩
    · intro H' d sm hd
      have s2 : Same H (upd H' d (xP e)) := (s1.trans sm).new' hd
      refine ⟨true, T.mNoPerson_NoPerson, fun _ x hx => ?_, fun z => nomatch z⟩
      refine ⟨_, rfl, rfl, rfl, d, _, _, rfl, upd_same, rfl, ?_⟩
      refine ⟨_, rfl, rfl, _, _, true, d, _, rfl, fun u r => r, rfl, upd_same, T.kNoPerson_NightsError, _, rfl, yep rfl ?_⟩
      refine ⟨_, rfl, rfl, _, _, true, d, _, rfl, fun u r => r, rfl, upd_same, T.kNoPerson_ValueError, ?_⟩
      refine ⟨_, rfl, rfl, _, _, false, d, _, rfl, fun u r => r, rfl, upd_same, T.kNoPerson_NamedTwice, ?_⟩
      refine ⟨by show 4 ≤ sizeLine; decide, fun w2 hw2 => ?_⟩
      refine ⟨_, rfl, w2, _, _, _, rfl, rfl, SqT.of upd_same, rfl, rfl, _, rfl, nope (by decide) ?_⟩
      refine ⟨_, rfl, q _ w2 (s2.new' hw2) ?_⟩
      unfold dueOf
      rw [c]
      exact SqT.of upd_same
    · intro H' d sm hd
      have s2 : Same H (upd H' d (xP e)) := (s1.trans sm).new' hd
      refine ⟨false, T.mNamedTwice_NoPerson, ⟨fun z => Bool.noConfusion z, fun _ => ⟨true, T.mNamedTwice_NamedTwice, fun _ x hx => ?_, fun z => nomatch z⟩⟩⟩
      refine ⟨_, rfl, rfl, rfl, d, _, _, rfl, upd_same, rfl, ?_⟩
      refine ⟨_, rfl, rfl, _, _, true, d, _, rfl, fun u r => r, rfl, upd_same, T.kNamedTwice_NightsError, _, rfl, yep rfl ?_⟩
      refine ⟨_, rfl, rfl, _, _, true, d, _, rfl, fun u r => r, rfl, upd_same, T.kNamedTwice_ValueError, ?_⟩
      refine ⟨by show 4 ≤ sizeLine; decide, fun w2 hw2 => ?_⟩
      refine ⟨_, rfl, w2, _, _, _, rfl, rfl, SqT.of upd_same, rfl, rfl, _, rfl, nope (by decide) ?_⟩
      refine ⟨_, rfl, q _ w2 (s2.new' hw2) ?_⟩
      unfold dueOf
      rw [c]
      exact SqT.of upd_same
    · intro H' d sm hd
      have s2 : Same H (upd H' d (xP person)) := (s1.trans sm).new' hd
      refine ⟨true, T.mNoPerson_NoPerson, fun _ x hx => ?_, fun z => nomatch z⟩
      refine ⟨_, rfl, rfl, rfl, d, _, _, rfl, upd_same, rfl, ?_⟩
      refine ⟨_, rfl, rfl, _, _, true, d, _, rfl, fun u r => r, rfl, upd_same, T.kNoPerson_NightsError, _, rfl, yep rfl ?_⟩
      refine ⟨_, rfl, rfl, _, _, true, d, _, rfl, fun u r => r, rfl, upd_same, T.kNoPerson_ValueError, ?_⟩
      refine ⟨_, rfl, rfl, _, _, false, d, _, rfl, fun u r => r, rfl, upd_same, T.kNoPerson_NamedTwice, ?_⟩
      refine ⟨by show 4 ≤ sizeLine; decide, fun w2 hw2 => ?_⟩
      refine ⟨_, rfl, w2, _, _, _, rfl, rfl, SqT.of upd_same, rfl, rfl, _, rfl, nope (by decide) ?_⟩
      refine ⟨_, rfl, q _ w2 (s2.new' hw2) ?_⟩
      unfold dueOf
      rw [eb]
      show IsDue K _ _ w2 (if _ then _ else _)
      rw [if_neg c]
      exact SqT.of upd_same
    · intro H' d sm hd
      have s2 : Same H (upd H' d (xP person)) := (s1.trans sm).new' hd
      refine ⟨false, T.mNamedTwice_NoPerson, ⟨fun z => Bool.noConfusion z, fun _ => ⟨true, T.mNamedTwice_NamedTwice, fun _ x hx => ?_, fun z => nomatch z⟩⟩⟩
      refine ⟨_, rfl, rfl, rfl, d, _, _, rfl, upd_same, rfl, ?_⟩
      refine ⟨_, rfl, rfl, _, _, true, d, _, rfl, fun u r => r, rfl, upd_same, T.kNamedTwice_NightsError, _, rfl, yep rfl ?_⟩
      refine ⟨_, rfl, rfl, _, _, true, d, _, rfl, fun u r => r, rfl, upd_same, T.kNamedTwice_ValueError, ?_⟩
      refine ⟨by show 4 ≤ sizeLine; decide, fun w2 hw2 => ?_⟩
      refine ⟨_, rfl, w2, _, _, _, rfl, rfl, SqT.of upd_same, rfl, rfl, _, rfl, nope (by decide) ?_⟩
      refine ⟨_, rfl, q _ w2 (s2.new' hw2) ?_⟩
      unfold dueOf
      rw [eb]
      show IsDue K _ _ w2 (if _ then _ else _)
      rw [if_pos c, if_pos m]
      exact SqT.of upd_same
    · refine ⟨_, rfl, wd, _, _, _, rfl, rfl, sm.seqT (SqT.of upd_same), rfl, rfl, _, rfl, yep (by decide) ?_⟩
      refine ⟨_, rfl, by show 2 ≤ sizeLine; decide, fun x hx => ?_⟩
      refine q _ x ((s1.trans sm).new' hx) ?_
      unfold dueOf
      rw [eb]
      show IsDue K _ _ x (if _ then _ else _)
      rw [if_pos c, if_neg m]
      exact ⟨l, SqT.of upd_same, Same.new hx _ _ hl, s1.free hl0, by have := ngh_le (gF gap days starts ps person) days.length; have := B.ld; omega⟩
end
end K09

set_option maxRecDepth 100000
set_option maxHeartbeats 8000000
namespace K09
open PySem PySem.Spec PyProof.Rows L2 GR
theorem here_wide (starts : List Int) (n : Int) (ps : List Int) (person : Int) (j : Nat) : hereP starts (ps.take j ++ [person] ++ ps.drop j) n = hereP starts ps n + if starts.getD person.toNat 0 ≤ n then 1 else 0 := by
  unfold hereP
  have e : ((ps.take j).filter fun p => decide (starts.getD p.toNat 0 ≤ n)).length + ((ps.drop j).filter fun p => decide (starts.getD p.toNat 0 ≤ n)).length = (ps.filter fun p => decide (starts.getD p.toNat 0 ≤ n)).length := by
    rw [← List.length_append, ← List.filter_append, List.take_append_drop]
  rw [List.filter_append, List.filter_append, List.length_append, List.length_append]
  by_cases h : starts.getD person.toNat 0 ≤ n
  · rw [if_pos h, List.filter_cons_of_pos (by exact decide_eq_true h)]
    simp only [List.filter_nil, List.length_cons, List.length_nil]
    omega
  · rw [if_neg h, List.filter_cons_of_neg (by simpa using h)]
    simp only [List.filter_nil, List.length_nil]
    omega
/-- a person more: first choice -/
theorem xF_wide {gap : Nat} {days starts ps : List Int} {person : Int} {c : Nat} (ec : starts.getD person.toNat 0 = (c : Nat)) (j : Nat) (k : Nat) : xF gap days starts (ps.take j ++ [person] ++ ps.drop j) k = xF gap days starts ps k + gF gap days starts ps person k := by
  have h1 := fcx_is gap (dF days) (hhF starts ps)
  have h2 : IsGr gap c (dF days) (xF gap days starts ps) (gF gap days starts ps person) := by
    unfold gF
    rw [ec, Int.toNat_natCast]
    exact grx_is _ _ _ _
  have h3 := grow_fc (h' := hhF starts (ps.take j ++ [person] ++ ps.drop j)) h1 h2 fun k => by
    unfold hhF
    rw [here_wide, ec]
    congr 1
    by_cases z : c ≤ k + 1
    · rw [if_pos z, if_pos (by omega)]
    · rw [if_neg z, if_neg (by omega)]
  exact (fcx_is gap (dF days) (hhF starts (ps.take j ++ [person] ++ ps.drop j))).uniq h3 k
theorem badP_wide {n : Int} {ps : List Int} {person : Int} (h : badP n [] ps = none) (c : 0 ≤ person ∧ person < n) (m : person ∉ ps) (j : Nat) : badP n [] (ps.take j ++ [person] ++ ps.drop j) = none := by
  rw [badP_none] at h ⊢
  obtain ⟨h1, h2, _⟩ := h
  have pm : (ps.take j ++ [person] ++ ps.drop j).Perm (person :: ps) := by
    conv => rhs; rw [← List.take_append_drop j ps]
    rw [List.append_assoc, List.singleton_append]
    exact List.perm_middle
  refine ⟨fun x hx => ?_, pm.nodup_iff.mpr (List.nodup_cons.mpr ⟨m, h2⟩), fun x _ z => by cases z⟩
  rcases List.mem_cons.mp (pm.mem_iff.mp hx) with rfl | z
  · exact c
  · exact h1 x z
section
variable {w : World} {K : PySem.W.Frag} {mg : Str → Option Value} {base : Heap}
def spGrows (K : PySem.W.Frag) : Sp := fun vs H Q _ => ∃ (h p a : Addr) (days starts ps : List Int) (gap person j : Nat), vs = [.ref h, .ref p, .ref a, .int (person : Nat), .int (j : Nat)] ∧ IsH K H h days starts (gap : Nat) ∧ Part K H p days starts gap ∧ SqL K H a (ps.map V.int) ∧ PB days starts gap ∧ ps.length ≤ 100 ∧ badP starts.length [] ps = none ∧ person < starts.length ∧ ((person : Nat) : Int) ∉ ps ∧ ∀ H', Same H H' → Q (.bl true) H'
theorem ok_law_grows (T : Tx K mg) : Ok PG w K mg base CX0 8 (a_law_grows K) p_law_grows (spGrows K) := by
  refine Ok.of 7 T.f_law_grows sc_law_grows bi_law_grows (by decide) (fun vs H Q E h => ?_) (fun cdv A outer s H vs Q E hr h => ?_)
  · obtain ⟨_, _, _, _, _, _, _, _, _, rfl, _⟩ := h
    rfl
  · obtain ⟨h, p, a, days, starts, ps, gap, person, j, rfl, hh, hP, ha, B, lp, eb, hpe, m, q⟩ := h
    obtain ⟨d, t, g1, g2, g3⟩ := id hP
    have nd := sc_law_grows.nd
    refine ⟨_, pss_cons (ps_set (i := 5) nd rfl (.inr rfl) (pc (ok_law_growth T) (hr.mono (by decide)) T.g_law_growth pass0 (pa_cons (pv 1) (pa_cons (pv 2) (pa_cons (pv 3) pa_nil)))))
      (pss_cons (ps_set (i := 6) nd rfl (.inr rfl) (pc (ok_law_first T) (hr.mono (by decide)) T.g_law_first pass0 (pa_cons (pe_ix ix_list (pv 1) pe_int (fun _ _ => rfl)) (pa_cons (pe_ix ix_list (pv 1) pe_int (fun _ _ => rfl)) (pa_cons (pe_ix ix_list (pv 1) pe_int (fun _ _ => rfl)) (pa_cons (pv 2) pa_nil))))))
      (pss_cons (ps_setLc (i := 7) (own := [("at", 8)]) (g := gName 8) (tt := tYes) rfl nd rfl rfl (sw_true rfl rfl rfl (by decide +kernel)) (pi_range1 rfl T.m_range (pa_cons (pe_callB call_len_seq (by rfl) T.m_len PySem.boot_len (pa_cons (pv 6) pa_nil)) pa_nil)) (blkOk_by (N := n_law_grows) (sc := defScope s_law_grows) (by decide +kernel)) (fun _ _ _ _ _ => pg_name (i := 8) nd rfl (Or.inl rfl)) (fun _ _ _ _ _ => pts_nil) (fun _ _ _ _ _ => pe_op op_add (pe_ix (r := rIxL K) (ta := tVar 6) (tb := tVar 8) ix_list (pv 6) (pv 8) (fun _ _ => rfl)) (pe_callTy call_int1 (by rfl) T.m_int (by decide +kernel) (pa_cons (pe_cmpR (r := rIn K false) op_in_seq (pe_op op_add (pv 8) pe_int) (pv 5) (by rfl)) pa_nil))))
      (pss_cons (ps_set (i := 9) nd rfl (.inl rfl) (pe_op op_cat (pe_op op_cat (pe_slice sl_list (pv 2) po_none (po_some (pv 4))) (pe_lst (pa_cons (pv 3) pa_nil))) (pe_slice sl_list (pv 2) (po_some (pv 4)) po_none)))
      (pss_one (ps_ret (pe_and (pc (ok_law_same T 1) (hr.mono (by decide)) T.g_law_same pass0 (pa_cons (pc (ok_first_choice T) (hr.mono (by decide)) T.g_first_choice passF (pa_cons (pv 0) (pa_cons (pe_callTy call_list_of (by rfl) T.m_list (by decide +kernel) (pa_cons (pv 2) pa_nil)) pa_nil))) (pa_cons (pv 6) pa_nil))) (pe_one (pc (ok_law_same T 1) (hr.mono (by decide)) T.g_law_same pass0 (pa_cons (pc (ok_first_choice T) (hr.mono (by decide)) T.g_first_choice passF (pa_cons (pv 0) (pa_cons (pv 9) pa_nil))) (pa_cons (pv 7) pa_nil)))))))))), ?_⟩
    have hin := (badP_none.mp eb).1
    refine ⟨_, rfl, _, rfl, _, rfl, p, a, days, starts, ps, gap, person, rfl, hP, ha, B.ld, by omega, hin, hpe, B.bs, fun H1 nA s1 hn0 hnA => ?_⟩
    refine ⟨_, rfl, p, _, _, _, rfl, rfl, s1.seq g1, rfl, _, rfl, p, _, _, _, rfl, rfl, s1.seq g1, rfl, _, rfl, p, _, _, _, rfl, rfl, s1.seq g1, rfl, _, rfl, d, t, a, days, starts, ps, gap, rfl, s1.seq g2, s1.seq g3, s1.seq ha, B.ld, by omega, hin, fun H2 xL s2 hx0 hx => ?_⟩
    have s12 := s1.trans s2
    refine ⟨_, rfl, xL, _, rfl, .inl (SqL.of hx), _, rfl, by omega, (by have := B.ld; simp; omega), fun D hD => ?_⟩
    have hnA2 := s2 _ _ hnA
    refine lc_range (lo := 0) (n := (((((List.range days.length).map (xF gap days starts ps)).map V.int).length : Nat) : Int).toNat) (fun i H' => Same H2 H' ∧ H' D = some (.lst (((List.range i).map fun k => xF gap days starts ps k + gF gap days starts ps (person : Nat) k).map V.int))) ⟨.new hD, upd_same⟩ (fun i H' hi z => ?_) (fun H' z => ?_)
    · obtain ⟨sm, hd⟩ := z
      have hi : i < days.length := by simp at hi; omega
      have hx2 : (((List.range days.length).map (xF gap days starts ps)).map V.int)[i]? = some (V.int (xF gap days starts ps i)) := by
        rw [List.getElem?_map, List.getElem?_map, List.getElem?_range hi]; rfl
      have G : IsGr gap (starts.getD ((person : Nat) : Int).toNat 0).toNat (dF days) (xF gap days starts ps) (gF gap days starts ps (person : Nat)) := grx_is _ _ _ _
      have em : (if inV (V.int ((i : Nat) + 1)) ((ngh (gF gap days starts ps (person : Nat)) days.length).map V.int) = true then (1 : Int) else 0) = gF gap days starts ps (person : Nat) i := by
        rw [inV_ints]
        have mm : (((i : Nat) : Int) + 1 ∈ ngh (gF gap days starts ps (person : Nat)) days.length) ↔ gF gap days starts ps (person : Nat) i = 1 := by
          rw [ngh_mem]
          constructor
          · rintro ⟨k, _, h2, h3⟩
            rw [show i = k by omega]
            exact h2
          · intro z
            exact ⟨i, hi, z, rfl⟩
        rcases G.bit i with z | z
        · rw [if_neg (by rw [decide_eq_true_iff, mm, z]; decide), z]
        · rw [if_pos (by rw [decide_eq_true_iff, mm, z]), z]
      rw [Int.zero_add]
      refine ⟨rfl, yesT ⟨_, rfl, _, rfl, xL, _, _, _, rfl, rfl, SqL.of (sm _ _ hx), atI_nat hx2, _, rfl, _, _, rfl, rfl, _, rfl, nA, _, rfl, .inl (SqL.of (sm _ _ hnA2)), rfl, flat_ints _, .inr ⟨_, rfl, _, _, rfl, rfl, _, hd, ?_, fun b o eb => ?_, ?_⟩⟩⟩
      · rw [List.length_map, List.length_map, List.length_range, sizeLine_eq]; have := B.ld; omega
      · rw [upd_ne (fun z => by rw [z, hD] at eb; cases eb)]
        exact sm _ _ eb
      · rw [upd_same, List.range_succ, List.map_append, List.map_append]
        show some (HO.lst (List.map V.int (List.map (fun k => xF gap days starts ps k + gF gap days starts ps (person : Nat) k) (List.range i)) ++ [V.int (xF gap days starts ps i + (if inV (V.int ((i : Nat) + 1)) ((ngh (gF gap days starts ps (person : Nat)) days.length).map V.int) = true then (1 : Int) else 0))])) = _
        rw [em]
        rfl
    · obtain ⟨sm, hd⟩ := z
      rw [show (((((List.range days.length).map (xF gap days starts ps)).map V.int).length : Nat) : Int).toNat = days.length by simp] at hd
      have s3 := s12.trans sm
      have ha3 := s3.seq ha
      have lpj : j ≤ j := Nat.le_refl _
      refine ⟨_, rfl, _, rfl, _, rfl, a, _, rfl, ha3, fun u hu => ?_⟩
      rw [cutTo]
      have su : Same H' (upd H' u (.lst ((ps.map V.int).take j))) := .new hu
      refine ⟨_, rfl, by show 1 ≤ sizeLine; decide, fun x hx' => ?_⟩
      have sx := su.new' (o := .lst [.int (person : Nat)]) hx'
      refine ⟨u, x, _, _, rfl, rfl, Same.new hx' _ _ upd_same, upd_same, by rw [List.length_take, List.length_map, sizeLine_eq]; simp; omega, fun y hy => ?_⟩
      have sy := sx.new' (o := .lst ((ps.map V.int).take j ++ [.int (person : Nat)])) hy
      refine ⟨_, rfl, _, rfl, _, rfl, a, _, rfl, sy.seq ha3, fun z hz => ?_⟩
      rw [cutFrom]
      have sz := sy.new' (o := .lst ((ps.map V.int).drop j)) hz
      refine ⟨y, z, _, _, rfl, rfl, Same.new hz _ _ upd_same, upd_same, by rw [List.length_append, List.length_take, List.length_drop, List.length_map, sizeLine_eq]; simp; omega, fun r hrr => ?_⟩
      have sr := sz.new' (o := .lst ((ps.map V.int).take j ++ [.int (person : Nat)] ++ (ps.map V.int).drop j)) hrr
      have hr4 : upd (upd (upd (upd (upd H' u (.lst ((ps.map V.int).take j))) x (.lst [.int (person : Nat)])) y (.lst ((ps.map V.int).take j ++ [.int (person : Nat)]))) z (.lst ((ps.map V.int).drop j))) r (.lst ((ps.map V.int).take j ++ [.int (person : Nat)] ++ (ps.map V.int).drop j)) r = some (.lst ((ps.take j ++ [((person : Nat) : Int)] ++ ps.drop j).map V.int)) := by
        rw [upd_same, List.map_append, List.map_append, List.map_take, List.map_drop]; rfl
      generalize upd (upd (upd (upd (upd H' u (.lst ((ps.map V.int).take j))) x (.lst [.int (person : Nat)])) y (.lst ((ps.map V.int).take j ++ [.int (person : Nat)]))) z (.lst ((ps.map V.int).drop j))) r (.lst ((ps.map V.int).take j ++ [.int (person : Nat)] ++ (ps.map V.int).drop j)) = H4 at sr hr4 ⊢
      have s4 := s3.trans sr
      have s24 := sm.trans sr
      have bc := B.bs _ (List.getElem_mem hpe)
      obtain ⟨c, hc⟩ : ∃ c : Nat, starts[person] = (c : Nat) := ⟨starts[person].toNat, by omega⟩
      have eg : starts.getD ((person : Nat) : Int).toNat 0 = (c : Nat) := by rw [Int.toNat_natCast, List.getD_eq_getElem?_getD, List.getElem?_eq_getElem hpe]; exact hc
      have ebw := badP_wide (n := (starts.length : Nat)) eb (person := (person : Nat)) (by omega) m j
      refine ⟨_, rfl, _, rfl, a, _, rfl, .inl (s4.seq ha), fun v hv => ?_⟩
      have s5 := s4.new' (o := .lst (ps.map V.int)) hv
      refine ⟨h, v, days, starts, ps, gap, rfl, hh.same s5, SqL.of upd_same, (fun e c => by rw [eb] at c; cases c), (fun e c => by rw [eb] at c; cases c), fun _ => ⟨by omega, fun H6 l6 s6 hl60 hl6 => ?_⟩⟩
      rw [take_eq] at hl6
      have s46 := (Same.new hv).trans s6
      refine ⟨_, rfl, _, _, rfl, Eqd.row (.inr ⟨SqL.of hl6, SqL.of (s46 _ _ (s24 _ _ hx))⟩) (by rw [List.length_map, List.length_range]; have := B.ld; omega), _, rfl, yep rfl ?_⟩
      refine ⟨_, rfl, _, rfl, h, r, days, starts, _, gap, rfl, hh.same (s4.trans s46), SqL.of (s46 _ _ hr4), (fun e c => by rw [ebw] at c; cases c), (fun e c => by rw [ebw] at c; cases c), fun _ => ⟨by rw [List.length_append, List.length_append, List.length_take, List.length_drop]; simp; omega, fun H7 l7 s7 hl70 hl7 => ?_⟩⟩
      rw [take_eq, List.map_congr_left (fun k _ => xF_wide eg j k)] at hl7
      have s47 := s46.trans s7
      exact ⟨_, rfl, _, _, rfl, Eqd.row (.inr ⟨SqL.of hl7, SqL.of (s47 _ _ (sr _ _ hd))⟩) (by rw [List.length_map, List.length_range]; have := B.ld; omega), q _ (s4.trans s47)⟩
end
end K09

set_option maxRecDepth 100000
set_option maxHeartbeats 8000000
namespace K09
open PySem PySem.Spec PyProof.Rows L2 GR
theorem hereP_perm {starts ps qs : List Int} (h : ps.Perm qs) (n : Int) : hereP starts ps n = hereP starts qs n := by
  unfold hereP
  rw [(h.filter _).length_eq]
theorem xF_perm {gap : Nat} {days starts ps qs : List Int} (h : ps.Perm qs) : xF gap days starts ps = xF gap days starts qs := by
  unfold xF
  congr 1
  funext k
  exact hereP_perm h _
theorem xF_more {gap : Nat} {days starts : List Int} (bs : ∀ x ∈ starts, 1 ≤ x) (rest inner : List Int) (hr : ∀ p ∈ rest, 0 ≤ p ∧ p < (starts.length : Nat)) (k : Nat) : xF gap days starts inner k ≤ xF gap days starts (rest ++ inner) k := by
  induction rest with
  | nil => exact Int.le_refl _
  | cons p rest ih =>
    have h1 := ih fun q hq => hr q (by simp [hq])
    obtain ⟨p0, p1⟩ := hr p (by simp)
    have hp : p.toNat < starts.length := by omega
    have b := bs _ (List.getElem_mem hp)
    have eg : starts.getD p.toNat 0 = ((starts.getD p.toNat 0).toNat : Nat) := by
      rw [List.getD_eq_getElem?_getD, List.getElem?_eq_getElem hp]
      show starts[p.toNat] = ((starts[p.toNat]).toNat : Int)
      omega
    have h2 := xF_wide (gap := gap) (days := days) (ps := rest ++ inner) eg 0 k
    rw [List.take_zero, List.drop_zero, List.nil_append, List.singleton_append] at h2
    have h3 : 0 ≤ gF gap days starts (rest ++ inner) p k := (grx_is gap (starts.getD p.toNat 0).toNat (dF days) (xF gap days starts (rest ++ inner))).nn k
    rw [List.cons_append, h2]
    omega
theorem grown_less {gap : Nat} {days starts inner outer free : List Int} (bs : ∀ x ∈ starts, 1 ≤ x) (G : Grp starts.length inner outer free) (person : Int) (n : Nat) : ((ngh (gF gap days starts outer person) n).length : Int) ≤ (ngh (gF gap days starts inner person) n).length := by
  obtain ⟨rest, pm, hr⟩ := G.pr
  have h1 := grx_is gap (starts.getD person.toNat 0).toNat (dF days) (xF gap days starts inner)
  have h2 := grx_is gap (starts.getD person.toNat 0).toNat (dF days) (xF gap days starts outer)
  have h3 := grow_more h1 h2 (fun k => by rw [xF_perm pm]; exact xF_more bs rest inner hr k) n
  have e1 := ngh_len (f := gF gap days starts inner person) h1.bit n
  have e2 := ngh_len (f := gF gap days starts outer person) h2.bit n
  rw [e1, e2]
  exact h3
section
variable {w : World} {K : PySem.W.Frag} {mg : Str → Option Value} {base : Heap}
theorem IsW.but {p t : Addr} {H H' : Hp} {ns : List Int} {ps : List V} (h : IsW K H t ns) (b : But p H H') (hp : H p = some (.lst ps)) : IsW K H' t ns := by
  obtain ⟨dx, u, h1, h2⟩ := h
  exact ⟨dx, u, b _ _ (fun z => by rw [z, hp] at h1; cases h1) h1, b.seqT hp h2⟩
theorem IsH.but {p t : Addr} {H H' : Hp} {days starts : List Int} {gap : Int} {ps : List V} (h : IsH K H t days starts gap) (b : But p H H') (hp : H p = some (.lst ps)) : IsH K H' t days starts gap := by
  obtain ⟨dx, u, v, h1, h2, h3, h4⟩ := h
  exact ⟨dx, u, v, b _ _ (fun z => by rw [z, hp] at h1; cases h1) h1, h2.but b hp, b.seqT hp h3, h4⟩
theorem mk_hok {H : Hp} {wp a : Addr} {days starts : List Int} {gap : Int} (hw : IsW K H wp days) (ld : days.length ≤ 60) (ha : SqA K H a (starts.map V.int)) (ls : starts.length ≤ 30) (hb : badc (days.length + 1) 0 starts = none) (hg : 0 ≤ gap ∧ gap ≤ 60) (x dx : Addr) (hx : H x = none) (hdx : H dx = none) (hne : dx ≠ x) (Q : VK) (q : ∀ H', Same H H' → IsH K H' x days starts gap → Q .non H') :
    spHInit K ([.ref x, .ref wp, .ref a, .int gap]) (upd (upd H dx (.own x)) x (.ins (c_House K) dx [])) Q (fun _ _ _ => False) := by
  obtain ⟨x', wp', a', dx', d', s', g', e, h1, h2, h3, h4, h5, h6, h7, h8⟩ := mk_house (Q := fun y H' => ∃ p, y = .ref p ∧ Same H H' ∧ IsH K H' p days starts gap) (E := fun _ _ _ => False) hw ld ha ⟨fun c => absurd c (by omega), fun _ i n e => (by rw [hb] at e; cases e), fun _ _ r => absurd hg r, fun _ _ _ H' p s g => ⟨p, rfl, s, g⟩⟩ x dx hx hdx hne
  refine ⟨x', wp', a', dx', d', s', g', e, h1, h2, h3, h4, h5, h6, h7, fun c e2 r H' t s2 ht => ?_⟩
  obtain ⟨_, p, e', s'', gg⟩ := h8 c e2 r H' t s2 ht
  cases e
  cases e'
  exact q _ s'' gg
/-- what stands while the law goes -/
structure LS (K : PySem.W.Frag) (days starts : List Int) (gap : Nat) (l h L i o f GL r1 r2 : Addr) (inner outer free g1 g2 : List Int) (H : Hp) : Prop where
  part : Part K H l days starts gap
  hh : IsH K H h days starts (gap : Nat)
  hL : H L = some (.lst [.ref i, .ref o, .ref f])
  hi : H i = some (.lst (inner.map V.int))
  ho : H o = some (.lst (outer.map V.int))
  hG : H GL = some (.lst [.ref r1, .ref r2])
  h1 : H r1 = some (.lst (g1.map V.int))
  h2 : H r2 = some (.lst (g2.map V.int))
theorem LS.but {days starts : List Int} {gap : Nat} {l h L i o f GL r1 r2 p : Addr} {inner outer free g1 g2 : List Int} {H H' : Hp} {st : List V} (S : LS K days starts gap l h L i o f GL r1 r2 inner outer free g1 g2 H) (b : But p H H') (hp : H p = some (.lst st)) (nl : ∀ d t, SqL K H l [.ref d, .ref t, .int (gap : Nat)] → l ≠ p ∧ d ≠ p ∧ t ≠ p) (nL : L ≠ p) (ni : i ≠ p) (no : o ≠ p) (nG : GL ≠ p) (n1 : r1 ≠ p) (n2 : r2 ≠ p) :
    LS K days starts gap l h L i o f GL r1 r2 inner outer free g1 g2 H' := by
  obtain ⟨d, t, a, b1, c⟩ := S.part
  obtain ⟨m1, m2, m3⟩ := nl d t a
  exact ⟨⟨d, t, b.sqL m1 a, b.sqL m2 b1, b.sqL m3 c⟩, S.hh.but b hp, b _ _ nL S.hL, b _ _ ni S.hi, b _ _ no S.ho, b _ _ nG S.hG, b _ _ n1 S.h1, b _ _ n2 S.h2⟩
end
end K09

set_option maxRecDepth 100000
set_option maxHeartbeats 16000000
namespace K09
open PySem PySem.Spec PyProof.Rows L2 GR
abbrev groupB : List Stmt := forBodyL ((forBodyL ((defBody s_law).getD 7 (.Pass ⟨0, 0, 0, 0⟩))).getD 0 (.Pass ⟨0, 0, 0, 0⟩))
section
variable {w : World} {K : PySem.W.Frag} {mg : Str → Option Value} {base : Heap}
theorem eqd_due {H : Hp} {N M : Addr → Prop} {a b : Addr} {D : Due} (h1 : IsDue K N H a D) (h2 : IsDue K M H b D) : Eqd K 2 H (.ref a) (.ref b) := by
  cases D with
  | noP e => exact .inr ⟨a, b, _, _, rfl, rfl, .inl ⟨h1, h2⟩, rfl, sL (by show 4 ≤ 1000; decide), fun i u v e1 e2 => by
      rw [e1] at e2
      cases e2
      refine .atom ?_
      have m := List.mem_of_getElem? e1
      simp at m
      rcases m with rfl | rfl | rfl | rfl <;> constructor⟩
  | twice e => exact .inr ⟨a, b, _, _, rfl, rfl, .inl ⟨h1, h2⟩, rfl, sL (by show 4 ≤ 1000; decide), fun i u v e1 e2 => by
      rw [e1] at e2
      cases e2
      refine .atom ?_
      have m := List.mem_of_getElem? e1
      simp at m
      rcases m with rfl | rfl | rfl | rfl <;> constructor⟩
  | told row =>
    obtain ⟨l, g1, g2, _, g4⟩ := h1
    obtain ⟨m, k1, k2, _, _⟩ := h2
    exact .inr ⟨a, b, _, _, rfl, rfl, .inl ⟨g1, k1⟩, rfl, sL (by show 2 ≤ 1000; decide), fun i u v e1 e2 => by
      match i with
      | 0 => cases e1; cases e2; exact .atom (.str _)
      | 1 => cases e1; cases e2; exact Eqd.row (.inr ⟨SqL.of g2, SqL.of k2⟩) (by omega)
      | i + 2 => cases e1⟩
theorem group_all (T : Tx K mg) (cdv : Value) (A : Around) (outer : List Env) (s : Shared) (H : Hp) (E : XK) (hr : Room 10 (A.deeper (envOfC "law" (defScope s_law) s.heap.objs.size (a_law K) cdv))) :
    ∃ t, PSs (cxOf CX0 PG w K mg base n_law "law" (defScope s_law) (a_law K) cdv A outer s H E) groupB t ∧ ∀ (D : Ends) (a l h p r dd tt : Addr) (days starts ps : List Int) (gap : Nat) (person : Int) (st : List V) (s3 s5 s7 s8 s10 s11 s12 s13 : Option V) (C : Hp),
      C l = some (.lst [.ref dd, .ref tt, .int (gap : Nat)]) → C dd = some (.lst (days.map V.int)) → C tt = some (.lst (starts.map V.int)) → l ≠ p → dd ≠ p → tt ≠ p → IsH K C h days starts (gap : Nat) → PB days starts gap → C r = some (.lst (ps.map V.int)) → ps.length ≤ 100 → r ≠ p → C p = some (.lst st) → PoolOk st →
      (∀ s10 s11 s12 s13 H' st', But p C H' → H' p = some (.lst st') → PoolOk st' → D.nx [some (.ref a), some (.ref l), some (.ref h), s3, some (.ref p), s5, some (.int person), s7, s8, some (.ref r), s10, s11, s12, s13] H') →
      t D [some (.ref a), some (.ref l), some (.ref h), s3, some (.ref p), s5, some (.int person), s7, s8, some (.ref r), s10, s11, s12, s13] C := by
  have nd := sc_law.nd
  refine ⟨_, (pss_cons (ps_set (i := 10) nd rfl (.inl rfl) (pc (ok_law_due T) (hr.mono (by decide)) T.g_law_due pass0 (pa_cons (pv 1) (pa_cons (pv 9) (pa_cons (pv 6) pa_nil)))))
              (pss_cons (ps_set (i := 11) nd rfl (.inl rfl) (pe_callTy call_list_of (by rfl) T.m_list (by decide +kernel) (pa_cons (pv 9) pa_nil)))
              (pss_cons (ps_set (i := 12) nd rfl (.inl rfl) (pc (ok_law_try T) (hr.mono (by decide)) T.g_law_try pass0 (pa_cons (pv 2) (pa_cons (pv 11) (pa_cons (pv 6) pa_nil)))))
              (pss_cons (ps_if (PW.pt (pw_or (pt_not (pt_val (pc (ok_law_same T 2) (hr.mono (by decide)) T.g_law_same pass0 (pa_cons (pv 12) (pa_cons (pv 10) pa_nil))))) (pw_or1 (pt_not (pt_val (pc (ok_law_same T 1) (hr.mono (by decide)) T.g_law_same pass0 (pa_cons (pv 11) (pa_cons (pv 9) pa_nil)))))))) (pss_one (ps_ret pe_bl)) pss_nil)
              (pss_cons (ps_expr (pe_bm PySem.F.plainAttrs_list PySem.F.slot_list_append PySem.F.type_list_append mt_append (pv 11) (pa_cons pe_int pa_nil)))
              (pss_one (ps_if (pt_cmpR op_eq (pe_ix ix_tup (pv 10) pe_int (fun _ _ => rfl)) pe_str (nomark _)) (pss_cons (ps_set (i := 13) nd rfl (.inl rfl) (pe_ix ix_tup (pv 12) pe_int (fun _ _ => rfl)))
                (pss_cons (ps_expr (pe_bm PySem.F.plainAttrs_list PySem.F.slot_list_append PySem.F.type_list_append mt_append (pv 13) (pa_cons pe_int pa_nil)))
                (pss_one (ps_if (pt_not (pt_val (pc (ok_law_grows T) (hr.mono (by decide)) T.g_law_grows pass0 (pa_cons (pv 2) (pa_cons (pv 1) (pa_cons (pv 9) (pa_cons (pv 6) (pa_cons (pc (ok_law_draw T) (hr.mono (by decide)) T.g_law_draw pass0 (pa_cons (pv 4) (pa_cons (pe_op op_add (pe_callB call_len_seq (by rfl) T.m_len PySem.boot_len (pa_cons (pv 9) pa_nil)) pe_int) pa_nil))) pa_nil)))))))) (pss_one (ps_ret pe_bl)) pss_nil)))) pss_nil))))))), ?_⟩
  intro D a l h p r dd tt days starts ps gap person st s3 s5 s7 s8 s10 s11 s12 s13 C hl hd ht nlp ndp ntp hh B hrr lp nrp hp ok go
  have hP : Part K C l days starts gap := ⟨dd, tt, SqL.of hl, SqL.of hd, SqL.of ht⟩
  refine ⟨_, rfl, _, rfl, _, rfl, l, r, days, starts, ps, gap, person, rfl, hP, SqL.of hrr, B, by omega, fun H1 dt k1 hdue => ?_⟩
  refine ⟨_, rfl, r, _, rfl, .inl (SqL.of (k1 _ _ hrr)), fun gv hgv => ?_⟩
  have k2 := k1.new' (o := .lst (ps.map V.int)) hgv
  have hgv0 := k1.free hgv
  have hdue2 := hdue.same (Same.new (o := .lst (ps.map V.int)) hgv)
  have hgv2 : upd H1 gv (.lst (ps.map V.int)) gv = some (.lst (ps.map V.int)) := upd_same
  generalize upd H1 gv (.lst (ps.map V.int)) = H2 at k2 hdue2 hgv2 ⊢
  refine ⟨_, rfl, _, rfl, _, rfl, h, gv, days, starts, ps, gap, person, rfl, hh.same k2, SqL.of hgv2, B, by omega, fun H3 ft k3 hfound => ?_⟩
  have k13 := k2.trans k3
  have hdue3 := hdue2.same k3
  have hgv3 := k3 _ _ hgv2
  refine ⟨_, rfl, _, rfl, _, _, rfl, eqd_due hfound hdue3, _, rfl, nope rfl ?_⟩
  refine ⟨_, rfl, _, rfl, _, _, rfl, Eqd.row (.inr ⟨SqL.of hgv3, SqL.of (k13 _ _ hrr)⟩) (by omega), _, rfl, nope rfl ?_⟩
  refine ⟨_, rfl, .inl ⟨rfl, _, SqL.of hgv3⟩, gv, _, _, rfl, rfl, hgv3, by rw [List.length_map, sizeLine_eq]; omega, ?_⟩
  have k4 : Same C (upd H3 gv (.lst (ps.map V.int ++ [.int 0]))) := fun b x eb => by
    rw [upd_ne (fun z => by rw [z, hgv0] at eb; cases eb)]
    exact k13 _ _ eb
  have bt4 : But gv H3 (upd H3 gv (.lst (ps.map V.int ++ [.int 0]))) := .set
  generalize upd H3 gv (.lst (ps.map V.int ++ [.int 0])) = H4 at k4 bt4 ⊢
  have stay : ∀ t12 t13, D.nx [some (.ref a), some (.ref l), some (.ref h), s3, some (.ref p), s5, some (.int person), s7, s8, some (.ref r), some (.ref dt), some (.ref gv), t12, t13] H4 := fun _ _ => go _ _ _ _ _ st (.of k4) (k4 _ _ hp) ok
  generalize hD : dueOf gap days starts ps person = Du at hdue3 hfound
  cases Du with
  | noP e =>
    refine ⟨_, rfl, dt, _, _, _, rfl, rfl, bt4.seqT hgv3 hdue3, rfl, rfl, _, rfl, nope (by decide) (stay _ _)⟩
  | twice e =>
    refine ⟨_, rfl, dt, _, _, _, rfl, rfl, bt4.seqT hgv3 hdue3, rfl, rfl, _, rfl, nope (by decide) (stay _ _)⟩
  | told row =>
    obtain ⟨l1, d1, d2, d3, d4⟩ := hdue3
    obtain ⟨l2, f1, f2, f3, f4⟩ := hfound
    have nl2 : l2 ≠ gv := fun z => by rw [z, hgv2] at f3; cases f3
    have f24 := bt4 _ _ nl2 f2
    refine ⟨_, rfl, dt, _, _, _, rfl, rfl, bt4.seqT hgv3 d1, rfl, rfl, _, rfl, yep (by decide) ?_⟩
    refine ⟨_, rfl, ft, _, _, _, rfl, rfl, bt4.seqT hgv3 f1, rfl, ?_⟩
    refine ⟨_, rfl, .inl ⟨rfl, _, SqL.of f24⟩, l2, _, _, rfl, rfl, f24, by rw [List.length_map, sizeLine_eq]; omega, ?_⟩
    have l2C : C l2 = none := k2.free f3
    have k5 : Same C (upd H4 l2 (.lst (row.map V.int ++ [.int 1]))) := fun b x eb => by
      rw [upd_ne (fun z => by rw [z, l2C] at eb; cases eb)]
      exact k4 _ _ eb
    generalize upd H4 l2 (.lst (row.map V.int ++ [.int 1])) = H5 at k5 ⊢
    -- the told case: what is known of the group
    have kn : badP starts.length [] ps = none ∧ (0 ≤ person ∧ person < starts.length) ∧ person ∉ ps := by
      unfold dueOf at hD
      split at hD
      · cases hD
      · cases hD
      · rename_i eb
        split at hD
        · rename_i c
          split at hD
          · cases hD
          · rename_i m; exact ⟨eb, c, m⟩
        · cases hD
    obtain ⟨eb, c, m⟩ := kn
    obtain ⟨pn, rfl⟩ : ∃ pn : Nat, person = (pn : Nat) := ⟨person.toNat, by omega⟩
    refine ⟨_, rfl, _, rfl, _, rfl, _, rfl, _, rfl, _, rfl, r, _, rfl, .inl (SqL.of (k5 _ _ hrr)), _, _, rfl, rfl, p, st, _, rfl, by rw [List.length_map]; omega, by rw [List.length_map]; exact Nat.lt_trans (show _ < 2 ^ 10 by omega) (by decide), k5 _ _ hp, ok, fun v st6 v0 v1 ok6 => ?_⟩
    obtain ⟨j, rfl⟩ : ∃ j : Nat, v = (j : Nat) := ⟨v.toNat, by omega⟩
    have b6 : But p C (upd H5 p (.lst st6)) := (But.of k5).trans .set
    have hP6 : Part K (upd H5 p (.lst st6)) l days starts gap := ⟨dd, tt, SqL.of (b6 _ _ nlp hl), SqL.of (b6 _ _ ndp hd), SqL.of (b6 _ _ ntp ht)⟩
    refine ⟨h, l, r, days, starts, ps, gap, pn, j, rfl, hh.but b6 hp, hP6, SqL.of (b6 _ _ nrp hrr), B, lp, eb, by omega, m, fun H7 k7 => ⟨_, rfl, nope rfl ?_⟩⟩
    exact go _ _ _ _ H7 st6 (b6.trans (.of k7)) (k7 _ _ upd_same) ok6
end
end K09

set_option maxRecDepth 100000
set_option maxHeartbeats 16000000
namespace K09
open PySem PySem.Spec PyProof.Rows L2 GR
section
variable {w : World} {K : PySem.W.Frag} {mg : Str → Option Value} {base : Heap}
def spLaw (K : PySem.W.Frag) : Sp := fun vs H Q _ => ∃ (a : Addr) (sc : List Int), vs = [.ref a] ∧ SqL K H a (sc.map V.int) ∧ ∀ H', Q (.bl true) H'
theorem fn_law (T : Tx K mg) {fd : FuncData} (F : FunD K "law" "law" (defArgs s_law) (defBody s_law) (defScope s_law) [] [] (a_law K) fd) : FnOk PG w K mg base CX0 11 (a_law K) fd p_law (spLaw K) := by
  obtain ⟨fi, Fi⟩ := T.f_House_init
  have Oi := fn_House_init (w := w) (base := base) T Fi
  obtain ⟨di, bi⟩ := bi_HK Fi
  refine F.ok (k := 10) sc_law (fun vs H Q E h => ?_) (fun cdv A outer s H vs Q E hr h => ?_)
  · obtain ⟨_, _, rfl, _⟩ := h
    rfl
  · obtain ⟨a, sc, rfl, hsc, q⟩ := h
    have nd := sc_law.nd
    obtain ⟨tg, pg, rg⟩ := group_all (w := w) (base := base) T cdv A outer s H E hr
    refine ⟨_, pss_cons (ps_set (i := 1) nd rfl (.inl rfl) (pc (ok_law_house T) (hr.mono (by decide)) T.g_law_house pass0 (pa_cons (pc (ok_law_pool T) (hr.mono (by decide)) T.g_law_pool pass0 (pa_cons (pv 0) (pa_cons pe_int pa_nil))) pa_nil)))
      (pss_cons (ps_set (i := 2) nd rfl (.inl rfl) (pe_makeK (n := 2) T.kHouse Oi (hr.mono (by decide)) rfl T.gHouse bi passF (pa_cons (pmk (ok_Wants_init T) T.kWants (hr.mono (by decide)) T.gWants passF (pa_cons (pe_callTy call_list_of (by rfl) T.m_list (by decide +kernel) (pa_cons (pe_ix ix_list (pv 1) pe_int (fun _ _ => rfl)) pa_nil)) pa_nil)) (pa_cons (pe_callTy call_list_of (by rfl) T.m_list (by decide +kernel) (pa_cons (pe_ix ix_list (pv 1) pe_int (fun _ _ => rfl)) pa_nil)) pa_nil)) (pk_cons (pe_ix ix_list (pv 1) pe_int (fun _ _ => rfl)) pk_nil)))
      (pss_cons (ps_set (i := 3) nd rfl (.inl rfl) (pe_callB call_len_seq (by rfl) T.m_len PySem.boot_len (pa_cons (pe_ix ix_list (pv 1) pe_int (fun _ _ => rfl)) pa_nil)))
      (pss_cons (ps_set (i := 4) nd rfl (.inl rfl) (pc (ok_law_pool T) (hr.mono (by decide)) T.g_law_pool pass0 (pa_cons (pv 0) (pa_cons pe_int pa_nil))))
      (pss_cons (ps_set (i := 5) nd rfl (.inl rfl) (pc (ok_law_groups T) (hr.mono (by decide)) T.g_law_groups pass0 (pa_cons (pv 4) (pa_cons (pv 3) pa_nil))))
      (pss_cons (ps_set (i := 6) nd rfl (.inl rfl) (pc (ok_law_person T) (hr.mono (by decide)) T.g_law_person pass0 (pa_cons (pv 4) (pa_cons (pe_ix ix_list (pv 5) pe_int (fun _ _ => rfl)) (pa_cons (pv 3) pa_nil)))))
      (pss_cons (ps_set (i := 7) nd rfl (.inl rfl) (pe_lst (pa_cons (pc (ok_law_spoiled T) (hr.mono (by decide)) T.g_law_spoiled pass0 (pa_cons (pv 4) (pa_cons (pe_ix ix_list (pv 5) pe_int (fun _ _ => rfl)) (pa_cons (pv 3) pa_nil)))) (pa_cons (pc (ok_law_spoiled T) (hr.mono (by decide)) T.g_law_spoiled pass0 (pa_cons (pv 4) (pa_cons (pe_ix ix_list (pv 5) pe_int (fun _ _ => rfl)) (pa_cons (pv 3) pa_nil)))) pa_nil))))
      (pss_cons (ps_for (passX rfl) rfl (pi_range1 rfl T.m_range (pa_cons pe_int pa_nil)) (pg_name (i := 8) nd rfl (.inl rfl))
        (pss_one (ps_for (passX rfl) rfl (pi_list (pv 7)) (pg_name (i := 9) nd rfl (.inl rfl)) pg)))
      (pss_cons (ps_if (PW.pt (pw_and (pt_chain op_le op_lt pe_int (pv 6) (pv 3)) (pw_and1 (pt_cmpR op_notIn_seq (pv 6) (pe_ix ix_list (pv 5) pe_int (fun _ _ => rfl)) (by rfl))))) (pss_one (ps_ret (pe_cmpR op_le (pe_callB call_len_seq (by rfl) T.m_len PySem.boot_len (pa_cons (pc (ok_growth T) (hr.mono (by decide)) T.g_growth passF (pa_cons (pv 2) (pa_cons (pe_callTy call_list_of (by rfl) T.m_list (by decide +kernel) (pa_cons (pe_ix ix_list (pv 5) pe_int (fun _ _ => rfl)) pa_nil)) (pa_cons (pv 6) pa_nil)))) pa_nil)) (pe_callB call_len_seq (by rfl) T.m_len PySem.boot_len (pa_cons (pc (ok_growth T) (hr.mono (by decide)) T.g_growth passF (pa_cons (pv 2) (pa_cons (pe_callTy call_list_of (by rfl) T.m_list (by decide +kernel) (pa_cons (pe_ix ix_list (pv 5) pe_int (fun _ _ => rfl)) pa_nil)) (pa_cons (pv 6) pa_nil)))) pa_nil)) (nomark _)))) pss_nil)
      (pss_one (ps_ret pe_bl)))))))))), ?_⟩
    refine ⟨_, rfl, a, sc, 0, rfl, hsc, fun p st cp ok => ?_⟩
    refine ⟨p, st, rfl, upd_same, ok, fun H1 l d t days starts gap st1 b1 hp1 ok1 nl ndp nt hl hd ht B => ?_⟩
    have k1 : Same H H1 := But.fresh cp b1
    refine ⟨_, rfl, l, _, _, _, rfl, rfl, SqL.of hl, rfl, d, _, rfl, .inl (SqL.of hd), fun x hx => ?_⟩
    have a1 : Same H1 (upd H1 x (.lst (days.map V.int))) := .new hx
    refine fun q1 dq hq hdq hne => mk_wok (.inl (SqL.of upd_same)) B.ld B.bd q1 dq hq hdq hne _ fun G2 g2 hw => ⟨rfl, ?_⟩
    have a2 := a1.trans g2
    refine ⟨_, rfl, l, _, _, _, rfl, rfl, SqL.of (a2 _ _ hl), rfl, t, _, rfl, .inl (SqL.of (a2 _ _ ht)), fun y hy => ?_⟩
    have a3 := a2.new' (o := .lst (starts.map V.int)) hy
    refine ⟨_, rfl, l, _, _, _, rfl, rfl, SqL.of (a3 _ _ hl), rfl, rfl, rfl, fun h dh h1 h2 h3 => mk_hok (gap := ((gap : Nat) : Int)) (hw.same (.new hy)) B.ld (.inl (SqL.of upd_same)) B.ls (badc_none.2 B.bs) ⟨by omega, by have := B.lg; omega⟩ h dh h1 h2 h3 _ fun G3 g3 hh => ⟨rfl, ?_⟩⟩
    have a4 := a3.trans g3
    have hl3 := a4 _ _ hl
    have hd3 := a4 _ _ hd
    have ht3 := a4 _ _ ht
    refine ⟨_, rfl, l, _, _, _, rfl, rfl, SqL.of hl3, rfl, t, _, rfl, .inl (SqL.of ht3), ?_⟩
    rw [List.length_map]
    have hsc3 := (k1.trans a4).seq hsc
    refine ⟨_, rfl, a, sc, 1, rfl, hsc3, fun p2 st2 cp2 ok2 => ?_⟩
    have z0 : Same G3 (upd G3 p2 (.lst st2)) := .new cp2
    have ne : ∀ {b : Addr} {o : HO}, G3 b = some o → b ≠ p2 := fun {b o} e z => by rw [z, cp2] at e; cases e
    have hp4 : upd G3 p2 (.lst st2) p2 = some (.lst st2) := upd_same
    have hl4 := z0 _ _ hl3
    have hd4 := z0 _ _ hd3
    have ht4 := z0 _ _ ht3
    have hh4 := hh.same z0
    have nl2 := ne hl3
    have nd2 := ne hd3
    have nt2 := ne ht3
    generalize upd G3 p2 (.lst st2) = G4 at hp4 hl4 hd4 ht4 hh4 ⊢
    refine ⟨_, rfl, _, rfl, p2, st2, starts.length, rfl, hp4, ok2, B.ls, fun G5 L i o f inner outr free st5 b5 hp5 ok5 nL ni no nf hL hi ho hf Gp => ?_⟩
    refine ⟨_, rfl, _, rfl, L, _, _, _, rfl, rfl, SqL.of hL, rfl, _, rfl, p2, f, st5, free, _, rfl, hp5, ok5, nf, hf, (by have := Gp.lf; have := B.ls; omega), by omega, (by have := B.ls; omega), fun person G6 st6 _ b6 hp6 ok6 => ?_⟩
    have hL6 := b6 _ _ nL hL
    have hi6 := b6 _ _ ni hi
    have ho6 := b6 _ _ no ho
    refine ⟨_, rfl, _, rfl, L, _, _, _, rfl, rfl, SqL.of hL6, rfl, _, rfl, p2, i, st6, inner, _, rfl, hp6, ok6, ni, hi6, (by have := Gp.li; have := B.ls; omega), by omega, (by have := B.ls; omega), fun G7 r1 g1 st7 b7 hp7 ok7 n1 hr1 lg1 => ?_⟩
    have hL7 := b7 _ _ nL hL6
    have hi7 := b7 _ _ ni hi6
    have ho7 := b7 _ _ no ho6
    refine ⟨_, rfl, _, rfl, L, _, _, _, rfl, rfl, SqL.of hL7, rfl, _, rfl, p2, o, st7, outr, _, rfl, hp7, ok7, no, ho7, (by have := Gp.lo; have := B.ls; omega), by omega, (by have := B.ls; omega), fun G8 r2 g2' st8 b8 hp8 ok8 n2 hr2 lg2 => ?_⟩
    refine ⟨by show 2 ≤ sizeLine; decide, fun GL hGL => ?_⟩
    have b48 := ((b5.trans b6).trans b7).trans b8
    have nGL : GL ≠ p2 := fun z => by rw [z, hp8] at hGL; cases hGL
    have z9 : Same G8 (upd G8 GL (.lst [.ref r1, .ref r2])) := .new hGL
    have b49 := b48.trans (.of z9)
    have hl9 := b49 _ _ nl2 hl4
    have hd9 := b49 _ _ nd2 hd4
    have ht9 := b49 _ _ nt2 ht4
    have hh9 := hh4.but b49 hp4
    have hL9 := z9 _ _ (b8 _ _ nL hL7)
    have hi9 := z9 _ _ (b8 _ _ ni hi7)
    have ho9 := z9 _ _ (b8 _ _ no ho7)
    have h19 := z9 _ _ (b8 _ _ n1 hr1)
    have h29 := z9 _ _ hr2
    have hp9 := z9 _ _ hp8
    have hGL9 : upd G8 GL (.lst [.ref r1, .ref r2]) GL = some (.lst [.ref r1, .ref r2]) := upd_same
    generalize upd G8 GL (.lst [.ref r1, .ref r2]) = C at hl9 hd9 ht9 hh9 hL9 hi9 ho9 h19 h29 hp9 hGL9 ⊢
    have lgi := Gp.li
    have lgo := Gp.lo
    have lst := B.ls
    refine ⟨2, rfl, by decide, by decide, ?_⟩
    refine for_range (lo := 0) (n := 2) (fun j σ H' => ∃ x8 x9 x10 x11 x12 x13 st', σ = [some (.ref a), some (.ref l), some (.ref h), some (.int (starts.length : Nat)), some (.ref p2), some (.ref L), some (.int person), some (.ref GL), x8, x9, x10, x11, x12, x13] ∧ But p2 C H' ∧ H' p2 = some (.lst st') ∧ PoolOk st') ⟨_, _, _, _, _, _, st8, rfl, .refl _ _, hp9, ok8⟩ ?_ ?_
    · rintro j σ H1' hj ⟨x8, x9, x10, x11, x12, x13, st', rfl, bt, hpj, okj⟩
      refine ⟨_, rfl, GL, rfl, ⟨_, SqL.of (bt _ _ nGL hGL9)⟩, ?_⟩
      refine for_list (xs := [.ref r1, .ref r2]) (fun _ σ H' => ∃ x9 x10 x11 x12 x13 st', σ = [some (.ref a), some (.ref l), some (.ref h), some (.int (starts.length : Nat)), some (.ref p2), some (.ref L), some (.int person), some (.ref GL), some (.int (0 + ((j : Nat) : Int))), x9, x10, x11, x12, x13] ∧ But p2 C H' ∧ H' p2 = some (.lst st') ∧ PoolOk st') ⟨_, _, _, _, _, st', rfl, bt, hpj, okj⟩ (fun _ σ H' _ z => (let ⟨_, _, _, _, _, _, _, b, _⟩ := z; SqL.of (b _ _ nGL hGL9))) ?_ ?_
      · rintro m x σ H2' hx ⟨x9, x10, x11, x12, x13, st', rfl, bt2, hp2, ok2'⟩
        obtain ⟨r, gs, rfl, hC, nr, lg⟩ : ∃ (r : Addr) (gs : List Int), x = .ref r ∧ C r = some (.lst (gs.map V.int)) ∧ r ≠ p2 ∧ gs.length ≤ 100 := by
          match m, hx with
          | 0, e => cases e; exact ⟨r1, g1, rfl, h19, n1, by omega⟩
          | 1, e => cases e; exact ⟨r2, g2', rfl, h29, n2, by omega⟩
          | m + 2, e => cases e
        exact rg _ a l h p2 r d t days starts gs gap person st' _ _ _ _ _ _ _ _ H2' (bt2 _ _ nl2 hl9) (bt2 _ _ nd2 hd9) (bt2 _ _ nt2 ht9) nl2 nd2 nt2 (hh9.but bt2 hp9) B (bt2 _ _ nr hC) lg nr hp2 ok2' fun _ _ _ _ H3' st3' b3 hp3 ok3 => ⟨_, _, _, _, _, st3', rfl, bt2.trans b3, hp3, ok3⟩
      · rintro σ H2' ⟨x9, x10, x11, x12, x13, st', rfl, bt2, hp2, ok2'⟩
        exact ⟨_, _, _, _, _, _, st', rfl, bt2, hp2, ok2'⟩
    · rintro σ H1' ⟨x8, x9, x10, x11, x12, x13, st', rfl, bt, hpj, okj⟩
      · refine ⟨_, rfl, _, _, rfl, rfl, _, rfl, ite2 (fun c1 => ?_) (fun c1 => ?_)⟩
        · refine ⟨_, rfl, _, _, rfl, rfl, _, rfl, ite2 (fun c2 => ?_) (fun c2 => ?_)⟩
          · have c1 := of_decide_eq_true c1
            have c2 := of_decide_eq_true c2
            have hLj := bt _ _ nL hL9
            have hij := bt _ _ ni hi9
            have hoj := bt _ _ no ho9
            have hhj := hh9.but bt hp9
            refine ⟨_, rfl, _, rfl, L, _, _, _, rfl, rfl, SqL.of hLj, rfl, o, _, rfl, .inl (SqL.of hoj), rfl, flat_ints _, _, rfl, ite2 (fun m => ?_) (fun m => ?_)⟩
            · rw [inV_ints] at m
              have m : person ∉ outr := by simpa using m
              have eo : badP (starts.length : Nat) [] outr = none := badP_none.2 ⟨Gp.oo, Gp.no, fun x _ z => by cases z⟩
              have ei : badP (starts.length : Nat) [] inner = none := badP_none.2 ⟨Gp.ii, Gp.ni, fun x _ z => by cases z⟩
              have mi : person ∉ inner := fun z => m (Gp.io _ z)
              refine ⟨_, rfl, _, rfl, L, _, _, _, rfl, rfl, SqL.of hLj, rfl, o, _, rfl, .inl (SqL.of hoj), fun v hv => ?_⟩
              have w1 : Same H1' (upd H1' v (.lst (outr.map V.int))) := .new hv
              refine ⟨_, rfl, h, v, days, starts, outr, gap, person, rfl, hhj.same w1, SqL.of upd_same, by omega, B.bs, (fun e c => by rw [eo] at c; cases c), (fun e c => by rw [eo] at c; cases c), fun _ c => absurd ⟨c1, c2⟩ c, fun _ _ c => absurd c m, fun _ _ _ G9 u k9 hu0 hu => ?_⟩
              have w2 := w1.trans k9
              refine ⟨u, _, rfl, .inl (SqL.of hu), ?_⟩
              refine ⟨_, rfl, _, rfl, L, _, _, _, rfl, rfl, SqL.of (w2 _ _ hLj), rfl, i, _, rfl, .inl (SqL.of (w2 _ _ hij)), fun v2 hv2 => ?_⟩
              have w3 := w2.new' (o := .lst (inner.map V.int)) hv2
              refine ⟨_, rfl, h, v2, days, starts, inner, gap, person, rfl, hhj.same w3, SqL.of upd_same, by omega, B.bs, (fun e c => by rw [ei] at c; cases c), (fun e c => by rw [ei] at c; cases c), fun _ c => absurd ⟨c1, c2⟩ c, fun _ _ c => absurd c mi, fun _ _ _ G10 u2 k10 hu20 hu2 => ?_⟩
              refine ⟨u2, _, rfl, .inl (SqL.of hu2), _, _, rfl, rfl, ?_⟩
              have le := grown_less (gap := gap) (days := days) (fun x hx => (B.bs x hx).1) Gp person days.length
              rw [List.length_map, List.length_map]
              have z := q G10
              rw [← decide_eq_true le] at z
              exact z
            · exact q _
          · exact q _
        · exact ⟨_, rfl, iteF (q _)⟩
end
end K09

set_option maxRecDepth 100000
set_option maxHeartbeats 0
namespace K09
open PySem PySem.W PySem.Spec PySem.Calls PyProof.Rows L2 He He5 HX
theorem facts {w : World} {K : Frag} {h : Heap} {mg : Str → Option Value} {f : Addr} (X : K.In h) (G : h.Ns mainGlobals mg) (hfa : mg ("law" : Str) = some (.ref f)) (c : SaysX bx fn er "/claim/cut.py" K) :
    ∃ fd : FuncData, (∀ (s : Shared) (v : Value), BindsTo s fd ⟨[v], []⟩ [("script", v)]) ∧ ∀ base : Heap, K.In base → base.Ns mainGlobals mg → FnOk PG w K mg base CX0 11 f fd ["script"] (spLaw K) := by
  have T := tx_of c X G
  obtain ⟨fd, F⟩ := T.f_law
  have e := hfa.symm.trans T.g_law
  cases e
  exact ⟨fd, fun s v => FunD.bindsA (ps := ["script"]) F (fun _ _ _ _ _ _ us hl => match us, hl with | [_], _ => rfl) s [v] rfl, fun base _ _ => fn_law T F⟩
end K09
open PySem PySem.W PySem.Calls PyProof.Rows
theorem PySem.Challenge.cw_nightsoff_k09_growth_holds : PySem.Challenge.rw_nightsoff_k09_growth.Holds := by
  w_on; o_law
  refine HandSHeadRun.head_any (r := OpenLaw.row PySem.Challenge.rw_nightsoff_k09_growth) (q := view (OpenLaw.row PySem.Challenge.rw_nightsoff_k09_growth).prog [49]) (H := K09.hk) (ob := K09.ob) (M := 20000) (loose := K09.names) (d := HandSHeadRun.topDef (OpenLaw.row PySem.Challenge.rw_nightsoff_k09_growth).prog 49) (kwd := []) K09.ob_eq
    (by kernel_rfl) (fun s => by kernel_rfl) K09.run (by kernel_rfl) (by kernel_rfl) (by kernel_rfl) (by rfl) (by first | assumption | decide +kernel) (by decide +kernel) ⟨rfl, rfl, rfl, rfl, rfl, by decide +kernel⟩ ?hw ?hc
  case hw => w_witness2
  case hc =>
    refine L2.walk_ofX (l := PySem.Challenge.rw_nightsoff_k09_growth) (n := 63) (k := 11) (x := "script") (CX := fun _ => L2.CX0) rfl (by decide) (by kernel_rfl) ⟨rfl, by decide, by decide⟩ ?F (fun _ _ _ _ _ z => z)
    intro w mg fa h Y G hmg0
    obtain ⟨K, KX, c⟩ := Y
    have hmg : mg ("law" : PySem.Str) = some (.ref fa) := by
      have e : (HandSHeadRun.topDef (OpenLaw.row PySem.Challenge.rw_nightsoff_k09_growth).prog 49).name = ("law" : PySem.Str) := by kernel_rfl
      rw [← e]
      exact hmg0
    obtain ⟨fd, hb, hF⟩ := K09.facts (w := w) KX G hmg c
    exact ⟨K, fd, K09.spLaw K, KX, hb, fun H a ns hl _ _ hS => ⟨a, ns, rfl, hS, fun _ => rfl⟩, hF⟩
