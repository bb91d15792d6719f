import PyProof.Rows.All
import Wide.All
import OpenK.AllK
import Wide.FinOn
import KE.KExcSuper
import HandS.ForExc
import HandS.ExcInit
import HandS.TryMany
import HandS.ExcField
import HandS.ExcIs
import HandS.ExcSuper
import HandS.ForMost
import HandS.ClsMeth
import HandS.Star
import HandS.IsInst
import HandS.TupAny
import HandS.TupMul
import HandS.Style
import HandS.Wide
import HandS.Codes
import KE.KOpsOwn
import KE.GoesNew
import KE.GoesMore
import HandS.Iter
import HandS.Walk
import KE.KOwnIter
import KE.KSuperObj
import KE.KTupSum
import KE.KRevSl
import HandS.HeadNt
import HandS.HeadHook3
import HandS.Head2
import HandS.EndBits
import HandS.Strs
import HandS.CallLocal
import HandS.ExcOwn
import HandS.WordsExc
import PySem.Challenge.RW_nightsoff_k01_wants_operators
set_option Elab.async false
set_option linter.all false
set_option maxRecDepth 100000
set_option maxHeartbeats 4000000
/-! # Exceptions of the program: every class over NightsError whose __init__ says super().__init__(text) and then stores its parameters. -/
namespace NX
open PySem PySem.W PySem.Calls PyProof.Rows PySem.HandSPX

/-- the stores behind super().__init__: field and parameter -/
inductive Sto : List Stmt → List (Str × Str) → Prop
  | nil : Sto [] []
  | cons {f x : Str} {p1 p2 p3 p4 : Pos} {r : List Stmt} {l : List (Str × Str)} (h : Sto r l) : Sto (.Assign [.Attribute (.Name "self" p1) f p2] (.Name x p3) p4 :: r) ((f, x) :: l)

/-- an exception that is made: its fields, the newest first -/
def Half (h : Heap) (C e : Addr) (d : Option Addr) (fs : List (Str × Value)) : Prop :=
  ∃ t : Addr, h.get? e = some { cls := .ref C, dict := d, data := .fields #[.ref t, .none, .none, .none, .bool false, .none] } ∧
    match d with
    | none => fs = []
    | some dx => dx ≠ e ∧ ∃ m, h.Ns1 dx m ∧ ∀ f, m f = fs.lookup f

structure ClsX (K : Frag) (C : Addr) : Prop where
  cls : ∃ nm q N bs bm sn sub ab col dd k0 k1 k2 k3 k5, K.lookup C = some (excClassObj nm q C N bs bm true sn sub ab col dd k0 k1 k2 k3 k5 "ValueError.__new__") ∧ refsVE bm = true ∧ alongIn K "__init__" bm = some (some (.builtin "ValueError.__init__"))
  sa : findIn K (.ref C) "__setattr__" = some (some (.builtin "object.__setattr__"))
  ve : subIn K (.ref C) (.type "ValueError") = some true

theorem lookup_cons (f g : Str) (y : Value) (fs : List (Str × Value)) : ((f, y) :: fs).lookup g = if g = f then some y else fs.lookup g := by
  by_cases h : g = f
  · subst h
    simp [List.lookup]
  · have e : (g == f) = false := by simpa using h
    rw [if_neg h]
    simp [List.lookup, e]
theorem lookup_mem_keys : ∀ {l : List (Str × Value)} {x : Str} {v : Value}, l.lookup x = some v → x ∈ l.map (·.1)
  | [], _, _, h => by cases h
  | (f, y) :: r, x, v, h => by
    rw [lookup_cons] at h
    by_cases e : x = f
    · rw [e]
      exact List.mem_cons_self ..
    · rw [if_neg e] at h
      exact List.mem_cons_of_mem _ (lookup_mem_keys h)
theorem within_map {fs : List (Str × Value)} {m : Str → Option Value} (r : ∀ f, m f = fs.lookup f) : Within m (fs.map (·.1)) := fun y hy => by
  rw [r y] at hy
  clear r
  induction fs with
  | nil => exact absurd rfl hy
  | cons p l ih =>
    obtain ⟨f, z⟩ := p
    rw [lookup_cons] at hy
    by_cases e : y = f
    · rw [e]
      exact List.mem_cons_self ..
    · rw [if_neg e] at hy
      exact List.mem_cons_of_mem _ (ih hy)

section
variable {prog : Program} {w : World} {A : Around} {E : Value → Shared → Prop} {K : Frag} {C e L : Addr}
/-- one store -/
theorem put_field (T : ClsX K C) {h : Heap} {g : Array GenState} {dr : Drawn} {tk : Nat} {os : OsState} {d : Option Addr} {fs : List (Str × Value)} {f : Str} {v : Value} {Q : Unit → Shared → Prop} (X : K.In h) (I : Half h C e d fs) (hl : fs.length ≤ 900)
    (hno : findIn K (.ref C) f = some none)
    (hq : ∀ h' tk' d', Half h' C e (some d') ((f, v) :: fs) → (∀ b o, b ≠ e → (∀ dx, d = some dx → b ≠ dx) → h.get? b = some o → h'.get? b = some o) → (∀ dx, d = some dx → d' = dx) → (d = none → h.objs.size ≤ d') → Q () ⟨h', g, dr, tk', os⟩) :
    wpAny (model prog w) A (setAttr (.ref e) f v) Q E ⟨h, g, dr, tk, os⟩ := by
  obtain ⟨nm, q, N, bs, bm, sn, sub, ab, col, dd, k0, k1, k2, k3, k5, hC, hbm, _⟩ := T.cls
  have hcl : clsIn K C = some { name := nm, bases := bs, mro := .ref C :: bm, ns := N, qualname := q, hasDict := true, slotNames := sn, subclasses := sub, abstract := ab, collection := col, hasDel := false } := by unfold clsIn; rw [hC] <;> rfl
  obtain ⟨t, ho, hd⟩ := I
  cases d with
  | none =>
    have hfs : fs = [] := hd
    subst hfs
    refine set_plain X (ox := { cls := .ref C, dict := none, data := .fields #[.ref t, .none, .none, .none, .bool false, .none] }) (od := none) ⟨ho, rfl, rfl, trivial⟩ T.sa ?_
    refine exc_osa X ho hcl (show refsVE (.ref C :: bm) = true from hbm) rfl hno (fun h' tk' dx k dn dne hx hn => ?_)
    refine hq h' tk' dx ⟨t, hx, dne, _, hn, fun y => ?_⟩ (fun b o hb _ z => k b o hb z) (fun _ z => nomatch z) fun _ => dn
    rw [lookup_cons]
    rfl
  | some dx =>
    obtain ⟨dne, m, hns, rel⟩ := hd
    have hw := within_map rel
    obtain ⟨oD, _, _, hoD, _, _⟩ := hns.count hw
    refine set_plain X (ox := { cls := .ref C, dict := some dx, data := .fields #[.ref t, .none, .none, .none, .bool false, .none] }) (od := some oD) ⟨ho, rfl, rfl, hoD⟩ T.sa ?_
    refine PySem.OEX.osa_old X ho hns hw (by rw [List.length_map]; omega) hcl (show refsVE (.ref C :: bm) = true from hbm) rfl hno (fun h' tk' k hn => ?_)
    refine hq h' tk' dx ⟨t, k _ _ (Ne.symm dne) ho, dne, _, hn, fun y => ?_⟩ (fun b o _ hb z => k b o (hb dx rfl) z) (fun _ z => Option.some.inj z) fun z => nomatch z
    rw [lookup_cons, rel y]
/-- the stores, one after the other -/
theorem sto_run (T : ClsX K C) {env : Env} {m : Str → Option Value} (hLv : env.locals = L) (hk : env.scope.kind = .function) (hs : env.kindOf "self" = some .local) (hm : m "self" = some (.ref e)) :
    ∀ {r : List Stmt} {l : List (Str × Str)}, Sto r l → (∀ p ∈ l, env.kindOf p.2 = some .local ∧ (m p.2).isSome = true ∧ (p.2 == ("__debug__" : Str)) = false ∧ findIn K (.ref C) p.1 = some none) →
    ∀ {h : Heap} {g : Array GenState} {dr : Drawn} {tk : Nat} {os : OsState} {d : Option Addr} {fs : List (Str × Value)} {Q : Flow → Shared → Prop}, K.In h → K.lookup e = none → (∀ dx, d = some dx → K.lookup dx = none) → Half h C e d fs → L ≠ e → (∀ dx, d = some dx → L ≠ dx) → h.Ns L m → fs.length + l.length ≤ 900 →
      (∀ h' tk' d', Half h' C e d' ((l.map fun p => (p.1, (m p.2).getD .none)).reverse ++ fs) → (∀ b o, b ≠ e → (∀ dx, d = some dx → b ≠ dx) → h.get? b = some o → h'.get? b = some o) → (∀ dx, d = some dx → d' = some dx) →
        (d = none → ∀ dx, d' = some dx → h.objs.size ≤ dx) → Q .next ⟨h', g, dr, tk', os⟩) →
      wpAny (model prog w) A (execs r env) Q E ⟨h, g, dr, tk, os⟩ := by
  intro r l S
  induction S with
  | nil =>
    intro _ h g dr tk os d fs Q _ _ _ I _ _ _ _ hq
    exact wpAny_execs_nil (hq h tk d I (fun _ _ _ _ z => z) (fun _ z => z) fun z dx y => by rw [z] at y; cases y)
  | @cons f x p1 p2 p3 p4 r l hS ih =>
    intro hp h g dr tk os d fs Q X he hde I hLe hLd hn hl hq
    obtain ⟨q1, q2, q3, q4⟩ := hp (f, x) (List.mem_cons_self ..)
    obtain ⟨v, hv⟩ := Option.isSome_iff_exists.mp q2
    subst hLv
    refine wpAny_execs_cons (plainObj_wpAny_Assign_Attribute ?_)
    refine PySem.ESX.ldL (v := v) hn hv (PySem.ESX.ldL (v := .ref e) hn hm ?_ hk hs) hk q1 q3
    refine put_field T X I (by simp only [List.length_cons] at hl; omega) q4 fun h' tk' d' I' k' kd kn => ?_
    have nb : ∀ b o, K.lookup b = some o → b ≠ e ∧ ∀ dx, d = some dx → b ≠ dx := fun b o z => ⟨fun y => (by rw [y, he] at z; cases z), fun dx y w => (by rw [w, hde dx y] at z; cases z)⟩
    have X' : K.In h' := fun b o z => k' b o (nb b o z).1 (nb b o z).2 (X b o z)
    have hLn : env.locals < h.objs.size := hn.lt
    have hLd' : env.locals ≠ d' := by
      cases d with
      | none => exact Nat.ne_of_lt (Nat.lt_of_lt_of_le hLn (kn rfl))
      | some dx => rw [kd dx rfl]; exact hLd dx rfl
    have hn' : h'.Ns env.locals m := by
      obtain ⟨oL, es, ep, hL, rr⟩ := hn
      exact ⟨oL, es, ep, k' _ _ hLe hLd hL, rr⟩
    have he' : K.lookup d' = none := by
      cases d with
      | none =>
        cases z : K.lookup d' with
        | none => rfl
        | some o => exact absurd (Nat.lt_of_lt_of_le (Heap.lt_size (X _ _ z)) (kn rfl)) (Nat.lt_irrefl _)
      | some dx => rw [kd dx rfl]; exact hde dx rfl
    refine ih (fun p hp' => hp p (List.mem_cons_of_mem _ hp')) X' he (fun dx z => by cases z; exact he') I' hLe (fun dx z => by cases z; exact hLd') hn' (by simp only [List.length_cons] at hl ⊢; omega) fun h2 tk2 d2 I2 k2 kd2 _ => ?_
    have ed2 : d2 = some d' := kd2 d' rfl
    refine hq h2 tk2 d2 ?_ (fun b o hb hd z => k2 b o hb (fun dx y => ?_) (k' b o hb hd z)) (fun dx z => ?_) fun z dx y => ?_
    · rw [List.map_cons, List.reverse_cons, List.append_assoc]
      rw [hv]
      exact I2
    · cases y
      cases d with
      | none => exact Nat.ne_of_lt (Nat.lt_of_lt_of_le (Heap.lt_size z) (kn rfl))
      | some dx => rw [kd dx rfl]; exact hd dx rfl
    · rw [ed2, kd dx z]
    · rw [ed2] at y
      cases y
      exact kn z
end

/-- the statement super().__init__(text) -/
def supS (msg : Str) (k : Nat) (q1 q2 q3 q4 q5 q6 : Pos) : Stmt := .Expr (.Call (.Attribute (.Call (.Name "super" q1) [] [] q2) "__init__" q3) [.Constant (.str msg) k q4] [] q5) q6
structure InitX (prog : Program) (K : Frag) (C fI : Addr) (qual : Str) (params : Arguments) (scope : Scope) (body : List Stmt) (ar : Arg) (l : List (Str × Str)) : Prop where
  txt : ∃ msg k q1 q2 q3 q4 q5 q6 r, body = supS msg k q1 q2 q3 q4 q5 q6 :: r ∧ Sto r l ∧ (∀ env : Env, env.scope = scope → interactive env = false) ∧
    ∀ env : Env, env.scope = scope → ∃ pl : Sem Bool, eval (.Call (.Attribute (.Call (.Name "super" q1) [] [] q2) "__init__" q3) [.Constant (.str msg) k q4] [] q5) env = (do
      let ov ← attributeBase (.Call (.Name "super" q1) [] [] q2) "__init__" env (eval (.Call (.Name "super" q1) [] [] q2) env)
      standAt q3.atName
      let (f, first) ← holding [ov] (getMethod ov "__init__" pl)
      callWith q5 f first (backTo q5 (starEach [.Constant (.str msg) k q4] env)) [])
  iC : findIn K (.ref C) "__init__" = some (some (.ref fI))
  tC : typeIn K (.ref fI) = some (.type "function")
  fn : ∃ (oc : Value) (od : Option Addr) (kV doc pm : Value) (an : Option Addr) (cda : Addr) (ct : Value) (osl : Array (Option Value)) (cc : Addr) (cl : Value) (cld : Option Addr) (csl : Array (Option Value)) (ccl : Value) (cdd : Option Addr) (vs : Array Value) (ccs : Array (Option Value)) (file : Str) (tf : Tok),
    K.lookup fI = some ⟨oc, od, .func (ksFn "__init__" qual params body scope .none kV doc pm an (.ref cda) ct cc), osl⟩ ∧ codeIn K (.ref cda) qual = true ∧
    K.lookup cc = some ⟨cl, cld, .cell (some (.ref C)), csl⟩ ∧ K.lookup cda = some ⟨ccl, cdd, .fields vs, ccs⟩ ∧ vs[2]? = some (.str file tf) ∧ ((prog.main.file : Str) == file) = true
  par : (params.posonlyargs ++ params.args).head? = some ar
  arN : ar.arg = "self"
  sup : scope.names.lookup ("super" : Str) = some .globalImplicit
  cls : scope.names.lookup ("__class__" : Str) = some .free
  slf : scope.names.lookup ("self" : Str) = some .local
  loc : ∀ p ∈ l, scope.names.lookup p.2 = some .local ∧ (p.2 == ("__debug__" : Str)) = false ∧ findIn K (.ref C) p.1 = some none
  cell : ∀ x ∈ scope.names, x.2 ≠ .cell
  kind : scope.kind = .function
  co : scope.isCoroutine = false
  gen : scope.isGenerator = false
  top : (prog.main.scope.names.lookup ("super" : Str)).isSome = false
  few : l.length ≤ 900

/-- what stands behind the making of an exception -/
structure Made (h h' : Heap) (C e : Addr) (d : Option Addr) (fs : List (Str × Value)) : Prop where
  keep : ∀ b o, h.get? b = some o → h'.get? b = some o
  new : h.objs.size ≤ e
  obj : Half h' C e d fs
  dct : ∀ dx, d = some dx → h.objs.size ≤ dx

/-- a bound wrapper called with one written text -/
theorem mw_call {M : Model} {A : Around} {E : Value → Shared → Prop} {s : Shared} {u x : Addr} {i : String} {pos : Pos} {env : Env} {msg : Str} {kk : Nat} {q4 : Pos} {Q : Value → Shared → Prop} (hu : s.heap.get? u = some (kxs_mw i x))
    (h : ∀ t, wpAny M A (call (.ref u) [.str msg t]) Q E { s with toks := s.toks + 1 }) :
    wpAny M A (callWith pos (.ref u) [] (backTo pos (starEach [.Constant (.str msg) kk q4] env)) []) Q E s := by
  have he : starEach [.Constant (.str msg) kk q4] env = (false, eval (.Constant (.str msg) kk q4) env) :: starEach [] env := by rfl
  have hpl : (backTo pos (starEach [] env)).any (·.1) = false := by rfl
  rw [he]
  refine kxs_callWith (i := i) (x := x) (by show (false || (backTo pos (starEach [] env)).any (·.1)) = false; rw [hpl]; rfl) (evalArgs_plain ?_)
  show wpAny M A (spliced (backTo pos (starEach [.Constant (.str msg) kk q4] env))) _ E s
  exact spliced_more (Calls.Constant_str (spliced_none ⟨hu, h _⟩))

section
variable {prog : Program} {w : World} {A : Around} {R : Result → Shared → Prop} {K : Frag} {C fI : Addr} {qual : Str} {params : Arguments} {scope : Scope} {body : List Stmt} {ar : Arg} {l : List (Str × Str)} {mg mb : Str → Option Value}
theorem exn_made (T : ClsX K C) (I : InitX prog K C fI qual params scope body ar l) {s : Shared} {us : List Value} {binds : List (Str × Value)} (X : K.In s.heap) (hlim : s.heap.NoLimit) (hG : s.heap.Ns mainGlobals mg) (hB : s.heap.Ns builtinsNs mb) (hsup : mg "super" = none) (hmb : mb "super" = some (.type "super"))
    (ho : nsIn K cStatics "thirdparty.any" = some none)
    (hroom : A.depth + 1 < recursionLimit) (hlen : us.length ≤ sizeLine)
    (hbind : ∀ (s' : Shared) (e : Addr) (fd : FuncData), fd.params = params → fd.scope = scope → fd.defaults = .none → BindsTo s' fd ⟨.ref e :: us, []⟩ (("self", .ref e) :: binds))
    (hin : ∀ p ∈ l, (binds.lookup p.2).isSome = true) (hbl : ∀ y ∈ binds, scope.names.lookup y.1 = some .local) (hnd : (binds.map (·.1)).Nodup ∧ ("self" : Str) ∉ binds.map (·.1))
    (hq : ∀ h' tk e d, Made s.heap h' C e d (l.map fun p => (p.1, (binds.lookup p.2).getD .none)).reverse → R (.ok (.ret (.ref e))) { s with heap := h', toks := tk }) :
    codeAny (model prog w) A (.call (.ref C) ⟨us, []⟩) R s := by
  obtain ⟨nm, q, N, bs, bm, sn, sub, ab, col, dd, k0, k1, k2, k3, k5, hC, hbm, hal⟩ := T.cls
  obtain ⟨msg, kk, q1, q2, q3, q4, q5, q6, r, eb, hS, hint, hev⟩ := I.txt
  obtain ⟨oc, od, kV, doc, pm, an, cda, ct, osl, cc, cl, cld, csl, ccl, cdd, vs, ccs, file, tf, hfn, hcd, hcell, hcda, hvs, hfile⟩ := I.fn
  have hcl : clsIn K C = some { name := nm, bases := bs, mro := .ref C :: bm, ns := N, qualname := q, hasDict := true, slotNames := sn, subclasses := sub, abstract := ab, collection := col, hasDel := false } := by unfold clsIn; rw [hC] <;> rfl
  obtain ⟨hp, g, dr, tk, os⟩ := s
  have k : ∀ b o, hp.get? b = some o → ((hp.push (kdv_tup us)).push (excO C hp.objs.size)).get? b = some o := fun b o e => Heap.get?_push_of_some _ (Heap.get?_push_of_some _ e)
  have hget : ((hp.push (kdv_tup us)).push (excO C hp.objs.size)).get? (hp.objs.size + 1) = some (excO C hp.objs.size) := by heap_get
  have hnx : K.lookup (hp.objs.size + 1) = none := by
    cases e : K.lookup (hp.objs.size + 1) with
    | none => rfl
    | some o =>
      have z : hp.get? (hp.objs.size + 1) = some o := X _ _ e
      exact absurd (Nat.lt_of_succ_lt (Heap.lt_size z)) (Nat.lt_irrefl _)
  refine call_own F.excBase_ValueError (fun X => refsVE_contains X bm hbm) (X _ _ hC) (looks_findIn X I.iC) (fun self => bind_fn X self I.tC) hlen ?_
  refine ks_codeAny_call_defAt (binds := ("self", .ref (hp.objs.size + 1)) :: binds) (body := body) (show A.depth + 1 < recursionLimit from hroom) (k _ _ (X _ _ hfn)) rfl (hlim.keeps k) (codeRec_of (X.keeps k) hcd) rfl (hbind _ _ _ rfl rfl rfl) I.cell ?_ (fun h₀ hns hk₀ => ?_) I.co I.gen I.kind
  · intro x hx
    rcases List.mem_cons.mp hx with rfl | hx
    · exact I.slf
    · exact hbl x hx
  · subst eb
    let env : Env := callEnv (ksFn "__init__" qual params (supS msg kk q1 q2 q3 q4 q5 q6 :: r) scope .none kV doc pm an (.ref cda) ct cc) ((hp.push (kdv_tup us)).push (excO C hp.objs.size)).objs.size fI
    have k₀ : ∀ b o, hp.get? b = some o → h₀.get? b = some o := fun b o z => hk₀ b o (k b o z)
    have X₀ : K.In h₀ := X.keeps k₀
    have hx₀ := hk₀ _ _ hget
    obtain ⟨pl, hpl⟩ := hev env rfl
    refine ks_wpAt_execs_cons (ks_wpAt_Expr_any (ks_wpAt_MethodCall (pl := pl) ?_ hpl) (hint env rfl))
    refine ks_wpAt_super_base (f := fI) (cc := cda) I.sup I.cls (by decide) rfl (X₀ _ _ hfn) rfl I.par rfl (X₀ _ _ hcda) rfl hvs hfile I.top ?_
    refine ks_loadName_global I.kind I.sup (loadGlobal_builtin (hG.keeps k₀) hsup (hB.keeps k₀) hmb ⟨rfl, ?_⟩)
    refine wpAny_loadName_free I.kind I.cls rfl ⟨_, X₀ _ _ hcell, rfl⟩ ?_
    refine wpAny_loadName_local I.kind (show env.kindOf ar.arg = some .local by rw [I.arN]; exact I.slf) hns (v := .ref (hp.objs.size + 1)) (by rw [I.arN, lookup_reverse_of_nodup _ (by rw [List.map_cons]; exact List.nodup_cons.mpr ⟨hnd.2, hnd.1⟩)]; simp [List.lookup]) ?_
    refine ks_wpAny_isType_cls (X₀ _ _ hC) rfl ⟨rfl, ?_⟩
    refine ks_wpAny_call_super (X₀ _ _ hC) rfl hx₀ rfl (fun c z => nomatch z) (looks_mroIn X₀ ?_) (fun h1 e1 k1 => ?_)
    · unfold mroIn
      rw [hcl, Option.bind_some, if_neg (show ¬ (List.isEmpty (Value.ref C :: bm) = true) from Bool.false_ne_true)]
      simp
    · have X₁ : K.In h1 := X₀.keeps k1
      have hx₁ := k1 _ _ hx₀
      have Ity : Looks (model prog w) h1 (typeOf (.ref (hp.objs.size + 1))) (.ref C) := (show InstAt h1 (hp.objs.size + 1) (excO C hp.objs.size) C none from ⟨hx₁, rfl, rfl, trivial⟩).type
      have hxC : hp.objs.size + 1 ≠ C := fun z => by
        have y := X _ _ hC
        rw [← z] at y
        exact absurd (Nat.lt_of_succ_lt (Heap.lt_size y)) (Nat.lt_irrefl _)
      refine kxs_getMethod kxs_ValueError e1 (looks_opaque X₁ ho) ((looks_clsIn X₁ hcl).andThen .now) (l := bm) (by simp [List.dropWhile_cons]) X₁ hal (Ity.andThen (looks_subIn X₁ T.ve)) hxC (by decide) ?_
      refine mw_call (u := h1.objs.size) (x := hp.objs.size + 1) (Heap.get?_push_at rfl rfl) fun t => ?_
      have hw : (h1.push (kxs_mw "ValueError.__init__" (hp.objs.size + 1))).get? h1.objs.size = some (kxs_mw "ValueError.__init__" (hp.objs.size + 1)) := Heap.get?_push_at rfl rfl
      have k2 : ∀ b o, h1.get? b = some o → (h1.push (kxs_mw "ValueError.__init__" (hp.objs.size + 1))).get? b = some o := fun b o z => Heap.get?_push_of_some _ z
      have X₂ : K.In _ := X₁.keeps k2
      refine wpAny_call (codeAny_of_tree ?_)
      show wpAny _ _ (callAny (.ref h1.objs.size) ⟨[.str msg t], []⟩) _ _ _
      simp only [callAny]
      refine wpAny_bind (wpAny_load hw ?_)
      simp only [kxs_mw, show (Value.type "method-wrapper" == Value.type "method" || Value.type "method-wrapper" == Value.type "builtin_function_or_method" || Value.type "method-wrapper" == Value.type "method-wrapper") = true by decide, if_true]
      refine KFB.if_so (by decide) ?_
      refine wpAny_bind (check_bound_init F.excBase_ValueError.toExcCallFacts (X₂ _ _ hC) (k2 _ _ hx₁) rfl ?_)
      refine wpAny_bind (wpAny_pure (wpAny_pure ?_))
      refine ⟨plainId_quiet F.excBase_ValueError.init.plain _, codeAny_builtin F.excBase_ValueError.initEntry ?_⟩
      refine exc_init_tree (cls := .ref C) (t0 := hp.objs.size) (dv := none) (c2 := .none) (c3 := .none) (b4 := .bool false) (k2 _ _ hx₁) (by show 1 ≤ sizeLine; decide) fun h3 k3 e3 _ => ?_
      have kk3 : ∀ b o, b ≠ hp.objs.size + 1 → h₀.get? b = some o → h3.get? b = some o := fun b o hb z => k3 b o hb (k2 b o (k1 b o z))
      have notE : ∀ b o, hp.get? b = some o → b ≠ hp.objs.size + 1 := fun b o z => Nat.ne_of_lt (Nat.lt_of_lt_of_le (Heap.lt_size z) (Nat.le_succ _))
      have k4 : ∀ b o, hp.get? b = some o → h3.get? b = some o := fun b o z => kk3 b o (notE b o z) (k₀ b o z)
      have hL : env.locals ≠ hp.objs.size + 1 := by
        show ((hp.push (kdv_tup us)).push (excO C hp.objs.size)).objs.size ≠ hp.objs.size + 1
        rw [Heap.size_push, Heap.size_push]
        omega
      have hn3 : h3.Ns env.locals fun x => List.lookup x ((("self" : Str), Value.ref (hp.objs.size + 1)) :: binds).reverse := by
        obtain ⟨oL, es, ep, hoL, rr⟩ := hns
        exact ⟨oL, es, ep, kk3 _ _ hL hoL, rr⟩
      have nd : (((("self" : Str), Value.ref (hp.objs.size + 1)) :: binds).map (·.1)).Nodup := by
        rw [List.map_cons]
        exact List.nodup_cons.mpr ⟨hnd.2, hnd.1⟩
      have lk : ∀ x : Str, x ≠ "self" → List.lookup x ((("self" : Str), Value.ref (hp.objs.size + 1)) :: binds).reverse = binds.lookup x := fun x hx => by
        rw [lookup_reverse_of_nodup _ nd, lookup_cons, if_neg hx]
      have pne : ∀ p ∈ l, p.2 ≠ ("self" : Str) := fun p hp' e => by
        have q := hin p hp'
        rw [e] at q
        obtain ⟨v, hv⟩ := Option.isSome_iff_exists.mp q
        have : ("self" : Str) ∈ binds.map (·.1) := by
          exact lookup_mem_keys hv
        exact hnd.2 this
      refine wpAt_of_wpAny (sto_run T (env := env) (d := none) rfl I.kind I.slf (by rw [lookup_reverse_of_nodup _ nd, lookup_cons, if_pos rfl]) hS (fun p hp' => ?_) (X.keeps k4) hnx (fun _ z => nomatch z) ⟨_, e3, rfl⟩ hL (fun _ z => nomatch z) hn3 (by have := I.few; simpa using this) fun h4 tk4 d4 I4 k5 _ kn => ?_)
      · obtain ⟨a1, a2, a3⟩ := I.loc p hp'
        exact ⟨a1, by rw [lk _ (pne p hp')]; exact hin p hp', a2, a3⟩
      · refine ⟨rfl, hq h4 tk4 _ d4 ⟨fun b o z => k5 b o (notE b o z) (fun _ y => nomatch y) (k4 b o z), Nat.le_succ _, ?_, fun dx y => ?_⟩⟩
        · have e5 : (l.map fun p => (p.1, (List.lookup p.2 ((("self" : Str), Value.ref (hp.objs.size + 1)) :: binds).reverse).getD Value.none)) = l.map fun p => (p.1, (binds.lookup p.2).getD Value.none) :=
            List.map_congr_left fun p hp' => by rw [lk _ (pne p hp')]
          rw [e5, List.append_nil] at I4
          exact I4
        · have b : hp.objs.size ≤ h3.objs.size := Nat.le_trans (Nat.le_succ _) (Nat.le_of_lt (Heap.lt_size e3))
          exact Nat.le_trans b (kn rfl dx y)
end
end NX

set_option maxRecDepth 100000
set_option maxHeartbeats 4000000
/-! # Raising them, over the layer -/
namespace L2
open PySem PySem.Spec PyProof.Rows

/-- a class of the program's errors: its parameters ps, what it stores (field, parameter) -/
structure Exn (prog : Program) (K : PySem.W.Frag) (mg : Str → Option Value) (x : Str) (C fI : Addr) (ps : List Str) (l : List (Str × Str)) : Prop where
  cls : NX.ClsX K C
  ini : ∃ qual params scope body ar, NX.InitX prog K C fI qual params scope body ar l ∧ (∀ (s' : Shared) (e : Addr) (fd : FuncData) (us : List Value), us.length = ps.length → fd.params = params → fd.scope = scope → fd.defaults = .none → BindsTo s' fd ⟨.ref e :: us, []⟩ (("self", .ref e) :: ps.zip us)) ∧
    ∀ p ∈ ps, scope.names.lookup p = some .local
  loc : ∀ p ∈ l, p.2 ∈ ps
  nod : ps.Nodup ∧ ("self" : Str) ∉ ps
  gC : mg x = some (.ref C)
  sup : mg "super" = none
  any : PySem.W.nsIn K cStatics "thirdparty.any" = some none
  kC : PySem.W.keepIn K (.ref C) = true
  exC : PySem.W.subIn K (.ref C) (.type "BaseException") = some true
  tyC : PySem.W.typeIn K (.ref C) = some (.type "type")

/-- the fields of an error made with vs -/
def fieldsX (ps : List Str) (l : List (Str × Str)) (vs : List V) : List (Str × V) := (l.map fun p => (p.1, ((ps.zip vs).lookup p.2).getD .non)).reverse

theorem look_zip : ∀ {ps : List Str} {vs : List V} {us : List Value} {x : Str}, Vals vs us → RelO ((ps.zip vs).lookup x) ((ps.zip us).lookup x)
  | [], _, _, _, _ => by simp [RelO]
  | _ :: _, [], _, _, .nil => by simp [RelO]
  | p :: ps, v :: vs, _, x, .cons (b := u) r t => by
    rw [List.zip_cons_cons, List.zip_cons_cons]
    by_cases e : x = p
    · subst e
      simpa [List.lookup, RelO] using r
    · have q : (x == p) = false := by simpa using e
      simp only [List.lookup, q]
      exact look_zip t
theorem look_some : ∀ {ps : List Str} {us : List Value} {x : Str}, x ∈ ps → us.length = ps.length → ((ps.zip us).lookup x).isSome = true
  | [], _, _, h, _ => by cases h
  | p :: ps, [], _, _, h => by cases h
  | p :: ps, u :: us, x, h, hl => by
    rw [List.zip_cons_cons, NX.lookup_cons]
    by_cases e : x = p
    · rw [if_pos e]
      rfl
    · rw [if_neg e]
      exact look_some ((List.mem_cons.mp h).resolve_left e) (by simpa using hl)
theorem map_fst_zip : ∀ {ps : List Str} {us : List Value}, us.length = ps.length → (ps.zip us).map (·.1) = ps
  | [], _, _ => rfl
  | p :: ps, [], h => by cases h
  | p :: ps, u :: us, h => by
    rw [List.zip_cons_cons, List.map_cons, map_fst_zip (by simpa using h)]
theorem relO_fields {ps : List Str} {vs : List V} {us : List Value} (r : Vals vs us) (hl : us.length = ps.length) : ∀ {l : List (Str × Str)}, (∀ p ∈ l, p.2 ∈ ps) → ∀ f, RelO ((fieldsX ps l vs).lookup f) (((l.map fun p => (p.1, ((ps.zip us).lookup p.2).getD Value.none)).reverse).lookup f) := by
  intro l hp f
  have key : ∀ {l : List (Str × Str)}, (∀ p ∈ l, p.2 ∈ ps) → RelO ((l.map fun p => (p.1, ((ps.zip vs).lookup p.2).getD V.non)).lookup f) ((l.map fun p => (p.1, ((ps.zip us).lookup p.2).getD Value.none)).lookup f) := by
    intro l
    induction l with
    | nil => intro _; simp [RelO]
    | cons p r' ih =>
      intro hp
      rw [List.map_cons, List.map_cons]
      by_cases e : f = p.1
      · have q : (f == p.1) = true := by simpa using e
        simp only [List.lookup, q]
        have z := look_zip (ps := ps) (x := p.2) r
        obtain ⟨u, hu⟩ := Option.isSome_iff_exists.mp (look_some (us := us) (hp p (List.mem_cons_self ..)) hl)
        rw [hu] at z ⊢
        cases y : List.lookup p.2 (ps.zip vs) with
        | none => rw [y] at z; exact z.elim
        | some v => rw [y] at z; exact z
      · have q : (f == p.1) = false := by simpa using e
        simp only [List.lookup, q]
        exact ih fun p' h' => hp p' (List.mem_cons_of_mem _ h')
  unfold fieldsX
  rw [← List.map_reverse, ← List.map_reverse]
  exact key fun p h => hp p (List.mem_reverse.mp h)

/-- X(e, ..) -/
def tMkX (C : Addr) (ps : List Str) (l : List (Str × Str)) (ta : TA) : St → Hp → XK → Prop := fun σ H Q => ta σ H fun vs H1 => vs.length = ps.length ∧ ∀ d, H1 d = none → Q (.ref C) (some d) (upd H1 d (.xd (fieldsX ps l vs)))
section
variable {X : Cx} {C fI : Addr} {x : Str} {ps : List Str} {l : List (Str × Str)}
theorem mk_made (T : Exn X.prog X.K X.mg x C fI ps l) (hl0 : l ≠ []) {k : Nat} (hr : Room k X.A) {pins : List (Addr × Obj)} {σ : St} {H1 : Hp} {Q : XK} {s1 : Shared} {vs : List V} {us : List Value} (I1 : Inv X pins σ H1 s1) (r1 : Vals vs us) (hlen : vs.length = ps.length) (hps : ps.length ≤ 900)
    (q1 : ∀ d, H1 d = none → Q (.ref C) (some d) (upd H1 d (.xd (fieldsX ps l vs)))) : wpAny (model X.prog X.w) X.A (call (.ref C) us) (MkP X pins σ Q) X.xe s1 := by
  obtain ⟨qual, params, scope, body, ar, hI, hb, hloc⟩ := T.ini
  have hus : us.length = ps.length := by rw [← r1.length]; exact hlen
  obtain ⟨hG, mb, hB, hbb⟩ : s1.heap.Ns mainGlobals X.mg ∧ ∃ mb : Str → Option Value, s1.heap.Ns builtinsNs mb ∧ ∀ x : Str, x ≠ "__name__" → mb x = bootBuiltins x := by
    obtain ⟨_, h1, ⟨mb, h2, h3⟩, _⟩ := I1.mod
    exact ⟨h1.keeps I1.bk, mb, h2.keeps I1.bk, h3⟩
  refine wpAny_call (NX.exn_made (binds := ps.zip us) T.cls hI I1.kIn I1.nolimit hG hB T.sup ((hbb _ (by decide)).trans (by decide +kernel)) T.any (by have := hr.dp; omega) (by rw [hus]; exact Nat.le_trans hps (by decide)) (fun s' e fd h1 h2 h3 => hb s' e fd us hus h1 h2 h3)
    (fun p hp => look_some (T.loc p hp) hus) (fun y hy => hloc _ (by rw [← map_fst_zip hus]; exact List.mem_map_of_mem hy)) (by rw [map_fst_zip hus]; exact T.nod) fun h' tk' e d M => ?_)
  obtain ⟨hp, g, dr, tk, os⟩ := s1
  obtain ⟨t0, hoe, hdd⟩ := M.obj
  cases d with
  | none => exact absurd (by simpa using hdd) hl0
  | some d =>
    obtain ⟨dne, m, hns, hm⟩ := hdd
    show MkP X pins σ Q (.ref e) ⟨h', g, dr, tk', os⟩
    obtain ⟨G', g1, g2⟩ := restrict h' fun b => decide (b ≠ e)
    have gk : ∀ b, b ≠ e → G'.get? b = h'.get? b := fun b hb => g1 b (decide_eq_true hb)
    have ge : G'.get? e = none := g2 e (by simp)
    have old : ∀ b o, hp.get? b = some o → G'.get? b = some o := fun b o q => (gk b (Nat.ne_of_lt (Nat.lt_of_lt_of_le (Heap.lt_size q) M.new))).trans (M.keep b o q)
    have dbig : hp.objs.size ≤ d := M.dct d rfl
    have ob : ObjOk X.prog X.w (upd H1 d (.xd (fieldsX ps l vs))) G' d (.xd (fieldsX ps l vs)) :=
      ⟨m, hns.at (fun o q => (gk d dne).trans q), fun f => by rw [hm f]; exact relO_fields r1 hus T.loc f⟩
    have J : Inv X pins σ (upd H1 d (.xd (fieldsX ps l vs))) ⟨G', g, dr, tk', os⟩ := I1.laid (t' := tk') old dbig ob
    refine ⟨e, _, _, ⟨G', g, dr, tk', os⟩, _, .ref C, some d, rfl, J, fun b o q => ?_, ge, hoe, ⟨rfl, rfl⟩, rfl, rfl, ?_, rfl, I1.bare, raises_own T.exC T.tyC, q1 d (I1.hok.fresh dbig)⟩
    · by_cases hb : b = e
      · have q' : G'.get? b = some o := q
        rw [hb, ge] at q'; cases q'
      · exact (gk b hb).symm.trans q
    · rw [upd_ne (Ne.symm dne)]
      exact I1.hok.fresh M.new
variable {e : Expr} {es : List Expr} {ta : TA} {p pos pos2 : Pos} {W : WX} {k : Nat}
theorem pmk_x (T : Exn X.prog X.K X.mg x C fI ps l) (hl0 : l ≠ []) (hps : ps.length ≤ 900) (hr : Room k X.A) (hg : Gl X x) (ha : PA X (e :: es) ta) (hdb : (x == ("__debug__" : Str)) = false := by decide)
    (he : starEach (e :: es) X.env = (false, eval e X.env) :: starEach es X.env := by rfl) (hpl : (backTo pos (starEach es X.env)).any (·.1) = false := by rfl) :
    PMk X (.Call (.Name x p) (e :: es) [] pos) (tMkX C ps l ta) := by
  intro pins s σ H Q I h
  refine wpAny_Call_Name_kw (ld_glob I hg T.gC ?_ hdb)
  refine PySem.W.callWith_K (h₀ := X.base) I.ok.mod.kin T.kC (thn (ha.run pos pins s σ H _ I h) fun us s1 hh => ?_) he hpl
  obtain ⟨vs, H1, I1, r1, hlen, q1⟩ := hh
  exact ⟨I1.kIn, mk_made T hl0 hr I1 r1 hlen hps q1⟩
/-- raise X(e, ..) -/
def tRaiseX (C : Addr) (ps : List Str) (l : List (Str × Str)) (W : WX) (ta : TA) : TS := fun _ σ H => tMkX C ps l ta σ H fun cls d H' => W cls d σ H'
theorem ps_raiseX (hc : X.calm = true) (T : Exn X.prog X.K X.mg x C fI ps l) (hl0 : l ≠ []) (hps : ps.length ≤ 900) (hr : Room k X.A) (tk : Takes X W) (hg : Gl X x) (ha : PA X (e :: es) ta) (hdb : (x == ("__debug__" : Str)) = false := by decide)
    (he : starEach (e :: es) X.env = (false, eval e X.env) :: starEach es X.env := by rfl) (hpl : (backTo pos (starEach es X.env)).any (·.1) = false := by rfl) :
    PS X (.Raise (some (.Call (.Name x p) (e :: es) [] pos)) none pos2) (tRaiseX C ps l W ta) := ps_raise hc tk (pmk_x T hl0 hps hr hg ha hdb he hpl)
end
end L2

set_option maxRecDepth 100000
set_option maxHeartbeats 4000000
/-! # Further rules over the layer -/
namespace L2
open PySem PySem.Spec PyProof.Rows
/-- x is True, x is False -/
def rIsTF : R2 := fun x y H Q => ∃ b : Bool, y = .bl b ∧ Q (.bl (decide (x = .bl b))) H
theorem op_isTF {X : Cx} : OpR X (compareOp .Is) rIsTF := by
  intro pins s σ H x y v u Q I rx ry h
  obtain ⟨b, rfl, q⟩ := h
  cases ry
  cases x with
  | non => cases rx; exact wpAny_pure (fin_bl I q (by simp))
  | bl c => cases rx; exact wpAny_pure (fin_bl I q (by cases b <;> cases c <;> rfl))
  | int i => obtain ⟨t, rfl⟩ := rx; exact wpAny_pure (fin_bl I q (by simp))
  | str i => obtain ⟨t, rfl⟩ := rx; exact wpAny_pure (fin_bl I q (by simp))
  | byt i => obtain ⟨t, rfl⟩ := rx; exact wpAny_pure (fin_bl I q (by simp))
  | flt i => obtain ⟨t, rfl⟩ := rx; exact wpAny_pure (fin_bl I q (by simp))
  | ref a => cases rx; exact wpAny_pure (fin_bl I q (by simp))
  | ty n => cases rx; exact wpAny_pure (fin_bl I q (by simp))

/-! ### operators that an own class defines -/
/-- what a class says of its own method for the operator op (forward) -/
structure OwnOp (K : PySem.W.Frag) (C : Addr) (op : Operator) (f : Addr) : Prop where
  first : PySem.W.selfFirst K C = true
  at_ : PySem.W.findIn K (.ref C) (PySem.dunder op.info.2) = some (some (.ref f))
  fn : PySem.W.isFn K (.ref f) = true
/-- .. against a value of the built-in class T -/
structure OwnOpT (K : PySem.W.Frag) (C : Addr) (op : Operator) (f : Addr) (T : String) : Prop extends OwnOp K C op f where
  rev : ∃ rc, PySem.W.findIn K (.ref C) (dunderR op.info.2) = some rc ∧ (rc = none ∨ ∃ g : Addr, rc = some (.ref g))
  tf : ∃ fo, PySem.W.findIn K (.type T) (PySem.dunder op.info.2) = some fo
  tr : ∃ ro, PySem.W.findIn K (.type T) (dunderR op.info.2) = some ro
  sub : PySem.W.subIn K (.type T) (.ref C) = some false
theorem inst_of {P : Program} {w : World} {H : Hp} {h : Heap} {a C dx : Addr} {fs : List (Str × V)} (hok : HOk P w H h) (ha : H a = some (.ins C dx fs)) : ∃ od, PySem.W.InstAt h a (PySem.W.instObj C dx) C (some od) := by
  obtain ⟨mA, J, _⟩ := ins_get hok ha
  obtain ⟨od, J, _⟩ := J.look
  exact ⟨od, J⟩
theorem back_of {X : Cx} {pins : List (Addr × Obj)} {σ : St} {Q : VK} {v : Value} {s' : Shared} (h : EP X pins σ Q v s') : PySem.W.CmpBack (fun v s' => EP X pins σ Q v s') v s' := by
  obtain ⟨x, H, I, r, q⟩ := id h
  cases v <;> first
    | exact h
    | (cases x <;> first | (obtain ⟨t, z⟩ := r; cases z; done) | (cases r; done))
/-- a op b, b of the same class -/
def rOwnOp (C : Addr) (sp : Sp) (E : XK) : R2 := fun x y H Q => ∃ a dx fs b dy gs, x = .ref a ∧ y = .ref b ∧ H a = some (.ins C dx fs) ∧ H b = some (.ins C dy gs) ∧ sp [.ref a, .ref b] H Q E
theorem op_own {X : Cx} {CX : CXT} {op : Operator} {C f : Addr} {fd : FuncData} {ps : List Str} {sp : Sp} {E : XK} {k : Nat} (O : OwnOp X.K C op f) (F : FnOk X.prog X.w X.K X.mg X.base CX k f fd ps sp) (hb : Binds X.K fd ps []) (hr : Room k X.A) (hx : Passes CX X E) :
    OpR X (binaryOp op) (rOwnOp C sp E) := by
  intro pins s σ H x y v u Q I rx ry h
  obtain ⟨a, dx, fs, b, dy, gs, rfl, rfl, ha, hb', hsp⟩ := h
  cases rx
  cases ry
  obtain ⟨od, J⟩ := inst_of I.hok ha
  obtain ⟨od', J'⟩ := inst_of I.hok hb'
  obtain ⟨m, hF⟩ := I.fr
  refine PySem.W.binop_K hF I.ok.mod.kin J J'.type O.first O.at_ O.fn (wpAny_mono (run_fn F hr hb .nil hx I (us := [.ref a, .ref b]) (vs := [.ref a, .ref b]) (.cons rfl (.cons rfl .nil)) hsp) (fun r s' q => back_of q) fun _ _ z => z)
/-- a op n, n a number -/
def rOwnOpI (C : Addr) (sp : Sp) (E : XK) : R2 := fun x y H Q => ∃ a dx fs n, x = .ref a ∧ y = .int n ∧ H a = some (.ins C dx fs) ∧ sp [.ref a, .int n] H Q E
theorem op_ownI {X : Cx} {CX : CXT} {op : Operator} {C f : Addr} {fd : FuncData} {ps : List Str} {sp : Sp} {E : XK} {k : Nat} (O : OwnOpT X.K C op f "int") (F : FnOk X.prog X.w X.K X.mg X.base CX k f fd ps sp) (hb : Binds X.K fd ps []) (hr : Room k X.A) (hx : Passes CX X E) :
    OpR X (binaryOp op) (rOwnOpI C sp E) := by
  intro pins s σ H x y v u Q I rx ry h
  obtain ⟨a, dx, fs, n, rfl, rfl, ha, hsp⟩ := h
  cases rx
  obtain ⟨t, rfl⟩ := ry
  obtain ⟨od, J⟩ := inst_of I.hok ha
  obtain ⟨m, hF⟩ := I.fr
  obtain ⟨rc, h1, h2⟩ := O.rev
  obtain ⟨fo, h3⟩ := O.tf
  obtain ⟨ro, h4⟩ := O.tr
  refine PySem.W.ksp_binT (T := "int") hF I.ok.mod.kin J rfl O.first O.at_ O.fn h1 h2 h3 h4 O.sub (wpAny_mono (run_fn F hr hb .nil hx I (us := [.ref a, .int n t]) (vs := [.ref a, .int n]) (.cons rfl (.cons ⟨t, rfl⟩ .nil)) hsp) (fun r s' q => back_of q) fun _ _ z => z)

/-- -a -/
def rOwnNeg (C : Addr) (sp : Sp) (E : XK) : V → Hp → VK → Prop := fun x H Q => ∃ a dx fs, x = .ref a ∧ H a = some (.ins C dx fs) ∧ sp [.ref a] H Q E
theorem un_own {X : Cx} {CX : CXT} {C f : Addr} {fd : FuncData} {ps : List Str} {sp : Sp} {E : XK} {k : Nat} (hs : PySem.W.findIn X.K (.ref C) "__neg__" = some (some (.ref f))) (hf : PySem.W.isFn X.K (.ref f) = true) (F : FnOk X.prog X.w X.K X.mg X.base CX k f fd ps sp) (hb : Binds X.K fd ps []) (hr : Room k X.A) (hx : Passes CX X E) :
    UnR X (unaryOp .USub) (rOwnNeg C sp E) := by
  intro pins s σ H x v Q I rx h
  obtain ⟨a, dx, fs, rfl, ha, hsp⟩ := h
  cases rx
  obtain ⟨od, J⟩ := inst_of I.hok ha
  obtain ⟨m, hF⟩ := I.fr
  exact PySem.W.ksp_neg hF I.ok.mod.kin J hs hf (run_fn F hr hb .nil hx I (us := [.ref a]) (vs := [.ref a]) (.cons rfl .nil) hsp)
end L2

set_option maxRecDepth 100000
set_option maxHeartbeats 4000000
/-! # enumerate(x), x a list or a tuple -/
namespace EN
open PySem PySem.Builtin
set_option maxHeartbeats 1000000 in
theorem meets1 {v : Value} {o : Obj} {H : Heap → Prop} (B : Begins v o H) :
    Meets (Builtin.«enumerate.__new__» ⟨[.type "enumerate", v], []⟩) (fun _ R s => H s.heap ∧
      R (.ok (.ret (.ref (s.heap.push o).objs.size))) { s with heap := (s.heap.push o).push { cls := .type "enumerate", data := .fields #[.none, .bool false, .ref s.heap.objs.size, rawInt 0, .none, .none] } }) :=
  .of_wp fun prog w A R s h => by
    obtain ⟨hp, g, d, tk, os⟩ := s; obtain ⟨h1, h⟩ := h
    have hsub := sub_enumerate
    have q1 : ∀ {A' : Around} {E : Value → Shared → Prop} {Q : Value → Shared → Prop}, Q (.ref hp.objs.size) ⟨hp.push o, g, d, tk, os⟩ → wpAny (model prog w) A' (pyIter v) Q E ⟨hp, g, d, tk, os⟩ :=
      fun q => B.iter prog w _ _ ⟨hp, g, d, tk, os⟩ _ h1 q
    wp_walk using q1
    refine wpAny_stack_any fun st => wpAny_pure ?_
    split
    · rename_i c _ _ _ _ _
      cases (c == Value.type "enumerate")
      · wp_walk using q1
        exact ⟨_, rfl, h⟩
      · wp_walk using q1
        exact ⟨_, rfl, h⟩
    · wp_walk using q1
      exact ⟨_, rfl, h⟩
section
variable {prog : Program} {w : World} {A : Around} {E : Value → Shared → Prop} {s : Shared}
theorem begins1 {v : Value} {o : Obj} {H : Heap → Prop} {Q : Value → Shared → Prop} (B : Begins v o H) (h1 : H s.heap)
    (h : ∀ h', IsEnum h' (s.heap.objs.size + 1) s.heap.objs.size 0 .none → h'.get? s.heap.objs.size = some o → h'.objs.size = s.heap.objs.size + 2 →
      (∀ b o, s.heap.get? b = some o → h'.get? b = some o) → Q (.ref (s.heap.objs.size + 1)) { s with heap := h' })
    (ht : checkTypeCall "enumerate" ⟨[v], []⟩ = pure ()) (hn : checkBuiltinCall "enumerate.__new__" ⟨[.type "enumerate", v], []⟩ = pure ()) (ha : ∀ obj, argsOk "object.__init__" ⟨[obj, v], []⟩) :
    wpAny (model prog w) A (call (.type "enumerate") [v]) Q E s := by
  refine callType_new F.called_enumerate (by decide) ht hn ha F.entry_enumerate_new (meets1 B) ⟨h1, ?_⟩
  have hz : (s.heap.push o).objs.size = s.heap.objs.size + 1 := Heap.size_push ..
  show _ ∧ _
  rw [hz]
  have he : IsEnum ((s.heap.push o).push { cls := .type "enumerate", data := .fields #[.none, .bool false, .ref s.heap.objs.size, rawInt 0, .none, .none] }) (s.heap.objs.size + 1) s.heap.objs.size 0 .none := by
    have := Heap.get?_push_size (s.heap.push o) (o := { cls := .type "enumerate", data := .fields #[.none, .bool false, .ref s.heap.objs.size, rawInt 0, .none, .none] }) rfl
    rw [hz] at this; exact this
  refine ⟨⟨_, he, rfl⟩, h _ he (Heap.get?_push_of_some _ (Heap.get?_push_size _ B.free)) (by rw [Heap.size_push, hz]) fun b o x => Heap.get?_push_of_some _ (Heap.get?_push_of_some _ x)⟩
end
end EN

namespace L2
open PySem PySem.Spec PyProof.Rows
/-- enumerate over the tuple at a, from k on -/
def IteT (K : PySem.W.Frag) (k : Int) (a : Addr) : It :=
  ⟨fun i H => ∃ (xs : List V) (x : V), SqT K H a xs ∧ xs[i]? = some x, fun i H v H' => ∃ T x, v = .ref T ∧ H T = none ∧ H' = upd H T (.tup [.int (k + (i : Int)), x]) ∧ ∀ xs, SqT K H a xs → xs[i]? = some x, fun i H => ∃ xs : List V, SqT K H a xs ∧ xs.length = i⟩
theorem turn_enumT {P : Program} {w : World} {K : PySem.W.Frag} {elts : List Expr} {kk : Nat} {tpos : Pos} (k : Int) (a e it : Addr) (hei : e ≠ it) :
    Turn P w K (.Tuple elts kk tpos) (IteT K k a) [e, it] e (fun i h => (∃ old, IsEnum h e it (k + ((i : Nat) : Int)) old) ∧ h.IsTupleIter it a i) where
  mem := by simp
  obj := fun i h st b hb => by
    obtain ⟨⟨old, he⟩, ⟨o, ho, hc, hd⟩⟩ := st
    have e' : b = e ∨ b = it := by simpa using hb
    rcases e' with z | z
    · rw [z]; exact ⟨_, he, fun v q => nomatch q⟩
    · rw [z]; exact ⟨o, ho, fun v q => by rw [hd] at q; cases q⟩
  keep := fun i h h' st k => let ⟨⟨old, he⟩, hi⟩ := st; ⟨⟨old, k e (by simp) _ he⟩, hi.at fun o q => k it (by simp) o q⟩
  item := by
    intro X hP hw hK hc i pins s σ H E I hf st hg
    subst hP hw hK
    obtain ⟨⟨old, he⟩, hit⟩ := st
    obtain ⟨xs, x, hq, hx⟩ := hg
    obtain ⟨its, rv, p, hz⟩ := I.tuple hq
    obtain ⟨u, hu, ru⟩ := rv.get hx
    have hel : e < s.heap.objs.size := Heap.lt_size he
    have hil : it < s.heap.objs.size := by obtain ⟨_, q, _⟩ := hit; exact Heap.lt_size q
    have hae : e ≠ a := fun z => by
      obtain ⟨o, ho, hcls, _⟩ := p
      rw [← z, he] at ho
      cases ho
      exact absurd (show Value.type "enumerate" = Value.type "tuple" from hcls) (by decide)
    have hai : a ≠ it := fun z => by
      obtain ⟨o, ho, hcls, _⟩ := p
      obtain ⟨o2, ho2, hc2, _⟩ := hit
      rw [z, ho2] at ho
      cases ho
      rw [hc2] at hcls
      exact absurd hcls (by decide)
    have W := GoesN.enumFrom (prog := X.prog) (w := X.w) (A := X.A) (elts := elts) (x1 := kk) (pos := tpos) k (Draws.tuple (prog := X.prog) (w := X.w) (A := X.A.in1) (I.ok.hd hc) it a hai its.toArray) e hei (by simp [hei, hae]) (by simp)
    have hi : i < its.toArray.size := by
      have := (List.getElem?_eq_some_iff.mp hu).1
      simpa using this
    refine wpAny_mono (W.goes i s _ E hi ⟨⟨old, he⟩, hit, p⟩ fun v h' tk hY st' hk htk => ?_) (fun r s1 hr => hr) fun _ _ z => z
    obtain ⟨T, t, y, rfl, hT, hPy, hTup⟩ := hY
    have ey : y = u := by
      have hu' : its.toArray[i]? = some u := by simpa using hu
      rw [hu'] at hPy
      exact (Option.some.inj hPy).symm
    subst ey
    obtain ⟨⟨old2, he2⟩, hit2, _⟩ := st'
    have new : ObjOk X.prog X.w (upd H T (.tup [.int (k + (i : Int)), x])) h' T (.tup [.int (k + (i : Int)), x]) :=
      ⟨by show 2 ≤ sizeLine; decide, [.int (k + (i : Int)) t, y], .cons ⟨_, rfl⟩ (.cons ru .nil), hTup⟩
    have I1 : Inv X pins σ (upd H T (.tup [.int (k + (i : Int)), x])) { s with heap := h', toks := tk } :=
      I.turnedNew (ch := [e, it]) (fun b ob hb q => hk b ob hb q) hf hT new
    refine ⟨.ref T, _, I1, rfl, ⟨_, x, rfl, I.hok.fresh hT, rfl, fun ys hy => by rw [I.tuple_inj hy hq]; exact hx⟩, ⟨⟨old2, he2⟩, hit2⟩, fun b hb => ?_⟩
    have hb' : b < s.heap.objs.size := by
      have e' : b = e ∨ b = it := by simpa using hb
      rcases e' with z | z
      · rw [z]; exact hel
      · rw [z]; exact hil
    rw [upd_ne (Nat.ne_of_lt (Nat.lt_of_lt_of_le hb' hT))]
    exact (hf b hb).1
  done := by
    intro X hP hw hK hc i pins s σ H E I hf st hg
    subst hP hw hK
    obtain ⟨⟨old, he⟩, hit⟩ := st
    obtain ⟨xs, hq, hx⟩ := hg
    obtain ⟨its, rv, p, hz⟩ := I.tuple hq
    have hai : a ≠ it := fun z => by
      obtain ⟨o, ho, hcls, _⟩ := p
      obtain ⟨o2, ho2, hc2, _⟩ := hit
      rw [z, ho2] at ho
      cases ho
      rw [hc2] at hcls
      exact absurd hcls (by decide)
    have hae : e ≠ a := fun z => by
      obtain ⟨o, ho, hcls, _⟩ := p
      rw [← z, he] at ho
      cases ho
      exact absurd (show Value.type "enumerate" = Value.type "tuple" from hcls) (by decide)
    have W := GoesN.enumFrom (prog := X.prog) (w := X.w) (A := X.A) (elts := elts) (x1 := kk) (pos := tpos) k (Draws.tuple (prog := X.prog) (w := X.w) (A := X.A.in1) (I.ok.hd hc) it a hai its.toArray) e hei (by simp [hei, hae]) (by simp)
    have hl := rv.length
    have hn : its.toArray.size = i := by
      rw [List.size_toArray, ← hl, hx]
    refine wpAny_mono (W.stops s (fun s1 => Inv X pins σ H s1) E (by rw [hn]; exact ⟨⟨old, he⟩, hit, p⟩) fun h' tk hk htk => I.turnedL (t' := tk) (ch := [e, it]) (fun b o hb q => hk b o hb q) hf) (fun r s1 hr => hr) fun _ _ z => z
  self := fun A i s Q E st h => let ⟨⟨_, he⟩, _⟩ := st; wpAny_pyIter_enum he h

theorem walk_enumT {K : PySem.W.Frag} {k : Int} {a : Addr} {xs : List V} : Walk (IteT K k a) xs.length (fun H => SqT K H a xs) (YPair (fun i => some (.int (k + (i : Nat)))) (fun i => xs[i]?)) where
  goes := fun i H hi h => ⟨xs, xs[i], h, List.getElem?_eq_getElem hi⟩
  stops := fun H h => ⟨xs, h, rfl⟩
  yields := fun i H v H' hi h y => by
    obtain ⟨T, x, rfl, hT, rfl, hx⟩ := y
    exact ⟨T, .int (k + (i : Nat)), x, rfl, hT, rfl, rfl, hx xs h⟩
/-- enumerate(x), x a list or a tuple -/
def iEnumA (K : PySem.W.Frag) (ta : TA) : TI := fun σ H R => ta σ H fun vs H1 => ∃ a xs, vs = [.ref a] ∧ ((SqL K H1 a xs ∧ R (Ite K a) H1) ∨ (SqT K H1 a xs ∧ R (IteT K 0 a) H1))
theorem pi_enumA {X : Cx} {e : Expr} {ta : TA} {p pos tpos : Pos} {elts : List Expr} {kk : Nat} (hg : Gl X "enumerate") (hm : X.mg "enumerate" = none) (ha : PA X [e] ta) (hs : starEach [e] X.env = [(false, eval e X.env)] := by rfl) :
    PI X (.Tuple elts kk tpos) (.Call (.Name "enumerate" p) [e] [] pos) (iEnumA X.K ta) := by
  refine ⟨fun pins s σ H R I h => ?_⟩
  refine Call_ (ld_blt I hg hm boot_enumerate (PyProof.Rows.callWith_type1 (thn (ha.run pos pins s σ H _ I h) fun us s1 ⟨vs, H1, I1, r1, q1⟩ => ?_) hs rfl))
  obtain ⟨a, xs, ex, q1⟩ := q1
  subst ex
  cases r1 with
  | cons r rr =>
    cases rr
    cases r
    have fresh2 : ∀ b, b ∈ [s1.heap.objs.size + 1, s1.heap.objs.size] → FpOk X pins H1 b := fun b hb => by
      have e' : b = s1.heap.objs.size + 1 ∨ b = s1.heap.objs.size := by simpa using hb
      have hle : s1.heap.objs.size ≤ b := by
        rcases e' with z | z
        · rw [z]; exact Nat.le_add_right _ _
        · rw [z]; exact Nat.le_refl _
      exact I1.fpOk hle (I1.hok.fresh hle)
    rcases q1 with ⟨hq, q⟩ | ⟨hq, q⟩
    · obtain ⟨its, rv, p', hz⟩ := I1.list hq
      refine call_enumerate_list p'.isList fun h' he hit hsz hk => wpAny_pyIter_enum he ?_
      have I2 : Inv X pins σ H1 { s1 with heap := h' } := I1.kept (t' := s1.toks) hk
      exact ⟨s1.heap.objs.size + 1, [s1.heap.objs.size + 1, s1.heap.objs.size], _, _, H1, rfl, I2, turn_enum a (s1.heap.objs.size + 1) s1.heap.objs.size, ⟨⟨.none, he⟩, hit, Nat.succ_ne_self _⟩, fresh2, q⟩
    · obtain ⟨its, rv, p', hz⟩ := I1.tuple hq
      refine EN.begins1 (begins_tuple a its.toArray) p' (fun h' he hit hsz hk => wpAny_pyIter_enum he ?_) (F.typeCall_enumerate_1 _) (F.newCall_enumerate_1 _) (fun obj => F.args_object_init_2 obj _)
      have I2 : Inv X pins σ H1 { s1 with heap := h' } := I1.kept (t' := s1.toks) hk
      exact ⟨s1.heap.objs.size + 1, [s1.heap.objs.size + 1, s1.heap.objs.size], _, _, H1, rfl, I2, turn_enumT 0 a (s1.heap.objs.size + 1) s1.heap.objs.size (Nat.succ_ne_self _), ⟨⟨.none, he⟩, ⟨_, hit, rfl, rfl⟩⟩, fresh2, q⟩
end L2

set_option maxRecDepth 100000
set_option maxHeartbeats 4000000
/-! # for x in an instance whose __iter__ says: return iter(self.field), the field a tuple -/
namespace L2
open PySem PySem.Spec PyProof.Rows PySem.W
structure OwnIt (K : Frag) (mg : Str → Option Value) (C f : Addr) (fld : Str) : Prop where
  cls : Cls K C
  noA : NoAttr K C fld
  at_ : findIn K (.ref C) "__iter__" = some (some (.ref f))
  fn : isFn K (.ref f) = true
  free : mg "iter" = none
  txt : ∃ qual params scope p1 p2 p3 p4 p5, (∃ (oc : Value) (od : Option Addr) (kV doc pm : Value) (an : Option Addr) (cdv ct : Value) (osl : Array (Option Value)),
      K.lookup f = some ⟨oc, od, .func (fnOf "__iter__" qual params [.Return (some (.Call (.Name "iter" p1) [.Attribute (.Name "self" p2) fld p3] [] p4)) p5] scope .none kV doc pm an cdv ct), osl⟩ ∧ codeIn K cdv qual = true) ∧
    scope.names.lookup ("self" : Str) = some .local ∧ scope.names.lookup ("iter" : Str) = some .globalImplicit ∧ (∀ x ∈ scope.names, x.2 ≠ .cell) ∧ scope.kind = .function ∧ scope.isCoroutine = false ∧ scope.isGenerator = false ∧
    (∀ (s : Shared) (fd : FuncData) (v : Value), fd.params = params → fd.scope = scope → fd.defaults = .none → BindsTo s fd ⟨[v], []⟩ [("self", v)]) ∧
    ∀ env : Env, env.scope = scope → attributeBase (.Name "self" p2) fld env (eval (.Name "self" p2) env) = eval (.Name "self" p2) env
abbrev tupIt (t : Addr) : Obj := { cls := .type "tuple_iterator", data := .fields #[.ref t, .int 0 0] }
theorem call_iter_tup {prog : Program} {w : World} {A : Around} {E : Value → Shared → Prop} {s : Shared} {t : Addr} {items : Array Value} {Q : Value → Shared → Prop} (ht : s.heap.IsTuple t items) (h : Q (.ref s.heap.objs.size) { s with heap := s.heap.push (tupIt t) }) :
    wpAny (model prog w) A (call (.builtin "iter") [.ref t]) Q E s := by
  refine Calls.call_function_entry (by decide +kernel) (by decide +kernel) kdk_entry_iter (kdk_args_iter _) ?_
  unfold Builtin.«iter»
  refine wpAny_bind (m := someArgs "iter" 1 2 _) (wpAny_of_eq (a := [Value.ref t]) (by first | rfl | kernel_rfl!) ?_)
  show wpAny _ _ (pyIter (.ref t) >>= _) _ _ _
  refine wpAny_bind (wpAny_pyIter_tuple ht ?_)
  exact wpAny_pure ⟨_, rfl, h⟩
section
variable {X : Cx} {pins : List (Addr × Obj)} {σ : St} {H : Hp} {s : Shared} {a C dx f t : Addr} {fs : List (Str × V)} {fld : Str} {xs : List V} {k : Nat}
theorem own_iter (O : OwnIt X.K X.mg C f fld) (hr : Room k X.A) (I : Inv X pins σ H s) (ha : H a = some (.ins C dx fs)) (hv : fs.lookup fld = some (.ref t)) (hT : SqT X.K H t xs) {Q : Value → Shared → Prop}
    (hq : ∀ h' tk it, (∀ b o, s.heap.get? b = some o → h'.get? b = some o) → s.heap.objs.size ≤ it → h'.get? it = some (tupIt t) → Q (.ref it) { s with heap := h', toks := tk }) :
    wpAny (model X.prog X.w) X.A (pyIter (.ref a)) Q X.xe s := by
  obtain ⟨qual, params, scope, p1, p2, p3, p4, p5, ⟨oc, od, kV, doc, pm, an, cdv, ct, osl, hfn, hcd⟩, sc1, sc2, sc3, sc4, sc5, sc6, hb, hbase⟩ := O.txt
  obtain ⟨mA, J0, rel, _⟩ := ins_get I.hok ha
  obtain ⟨oda, J, _⟩ := J0.look
  obtain ⟨m, hF⟩ := I.fr
  obtain ⟨its, rv, hTup, _⟩ := I.tuple hT
  obtain ⟨u, hu, ru⟩ := RelO.some_of (v := V.ref t) (o := mA fld) (by rw [← hv]; exact rel fld)
  cases ru
  have hG : s.heap.Ns mainGlobals X.mg := I.mod.glob.keeps I.bk
  obtain ⟨mb, hB, hbb⟩ := I.mod.blt
  have X0 := I.kIn
  have hlim := I.nolimit
  obtain ⟨hp, g, dr, tk, os⟩ := s
  refine owit_iter hF I.ok.mod.kin J O.at_ O.fn (wpAny_call ?_)
  refine ks_codeAny_call_defAt (binds := [("self", .ref a)]) (by have := hr.dp; omega) (X0 _ _ hfn) rfl hlim (codeRec_of X0 hcd) rfl (hb _ _ _ rfl rfl rfl) sc3 (fun y hy => ?_) (fun h₀ hns hk₀ => ?_) sc5 sc6 sc4
  · have e : y = (("self" : Str), Value.ref a) := by simpa using hy
    rw [e]
    exact sc1
  · have X1 : X.K.In h₀ := X0.keeps hk₀
    have J1 : ObjM h₀ a dx C mA := ⟨hk₀ _ _ J0.obj, J0.ns.at fun o q => hk₀ _ o q, J0.ne⟩
    refine wpAt_of_wpAny (wpAny_execs_cons (wpAny_Return_some ?_))
    refine wpAny_Call_Name_kw (Calls.Name_function_global sc4 sc2 (Calls.loadGlobal_builtin (hG.keeps hk₀) O.free ((hB.keeps I.bk).keeps hk₀) ((hbb _ (by decide)).trans (by decide +kernel : bootBuiltins "iter" = some (.builtin "iter"))) ?_) (by decide))
    refine PyProof.Rows.callWith_builtin1 (spliced_more (attr_of (hbase _ rfl) (PySem.ESX.ldL (v := .ref a) hns (by simp [List.lookup]) ?_ sc4 sc1))) (by rfl) (by rfl)
    refine get_map X1 J1 (O.cls.get _) O.cls.hd O.noA hu rfl (spliced_none ?_)
    refine call_iter_tup (show h₀.IsTuple t its.toArray from let ⟨o, h1, h2⟩ := hTup; ⟨o, hk₀ _ o h1, h2⟩) ?_
    have hT1 : (⟨h₀.push (tupIt t), g, dr, tk + 1 + 1, os⟩ : Shared).TypeIs (.ref h₀.objs.size) "tuple_iterator" := ⟨_, Heap.get?_push_at rfl rfl, rfl⟩
    refine wpAny_specialOf (hT1) F.slot_tuple_iterator_next.lookup ?_
    exact hq _ _ _ (fun b o q => Heap.get?_push_of_some _ (hk₀ b o q)) (by
      have := hns.lt
      exact Nat.le_of_lt this) (Heap.get?_push_at rfl rfl)
end
end L2

set_option maxRecDepth 100000
set_option maxHeartbeats 4000000
/-! # Words for lists or tuples, heaps that only grow -/
namespace L2
open PySem PySem.Spec PyProof.Rows
/-- a list or a tuple -/
def SqA (K : PySem.W.Frag) (H : Hp) (a : Addr) (xs : List V) : Prop := SqL K H a xs ∨ SqT K H a xs
theorem Same.seqT {K : PySem.W.Frag} {H H' : Hp} {a : Addr} {xs : List V} (e : Same H H') (h : SqT K H a xs) : SqT K H' a xs := by
  rcases h with (h | ⟨o, h⟩) | h
  · exact .inl (.inl (e _ _ h))
  · exact .inl (.inr ⟨o, e _ _ h⟩)
  · exact .inr h
theorem Same.seqA {K : PySem.W.Frag} {H H' : Hp} {a : Addr} {xs : List V} (e : Same H H') (h : SqA K H a xs) : SqA K H' a xs := h.imp e.seq e.seqT
theorem Same.new {H : Hp} {p : Addr} {o : HO} (h : H p = none) : Same H (upd H p o) := fun b u e => by
  rw [upd_ne (fun z => by rw [z, h] at e; cases e)]
  exact e
theorem Same.new' {H H' : Hp} {p : Addr} {o : HO} (s : Same H H') (h : H' p = none) : Same H (upd H' p o) := s.trans (.new h)
theorem passX {X : Cx} {K : Value → Shared → Prop} {E₁ : Value → Shared → Prop} (hx : X.xe = fun e s' => wpAny (model X.prog X.w) X.A (leaving X.env e) (fun _ s'' => K e s'') E₁ s') : PassesOwn (model X.prog X.w) X.A X.env X.xe := passes_of hx
theorem map_get {α : Type} {f : α → V} {ns : List α} {i : Nat} {y : V} (e : (ns.map f)[i]? = some y) : ∃ n, ns[i]? = some n ∧ y = f n := by
  rw [List.getElem?_map] at e
  cases q : ns[i]? with
  | none => rw [q] at e; cases e
  | some n => rw [q] at e; exact ⟨n, rfl, (Option.some.inj e).symm⟩
theorem enumA_of {K : PySem.W.Frag} {H : Hp} {a : Addr} {xs : List V} {R : It → Hp → Prop} (h : SqA K H a xs) (hR : ∀ (J : It) (G : Hp → Prop), (∀ H', Same H H' → G H') → Walk J xs.length G (YPair (fun i => some (.int (i : Nat))) (fun i => xs[i]?)) → R J H) :
    (SqL K H a xs ∧ R (Ite K a) H) ∨ (SqT K H a xs ∧ R (IteT K 0 a) H) := by
  rcases h with h | h
  · exact .inl ⟨h, hR _ _ (fun _ s => s.seq h) walk_enum⟩
  · exact .inr ⟨h, hR _ _ (fun _ s => s.seqT h) ((walk_enumT (k := 0)).mono (fun _ h => h) fun i H x H' _ _ y => by
      obtain ⟨T', x', y', z⟩ := y
      exact ⟨T', x', y', by simpa using z⟩)⟩
/-- enumerate(x), x a list or a tuple, told by its Walk -/
def iEnumW (K : PySem.W.Frag) (ta : TA) : TI := fun σ H R => ta σ H fun vs H1 => ∃ a xs, vs = [.ref a] ∧ SqA K H1 a xs ∧ ∀ (J : It) (G : Hp → Prop), (∀ H', Same H1 H' → G H') → Walk J xs.length G (YPair (fun i => some (.int (i : Nat))) (fun i => xs[i]?)) → R J H1
theorem pi_enumW {X : Cx} {e : Expr} {ta : TA} {p pos tpos : Pos} {elts : List Expr} {kk : Nat} (hg : Gl X "enumerate") (hm : X.mg "enumerate" = none) (ha : PA X [e] ta) (hs : starEach [e] X.env = [(false, eval e X.env)] := by rfl) :
    PI X (.Tuple elts kk tpos) (.Call (.Name "enumerate" p) [e] [] pos) (iEnumW X.K ta) := by
  refine ⟨fun pins s σ H R I h => ?_⟩
  refine Call_ (ld_blt I hg hm boot_enumerate (PyProof.Rows.callWith_type1 (thn (ha.run pos pins s σ H _ I h) fun us s1 ⟨vs, H1, I1, r1, q1⟩ => ?_) hs rfl))
  obtain ⟨a, xs, ex, q1⟩ := q1
  subst ex
  have q1 := enumA_of q1.1 q1.2
  cases r1 with
  | cons r rr =>
    cases rr
    cases r
    have fresh2 : ∀ b, b ∈ [s1.heap.objs.size + 1, s1.heap.objs.size] → FpOk X pins H1 b := fun b hb => by
      have e' : b = s1.heap.objs.size + 1 ∨ b = s1.heap.objs.size := by simpa using hb
      have hle : s1.heap.objs.size ≤ b := by
        rcases e' with z | z
        · rw [z]; exact Nat.le_add_right _ _
        · rw [z]; exact Nat.le_refl _
      exact I1.fpOk hle (I1.hok.fresh hle)
    rcases q1 with ⟨hq, q⟩ | ⟨hq, q⟩
    · obtain ⟨its, rv, p', hz⟩ := I1.list hq
      refine call_enumerate_list p'.isList fun h' he hit hsz hk => wpAny_pyIter_enum he ?_
      have I2 : Inv X pins σ H1 { s1 with heap := h' } := I1.kept (t' := s1.toks) hk
      exact ⟨s1.heap.objs.size + 1, [s1.heap.objs.size + 1, s1.heap.objs.size], _, _, H1, rfl, I2, turn_enum a (s1.heap.objs.size + 1) s1.heap.objs.size, ⟨⟨.none, he⟩, hit, Nat.succ_ne_self _⟩, fresh2, q⟩
    · obtain ⟨its, rv, p', hz⟩ := I1.tuple hq
      refine EN.begins1 (begins_tuple a its.toArray) p' (fun h' he hit hsz hk => wpAny_pyIter_enum he ?_) (F.typeCall_enumerate_1 _) (F.newCall_enumerate_1 _) (fun obj => F.args_object_init_2 obj _)
      have I2 : Inv X pins σ H1 { s1 with heap := h' } := I1.kept (t' := s1.toks) hk
      exact ⟨s1.heap.objs.size + 1, [s1.heap.objs.size + 1, s1.heap.objs.size], _, _, H1, rfl, I2, turn_enumT 0 a (s1.heap.objs.size + 1) s1.heap.objs.size (Nat.succ_ne_self _), ⟨⟨.none, he⟩, ⟨_, hit, rfl, rfl⟩⟩, fresh2, q⟩
end L2

set_option maxRecDepth 100000
set_option maxHeartbeats 4000000
/-! # Tuples: t * 0, t * 1, t[::-1], sum(t) -/
namespace L2
open PySem PySem.Spec PyProof.Rows
theorem tuple_mulS (l : Addr) (items : Array Value) (n : Nat) (dd : Option Addr) (sl : Array (Option Value)) (x : Int) (u : Tok) (c0 : (decide (x < -(2 ^ 63)) || decide (x ≥ 2 ^ 63)) = false) (c1 : (items.isEmpty || x == 1) = true) :
    Meets (Builtin.«tuple.__mul__» ⟨[.ref l, .int x u], []⟩) (fun _ R s => s.heap.get? l = some { cls := .type "tuple", dict := dd, data := .seq items n, slots := sl } ∧
      R (.ok (.ret (Value.ref l))) s) :=
  .of_wp fun prog w A R s h => by
    obtain ⟨hp, g, d, tk, os⟩ := s
    obtain ⟨hl, h⟩ := h
    have f1 := AutoSeq1.idx_int
    wp_walk using wpAny_loadPart' hl
    repeat (first
      | (refine wpAny_ite_false (decide_eq_false (by rw [c0]; exact Bool.false_ne_true)) ?_; wp_walk using wpAny_loadPart' hl)
      | (refine wpAny_ite_true (decide_eq_true c1) ?_; wp_walk using wpAny_loadPart' hl))
    exact ⟨_, rfl, h⟩
theorem tuple_mul0 (l : Addr) (items : Array Value) (n : Nat) (dd : Option Addr) (sl : Array (Option Value)) (x : Int) (u : Tok) (c0 : (decide (x < -(2 ^ 63)) || decide (x ≥ 2 ^ 63)) = false) (c1 : (items.isEmpty || x == 1) = false) (c2 : (decide (x ≤ 0) || items.isEmpty) = true) :
    Meets (Builtin.«tuple.__mul__» ⟨[.ref l, .int x u], []⟩) (fun _ R s => s.heap.get? l = some { cls := .type "tuple", dict := dd, data := .seq items n, slots := sl } ∧
      R (.ok (.ret (Value.ref s.heap.objs.size))) { s with heap := s.heap.push { cls := Value.type "tuple", data := Data.seq #[] }, toks := s.toks }) :=
  .of_wp fun prog w A R s h => by
    obtain ⟨hp, g, d, tk, os⟩ := s
    obtain ⟨hl, h⟩ := h
    have f1 := AutoSeq1.idx_int
    wp_walk using wpAny_loadPart' hl
    repeat (first
      | (refine wpAny_ite_false (decide_eq_false (by rw [c0]; exact Bool.false_ne_true)) ?_; wp_walk using wpAny_loadPart' hl)
      | (refine wpAny_ite_false (decide_eq_false (by rw [c1]; exact Bool.false_ne_true)) ?_; wp_walk using wpAny_loadPart' hl)
      | (refine wpAny_ite_true (decide_eq_true c2) ?_; wp_walk using wpAny_loadPart' hl))
    exact ⟨_, rfl, h⟩
/-- t * k -/
def rRepW (K : PySem.W.Frag) : R2 := fun x y H Q => ∃ l k xs, x = .ref l ∧ y = .int k ∧ SqT K H l xs ∧ -(2 ^ 62) ≤ k ∧ k ≤ 1000 ∧ xs.length ≤ 1000 ∧ ∀ H' p, Same H H' → SqT K H' p (List.replicate k.toNat xs).flatten → Q (.ref p) H'
theorem rep_one {α : Type} (xs : List α) : (List.replicate (1 : Int).toNat xs).flatten = xs := by simp
theorem rep_nil {α : Type} (k : Nat) : (List.replicate k ([] : List α)).flatten = [] := by simp
section
variable {X : Cx}
theorem op_repW : OpR X (binaryOp .Mult) (rRepW X.K) := by
  intro pins s σ H x y v u Q I rx ry h
  obtain ⟨l, k, xs, rfl, rfl, hT, h1, h2, hz, q⟩ := h
  by_cases h3 : xs ≠ [] ∧ 2 ≤ k
  · exact op_repT pins s σ H _ _ v u Q I rx ry ⟨l, k, xs, rfl, rfl, hT, h3.1, h3.2, h2, hz, fun p hp => q _ p (.new hp) (SqT.of upd_same)⟩
  · cases rx
    obtain ⟨t, rfl⟩ := ry
    obtain ⟨its, r, ⟨⟨cls, dd, data, sl⟩, ho, hc, n, hd⟩, hs⟩ := I.tuple hT
    simp only at hc hd
    subst hc hd
    have hle : its.length = xs.length := r.length.symm
    have c0 : (decide (k < -(2 ^ 63)) || decide (k ≥ 2 ^ 63)) = false := by
      rw [decide_eq_false (by omega), decide_eq_false (by omega)] <;> rfl
    by_cases h4 : xs = [] ∨ k = 1
    · have c1 : (its.toArray.isEmpty || k == 1) = true := by
        rcases h4 with h4 | h4
        · subst h4
          have : its = [] := List.eq_nil_of_length_eq_zero (by simpa using hle)
          subst this
          rfl
        · subst h4
          simp
      refine wpAny_binaryOp_repeat_ref (T := "tuple") (U := "int") (by decide) ⟨_, ho, rfl⟩ (fun s' => typeIs_int s' k t) noFill_tuple_mul F.fills_int_mul F.slot_int_rmul repeat_tuple F.slot_int_index.lookup
        (call_meets F.slot_int_rmul (typeIs_int s k t) F.entry_int_rmul (F.args_int_rmul_2 _ _) (int_rmul_tuple k t l its.toArray n dd sl)
          ⟨ho, rfl, ⟨_, ho, rfl⟩, call_meets F.slot_tuple_mul ⟨_, ho, rfl⟩ F.entry_tuple_mul (F.args_tuple_mul_2 _ _) (tuple_mulS l its.toArray n dd sl k t c0 c1) ⟨ho, ?_⟩⟩)
      refine ⟨.ref l, H, I, rfl, q H l (.refl _) ?_⟩
      rcases h4 with h4 | h4
      · subst h4; rw [rep_nil]; exact hT
      · subst h4; rw [rep_one]; exact hT
    · have h5 : xs ≠ [] ∧ k ≤ 0 := ⟨fun z => h4 (.inl z), by
        have : k ≠ 1 := fun z => h4 (.inr z)
        have : ¬ (2 ≤ k) := fun z => h3 ⟨fun z => h4 (.inl z), z⟩
        omega⟩
      have hi : its.toArray.isEmpty = false := by
        cases its with
        | nil => exact absurd (List.eq_nil_of_length_eq_zero hle.symm) h5.1
        | cons a b => rfl
      have c1 : (its.toArray.isEmpty || k == 1) = false := by
        rw [hi, Bool.false_or]
        exact beq_eq_false_iff_ne.mpr (by omega)
      have c2 : (decide (k ≤ 0) || its.toArray.isEmpty) = true := by rw [decide_eq_true h5.2]; rfl
      have e0 : (List.replicate k.toNat xs).flatten = [] := by
        have : k.toNat = 0 := by omega
        rw [this]; rfl
      refine wpAny_binaryOp_repeat_ref (T := "tuple") (U := "int") (by decide) ⟨_, ho, rfl⟩ (fun s' => typeIs_int s' k t) noFill_tuple_mul F.fills_int_mul F.slot_int_rmul repeat_tuple F.slot_int_index.lookup
        (call_meets F.slot_int_rmul (typeIs_int s k t) F.entry_int_rmul (F.args_int_rmul_2 _ _) (int_rmul_tuple k t l its.toArray n dd sl)
          ⟨ho, rfl, ⟨_, ho, rfl⟩, call_meets F.slot_tuple_mul ⟨_, ho, rfl⟩ F.entry_tuple_mul (F.args_tuple_mul_2 _ _) (tuple_mul0 l its.toArray n dd sl k t c0 c1 c2) ⟨ho, ?_⟩⟩)
      refine ⟨.ref s.heap.objs.size, _, I.laid (t' := s.toks) (o := .tup []) (fun b ob q => Heap.get?_push_of_some _ q) (Nat.le_refl _) ?_, rfl, q _ _ (.new (I.hok.fresh (Nat.le_refl _))) (by rw [e0]; exact SqT.of upd_same)⟩
      exact ⟨Nat.zero_le _, [], .nil, IsTup.new _ _⟩
/-- t + u -/
def rCatW (K : PySem.W.Frag) : R2 := fun x y H Q => ∃ a b xs ys, x = .ref a ∧ y = .ref b ∧ SqT K H a xs ∧ SqT K H b ys ∧ xs.length + ys.length ≤ sizeLine ∧ ∀ H' p, Same H H' → SqT K H' p (xs ++ ys) → Q (.ref p) H'
theorem op_catW : OpR X (binaryOp .Add) (rCatW X.K) := by
  intro pins s σ H x y v u Q I rx ry h
  obtain ⟨a, b, xs, ys, rfl, rfl, ha, hb, hz, q⟩ := h
  exact op_catA pins s σ H _ _ v u Q I rx ry ⟨a, b, xs, ys, rfl, rfl, ha, hb, hz, fun e => q H b (.refl _) (by rw [e]; exact hb), fun _ e => q H a (.refl _) (by rw [e, List.append_nil]; exact ha), fun _ _ p hp => q _ p (.new hp) (SqT.of upd_same)⟩
/-- t[lo:hi] -/
def rSlW (K : PySem.W.Frag) : V → Option Int → Option Int → Hp → VK → Prop := fun x lo hi H Q => ∃ a xs, x = .ref a ∧ SqT K H a xs ∧ ∀ H' p, Same H H' → SqT K H' p (cutV xs lo hi) → Q (.ref p) H'
theorem sl_tupW : SlR X (rSlW X.K) := by
  intro pins s σ H x v vl vu lo hi sl Q I rx hs pl pu h
  obtain ⟨a, xs, rfl, hx, q⟩ := h
  refine sl_tupA pins s σ H _ v vl vu lo hi sl Q I rx hs pl pu ⟨a, xs, rfl, hx, fun e => q H a (.refl _) ?_, fun _ p hp => q _ p (.new hp) (SqT.of upd_same)⟩
  unfold cutV
  rw [e.1, e.2, List.drop_zero, Nat.sub_zero, List.take_length]
  exact hx

/-- sum(t), t a tuple of numbers -/
theorem cr_sumT (hc : X.calm = true) : CallR X (.builtin "sum") (fun vs H Q => ∃ (a : Addr) (ns : List Int), vs = [V.ref a] ∧ SqT X.K H a (ns.map V.int) ∧ Q (.int ns.sum) H) := by
  intro pins s σ H xs us Q I r h
  obtain ⟨a, ns, rfl, hq, q⟩ := h
  cases r with
  | cons r rr =>
  cases rr
  cases r
  obtain ⟨its, rv, hT, hz⟩ := I.tuple hq
  have hi := intsAre_of rv
  obtain ⟨ys, hx⟩ := hi.allInts.items
  have hn : numsOf its.toArray.toList = ns := by rw [show its.toArray.toList = its from rfl, hi.numsOf]
  have hT' : s.heap.IsTuple a its.toArray := let ⟨o, h1, h2, h3⟩ := hT; ⟨o, h1, h2, h3⟩
  rw [hx] at hT' hn
  rw [nums_intItems] at hn
  refine PySem.W.ktm_sumG (I.ok.hd hc) hT' fun h' tk t' hk => ?_
  rw [preSum_eq, List.take_of_length_le (by simp), hn]
  exact ⟨.int ns.sum, H, I.kept (t' := tk) hk, ⟨t', rfl⟩, q⟩
theorem cr_sumA (hc : X.calm = true) : CallR X (.builtin "sum") (fun vs H Q => ∃ (a : Addr) (ns : List Int), vs = [V.ref a] ∧ SqA X.K H a (ns.map V.int) ∧ Q (.int ns.sum) H) := by
  intro pins s σ H xs us Q I r h
  obtain ⟨a, ns, rfl, hq, q⟩ := h
  rcases hq with hq | hq
  · exact cr_sum hc pins s σ H _ us Q I r ⟨a, ns, rfl, hq, q⟩
  · exact cr_sumT hc pins s σ H _ us Q I r ⟨a, ns, rfl, hq, q⟩
/-! ### t[::-1] -/
theorem rev_pick (xs : List Value) : ((List.range xs.length).filterMap fun (m : Nat) => xs.toArray[(((xs.length : Nat) : Int) - 1 + (m : Int) * (-1)).toNat]?) = xs.reverse := by
  have key : ∀ n, n ≤ xs.length → ((List.range n).filterMap fun (m : Nat) => xs.toArray[(((xs.length : Nat) : Int) - 1 + (m : Int) * (-1)).toNat]?) = (xs.reverse).take n := by
    intro n
    induction n with
    | zero => intro _; simp
    | succ n ih =>
      intro hn
      rw [List.range_succ, List.filterMap_append, ih (by omega), List.take_succ]
      congr 1
      have e : (((xs.length : Nat) : Int) - 1 + (n : Int) * (-1)).toNat = xs.length - 1 - n := by omega
      have hlt : n < xs.reverse.length := by rw [List.length_reverse]; omega
      rw [List.filterMap_cons, List.filterMap_nil, e, List.getElem?_reverse (by omega)]
      simp only [List.getElem?_toArray]
      cases q : xs[xs.length - 1 - n]? with
      | none => simp
      | some v => simp
  rw [key xs.length (Nat.le_refl _), List.take_of_length_le (by rw [List.length_reverse]; exact Nat.le_refl _)]
theorem adjust_rev (n : Nat) : Builtin.Slice.sliceAdjust none none (-1) (n : Int) = ((n : Int) - 1, -1) := by
  unfold Builtin.Slice.sliceAdjust
  simp
theorem places_rev (n : Nat) : Builtin.Slice.slicePlaces ((n : Int) - 1) (-1) (-1) = n := by
  unfold Builtin.Slice.slicePlaces
  have h1 : ¬ ((-1 : Int) > 0) := by omega
  simp only [h1, if_false]
  split
  · simp only [Int.neg_neg, Int.ediv_one]; omega
  · simp only [Int.toNat_zero]; omega
theorem sliceApplied_rev {prog : Program} {w : World} {A : Around} {E : Value → Shared → Prop} {s : Shared} {sl : Addr} {vl vu vk : Value} {n : Nat} {Q : Int × Int × Nat → Shared → Prop} (hs : s.heap.IsSliceOf sl vl vu vk) (pl : IsPart vl none) (pu : IsPart vu none) (pk : IsPart vk (some (-1)))
    (h : Q ((n : Int) - 1, -1, n) s) : wpAny (model prog w) A (Builtin.Slice.sliceApplied (.ref sl) (pure (n : Int))) Q E s := by
  obtain ⟨os, hos, hcs, hds⟩ := id hs
  unfold Builtin.Slice.sliceApplied Builtin.Slice.sliceFields
  refine wpAny_bind (wpAny_bind (wpAny_field hos hds (x := vl) rfl (wpAny_bind (wpAny_field hos hds (x := vu) rfl (wpAny_bind (wpAny_field hos hds (x := vk) rfl (wpAny_pure ?_)))))))
  refine wpAny_bind (HT.slicePart_ pk ?_)
  show wpAny _ _ (if ((-1 : Int) == 0) = true then _ else _) _ _ s
  rw [if_neg (by decide)]
  refine wpAny_bind (HT.slicePart_ pl (wpAny_bind (HT.slicePart_ pu (wpAny_bind (wpAny_pure ?_)))))
  show wpAny _ _ (match Builtin.Slice.sliceAdjust none none (-1) (n : Int) with | (lo, hi) => pure (lo, (-1 : Int), Builtin.Slice.slicePlaces lo hi (-1))) _ _ s
  rw [adjust_rev n]
  show wpAny _ _ (pure ((n : Int) - 1, (-1 : Int), Builtin.Slice.slicePlaces ((n : Int) - 1) (-1) (-1))) _ _ s
  rw [places_rev]
  exact wpAny_pure h
theorem getItem_tuple_rev {prog : Program} {w : World} {A : Around} {E : Value → Shared → Prop} {s : Shared} {t sl : Addr} {its : List Value} {vl vu vk : Value} {Q : Value → Shared → Prop} (ht : IsTup s.heap t its.toArray) (hs : s.heap.IsSliceOf sl vl vu vk) (pl : IsPart vl none) (pu : IsPart vu none) (pk : IsPart vk (some (-1)))
    (h : Q (.ref s.heap.objs.size) { s with heap := s.heap.push { cls := .type "tuple", data := .seq its.reverse.toArray } })
    (hsz : its.length ≤ sizeLine) : wpAny (model prog w) A (getItem (.ref t) (.ref sl)) Q E s := by
  have htake : sizeOk (.seq its.reverse.toArray) := by
    show its.reverse.toArray.size ≤ sizeLine
    rw [List.size_toArray, List.length_reverse]
    exact hsz
  obtain ⟨os, hos, hcs, hds⟩ := id hs
  have hTs : s.TypeIs (.ref sl) "slice" := ⟨os, hos, hcs⟩
  unfold getItem
  try with_reducible refine wpAny_holding ?_
  first | refine wpAny_bind (wpAny_pure ?_) | skip
  refine wpAny_bind (wpAny_sequenceKey ht.typeIs (by decide) ?_)
  refine wpAny_bind (wpAny_callSpecial?_slot (name := Str.ofString "__getitem__") ht.typeIs PyProof.Rows.slot_tuple_getitem
    (wpAny_call_entry PyProof.Rows.slot_tuple_getitem ht.typeIs entry_tuple_getitem ?_ (args_tuple_getitem _ _)))
  show wpAny _ _ (Builtin.Tuple.tupleItemsOf (.ref t) >>= _) _ _ s
  refine wpAny_bind (tupleItemsOf_ ht ?_)
  refine wpAny_bind (wpAny_typeOf hTs ?_)
  rw [if_pos (by decide)]
  refine wpAny_bind (sliceApplied_rev hs pl pu pk ?_)
  have hno : ¬ ((((its.toArray.size : Int) - 1) == 0 && (-1 : Int) == 1 && its.toArray.size == its.toArray.size) = true) := by
    intro q
    rw [Bool.and_eq_true, Bool.and_eq_true] at q
    exact absurd q.1.2 (by decide)
  show wpAny _ _ (if (((its.toArray.size : Int) - 1) == 0 && (-1 : Int) == 1 && its.toArray.size == its.toArray.size) = true then _ else _) _ _ s
  rw [if_neg hno]
  have ep := rev_pick its
  rw [← List.size_toArray] at ep
  rw [ep]
  first
    | exact wpAny_bind (m := Builtin.Tuple.tupleExact _) (wpAny_newObj_type (wpAny_pure ⟨_, rfl, wpAny_pure h⟩) htake)
    | exact wpAny_bind (m := Builtin.Tuple.tupleExact _) (wpAny_newObj_type (wpAny_bind (wpAny_pure (wpAny_pure ⟨_, rfl, wpAny_pure h⟩))) htake)
    | exact wpAny_bind (wpAny_bind (m := Builtin.Tuple.tupleExact _) (wpAny_newObj_type (wpAny_pure (wpAny_pure ⟨_, rfl, wpAny_pure h⟩)) htake))
    | exact wpAny_bind (wpAny_bind (m := Builtin.Tuple.tupleExact _) (wpAny_newObj_type (wpAny_pure ⟨_, rfl, wpAny_pure h⟩) htake))
def tRevT (K : PySem.W.Frag) (te : TE) : TE := fun σ H Q => te σ H fun x H1 => ∃ a xs, x = .ref a ∧ SqT K H1 a xs ∧ ∀ p, H1 p = none → Q (.ref p) (upd H1 p (.tup xs.reverse))
theorem pe_revT {e : Expr} {te : TE} {k : Nat} {p1 p2 p3 pos : Pos} (he : PE X e te) : PE X (.Subscript e (.Slice none none (some (.UnaryOp .USub (.Constant (.int 1) k p1) p2)) p3) pos) (tRevT X.K te) := by
  refine ⟨fun pins s σ H Q I h => ?_⟩
  refine Subscript_ (thn (he.run pins s σ H _ I h) fun v s1 ⟨x, H1, I1, r1, q1⟩ => ?_)
  obtain ⟨a, xs, ex, hx, q⟩ := q1
  subst ex
  cases r1
  have hst : PO X (some (.UnaryOp .USub (.Constant (.int 1) k p1) p2)) (tPart (tUn (rU fun i => .int (-i)) (tC (.int 1)))) := po_some (pe_un un_neg pe_int)
  refine wpAny_Slice (thn (po_none.run pins s1 σ H1 (fun o H2 => o = none ∧ H2 = H1) I1 ⟨rfl, rfl⟩) fun vl s2 ⟨l, H2, I2, pl, el, e2⟩ => ?_)
  subst el e2
  refine thn (po_none.run pins s2 σ H2 (fun o H3 => o = none ∧ H3 = H2) I2 ⟨rfl, rfl⟩) fun vu s3 ⟨u, H3, I3, pu, eu, e3⟩ => ?_
  subst eu e3
  refine thn (hst.run pins s3 σ H3 (fun o H4 => o = some (-1) ∧ H4 = H3) I3 ⟨1, rfl, -1, rfl, rfl, rfl⟩) fun vs s4 ⟨o, H4, I4, ps, eo, e4⟩ => ?_
  subst eo e4
  have I5 : Inv X pins σ H4 { s4 with heap := s4.heap.push { cls := .type "slice", data := .fields #[vl, vu, vs] } } := I4.kept (t' := s4.toks) fun b ob q => Heap.get?_push_of_some _ q
  obtain ⟨its, r, ht, hz⟩ := I5.tuple hx
  have hlen := r.length
  show wpAny (model X.prog X.w) X.A (subscriptTail e (.Slice none none (some (.UnaryOp .USub (.Constant (.int 1) k p1) p2)) p3) (.ref a) (.ref s4.heap.objs.size)) (EP X pins σ Q) X.xe { s4 with heap := s4.heap.push { cls := .type "slice", data := .fields #[vl, vu, vs] } }
  refine tail_any (ops := [.ref a, .ref s4.heap.objs.size]) ht.typeIs (PyProof.Rows.slot_tuple_getitem.lookup) ?_ (by with_unfolding_all rfl)
  refine getItem_tuple_rev ht (Heap.IsSliceOf.new _ vl vu vs) pl pu ps ?_ (by omega)
  refine ⟨.ref _, _, I5.laid (t' := s4.toks) (o := .tup xs.reverse) (fun b ob q => Heap.get?_push_of_some _ q) (Nat.le_refl _) ?_, rfl, q _ (I5.hok.fresh (Nat.le_refl _))⟩
  exact ⟨by rw [List.length_reverse]; exact hz, _, r.reverse, IsTup.new _ _⟩
end
end L2

set_option maxRecDepth 100000
set_option maxHeartbeats 4000000
/-! # The head: what the program's top has left, as facts that one kernel run decides; the end of a law -/
namespace HX
open PySem PySem.W PySem.Calls PyProof.Rows He He5
open PySem.HandSPX (refsVE)

def clsXB (K : Frag) (C : Addr) : Bool := (match K.lookup C with
  | some ⟨.type ty, _, .cls cd, sl⟩ => (match cd.mro, sl.toList with
    | .ref C' :: bm, [_, _, _, _, some (.builtin n), _] => decide (ty = "type") && (decide (C' = C) && (decide (n = "ValueError.__new__") && (cd.hasDict && (!cd.hasDel && (refsVE bm && eqO (alongIn K "__init__" bm) (some (some (.builtin "ValueError.__init__"))))))))
    | _, _ => false)
  | _ => false) && (eqO (findIn K (.ref C) "__setattr__") (some (some (.builtin "object.__setattr__"))) && decide (subIn K (.ref C) (.type "ValueError") = some true))
theorem clsXB_ok {K : Frag} {C : Addr} (h : clsXB K C = true) : NX.ClsX K C := by
  obtain ⟨h1, h2⟩ := ba h
  obtain ⟨h2, h3⟩ := ba h2
  refine ⟨?_, eqO_ok h2, of_decide_eq_true h3⟩
  clear h2 h3 h
  split at h1
  · rename_i ty dd cd sl e
    split at h1
    · rename_i C' bm a0 a1 a2 a3 n a5 hm hs
      obtain ⟨k1, h1⟩ := ba h1
      obtain ⟨k2, h1⟩ := ba h1
      obtain ⟨k3, h1⟩ := ba h1
      obtain ⟨k4, h1⟩ := ba h1
      obtain ⟨k5, h1⟩ := ba h1
      obtain ⟨k6, k7⟩ := ba h1
      have e1 := of_decide_eq_true k1
      have e2 := of_decide_eq_true k2
      have e3 := of_decide_eq_true k3
      subst e1 e2 e3
      obtain ⟨nm, bs, mro, ns, qn, hd, sn, sub, ab, col, del⟩ := cd
      dsimp only at hm k4 k5
      subst hm
      have e5 : del = false := by simpa using k5
      subst k4 e5
      have hsl : sl = #[a0, a1, a2, a3, some (.builtin "ValueError.__new__"), a5] := by
        obtain ⟨l⟩ := sl
        simp only at hs
        rw [hs]
      subst hsl
      exact ⟨nm, qn, ns, bs, bm, sn, sub, ab, col, dd, a0, a1, a2, a3, a5, e, k6, eqO_ok k7⟩
    · cases h1
  · cases h1

/-- the text of an error's __init__ -/
structure InitTx (prog : Program) (st : Stmt) (qual : Str) (ps : List Str) (l : List (Str × Str)) : Prop where
  txt : ∃ msg k q1 q2 q3 q4 q5 q6 r, L2.defBody st = NX.supS msg k q1 q2 q3 q4 q5 q6 :: r ∧ NX.Sto r l ∧ (∀ env : Env, env.scope = L2.defScope st → interactive env = false) ∧
    ∀ env : Env, env.scope = L2.defScope st → ∃ pl : Sem Bool, eval (.Call (.Attribute (.Call (.Name "super" q1) [] [] q2) "__init__" q3) [.Constant (.str msg) k q4] [] q5) env = (do
      let ov ← attributeBase (.Call (.Name "super" q1) [] [] q2) "__init__" env (eval (.Call (.Name "super" q1) [] [] q2) env)
      standAt q3.atName
      let (f, first) ← holding [ov] (getMethod ov "__init__" pl)
      callWith q5 f first (backTo q5 (starEach [.Constant (.str msg) k q4] env)) [])
  par : ∃ ar, ((L2.defArgs st).posonlyargs ++ (L2.defArgs st).args).head? = some ar ∧ ar.arg = "self"
  sc : ((L2.defScope st).names.lookup ("super" : Str) = some .globalImplicit ∧ (L2.defScope st).names.lookup ("__class__" : Str) = some .free ∧ (L2.defScope st).names.lookup ("self" : Str) = some .local) ∧ (∀ x ∈ (L2.defScope st).names, x.2 ≠ .cell) ∧
    (L2.defScope st).kind = .function ∧ (L2.defScope st).isCoroutine = false ∧ (L2.defScope st).isGenerator = false
  loc : (∀ p ∈ l, (L2.defScope st).names.lookup p.2 = some .local ∧ (p.2 == ("__debug__" : Str)) = false ∧ p.2 ∈ ps) ∧ ∀ p ∈ ps, (L2.defScope st).names.lookup p = some .local
  nod : ps.Nodup ∧ ("self" : Str) ∉ ps
  bind : ∀ (s' : Shared) (e : Addr) (fd : FuncData) (us : List Value), us.length = ps.length → fd.params = L2.defArgs st → fd.scope = L2.defScope st → fd.defaults = .none → BindsTo s' fd ⟨.ref e :: us, []⟩ (("self", .ref e) :: ps.zip us)
  top : (prog.main.scope.names.lookup ("super" : Str)).isSome = false
  few : l.length ≤ 900

/-- a def with its closure's names -/
abbrev FnQ : Type := Option (Str × Str × Arguments × FuncBody × Scope × Addr × List Str × Addr)
def fnQ (K : Frag) (a : Addr) : FnQ := match K.lookup a with
  | some ⟨_, _, .func fd, _⟩ => some (fd.name, fd.qualname, fd.params, fd.body, fd.scope, fd.globals, fd.closure.map (·.1), fd.builtins)
  | _ => none
/-- an error's class: its name, its __init__'s text, its qualified name -/
structure ErrD where
  x : Str
  st : Stmt
  qual : Str
  fs : List Str
def ErrD.at_ (d : ErrD) (K : Frag) : Addr := ma K (ga K d.x) "__init__"
def ErrD.val (d : ErrD) : FnQ := some (("__init__" : Str), d.qual, L2.defArgs d.st, FuncBody.stmts (L2.defBody d.st), L2.defScope d.st, mainGlobals, [("__class__" : Str)], builtinsNs)
def ErrD.ok (file : Str) (d : ErrD) (K : Frag) : Bool := clsXB K (ga K d.x) && (eqO (findIn K (.ref (ga K d.x)) "__init__") (some (some (.ref (d.at_ K)))) && (decide (typeIn K (.ref (d.at_ K)) = some (.type "function")) && ((match K.lookup (d.at_ K) with
  | some ⟨_, _, .func fd, _⟩ => codeIn K fd.code fd.qualname && ((match fd.closure with
    | [(_, cc)] => (match K.lookup cc with
      | some ⟨_, _, .cell (some (.ref D)), _⟩ => decide (D = ga K d.x)
      | _ => false)
    | _ => false) && ((match fd.code with
    | .ref cda => (match K.lookup cda with
      | some ⟨_, _, .fields vs, _⟩ => (match (vs[2]? : Option Value) with
        | some (.str f _) => f == file
        | _ => false)
      | _ => false)
    | _ => false) && (match fd.defaults with
    | .none => true
    | _ => false)))
  | _ => false) && ((d.fs.all fun f => eqO (findIn K (.ref (ga K d.x)) f) (some none)) && (eqO (nsIn K mainGlobals d.x) (some (some (.ref (ga K d.x)))) && (keepIn K (.ref (ga K d.x)) && (decide (subIn K (.ref (ga K d.x)) (.type "BaseException") = some true) && decide (typeIn K (.ref (ga K d.x)) = some (.type "type")))))))))
theorem errD_ok {prog : Program} {K : Frag} {h : Heap} {mg : Str → Option Value} {d : ErrD} {ps : List Str} {l : List (Str × Str)} (X : K.In h) (G : h.Ns mainGlobals mg) (T : InitTx prog d.st d.qual ps l) (hf : l.map (·.1) = d.fs) (hs : mg "super" = none) (hany : nsIn K cStatics "thirdparty.any" = some none)
    (e : fnQ K (d.at_ K) = d.val) (c : d.ok (prog.main.file : Str) K = true) : L2.Exn prog K mg d.x (ga K d.x) (d.at_ K) ps l := by
  obtain ⟨c1, c⟩ := ba c
  obtain ⟨c2, c⟩ := ba c
  obtain ⟨c3, c⟩ := ba c
  obtain ⟨c4, c⟩ := ba c
  obtain ⟨c5, c⟩ := ba c
  obtain ⟨c6, c⟩ := ba c
  obtain ⟨c7, c⟩ := ba c
  obtain ⟨c8, c9⟩ := ba c
  obtain ⟨ar, hp1, hp2⟩ := T.par
  refine ⟨clsXB_ok c1, ⟨d.qual, L2.defArgs d.st, L2.defScope d.st, L2.defBody d.st, ar, ⟨T.txt, eqO_ok c2, of_decide_eq_true c3, ?_, hp1, hp2, T.sc.1.1, T.sc.1.2.1, T.sc.1.2.2, fun p hp => ⟨(T.loc.1 p hp).1, (T.loc.1 p hp).2.1, ?_⟩, T.sc.2.1, T.sc.2.2.1, T.sc.2.2.2.1, T.sc.2.2.2.2, T.top, T.few⟩, T.bind, T.loc.2⟩,
    fun p hp => (T.loc.1 p hp).2.2, T.nod, mg_of X G (eqO_ok c6), hs, hany, c7, of_decide_eq_true c8, of_decide_eq_true c9⟩
  · unfold fnQ at e
    cases q : K.lookup (d.at_ K) with
    | none =>
      rw [q] at c4
      cases c4
    | some o =>
      obtain ⟨oc, od, dt, osl⟩ := o
      rw [q] at c4 e
      cases dt with
      | func fd =>
        obtain ⟨n1, n2, n3, n4, n5, n6, n7, n8, n9, n10, n11, n12, n13, n14, n15⟩ := fd
        have e2 : (some (n1, n2, n3, n4, n5, n6, n7.map (·.1), n15) : FnQ) = some (("__init__" : Str), d.qual, L2.defArgs d.st, FuncBody.stmts (L2.defBody d.st), L2.defScope d.st, mainGlobals, [("__class__" : Str)], builtinsNs) := e
        simp only [Option.some.injEq, Prod.mk.injEq] at e2
        obtain ⟨h1, h2, h3, h4, h5, h6, h7, h8⟩ := e2
        subst h1 h2 h3 h4 h5 h6 h8
        obtain ⟨k1, k2⟩ := ba c4
        obtain ⟨kA, k3⟩ := ba k2
        obtain ⟨k3, k9⟩ := ba k3
        clear k2 c4
        dsimp only at k1 kA k3 k9
        have ed : n8 = .none := by
          cases n8 <;> first | rfl | cases k9
        subst ed
        split at kA
        · rename_i nn cc
          have en : nn = "__class__" := by simpa using h7
          subst en
          split at kA
          · rename_i cl cld D csl qc
            have eD := of_decide_eq_true kA
            subst eD
            split at k3
            · rename_i cda hcd9
              have hcd8 : n13 = .ref cda := hcd9
              subst hcd8
              split at k3
              · rename_i ccl cdd vs ccs qd
                split at k3
                · rename_i f tf qv
                  have ef : f = prog.main.file := by simpa using k3
                  exact ⟨oc, od, n9, n10, n11, n12, cda, n14, osl, cc, cl, cld, csl, ccl, cdd, vs, ccs, f, tf, rfl, k1, qc, qd, qv, by rw [ef]; simp⟩
                · cases k3
              · cases k3
            · cases k3
          · cases kA
        · cases kA
      | _ => cases c4
  · have := List.all_eq_true.mp c5 p.1 (by rw [← hf]; exact List.mem_map_of_mem hp)
    exact eqO_ok this

/-! ### the Hook -/
abbrev AlX : Type := Bool × List He5.FnW × List FnQ
def obsX (bx : Frag → Bool) (fn : List DefA) (er : List ErrD) (file : Str) (K : Frag) : AlX := (bx K && (fn.all (fun d => d.ok K) && er.all fun d => d.ok file K), fn.map fun d => fnA K (d.at_ K), er.map fun d => fnQ K (d.at_ K))
def valX (fn : List DefA) (er : List ErrD) : AlX := (true, fn.map DefA.val, er.map ErrD.val)
def SaysX (bx : Frag → Bool) (fn : List DefA) (er : List ErrD) (file : Str) (K : Frag) : Prop := obsX bx fn er file K = valX fn er
def obsXG (n : Nat) (bx : Frag → Bool) (fn : List DefA) (er : List ErrD) (file : Str) (g : Addr → Option Obj) : AlX := obsX bx fn er file (frG g (asA g n))
def hookX (n : Nat) (bx : Frag → Bool) (fn : List DefA) (er : List ErrD) (file : Str) : PySem.W.Hook where
  α := AlX
  obs := fun s => obsXG n bx fn er file s.heap.get?
  val := fun _ => valX fn er
  says := fun _ h => ∃ K : Frag, K.In h ∧ SaysX bx fn er file K
  of := fun _ _ e => ⟨_, frG_in, e⟩
  keeps := fun _ _ _ ⟨K, hK, c⟩ k => ⟨K, Frag.In.keeps hK k, c⟩
theorem obsXG_eq {n : Nat} {bx : Frag → Bool} {fn : List DefA} {er : List ErrD} {file : Str} {g : Addr → Option Obj} {s : Shared} (h : ∀ a, g a = s.heap.get? a) : obsXG n bx fn er file g = (hookX n bx fn er file).obs s := by
  have e : g = s.heap.get? := funext h
  rw [e] <;> rfl
section
variable {bx : Frag → Bool} {fn : List DefA} {er : List ErrD} {file : Str} {K : Frag}
theorem SaysX.bool (c : SaysX bx fn er file K) : bx K = true := (ba (show (bx K && (fn.all (fun d => d.ok K) && er.all fun d => d.ok file K)) = true from congrArg (fun z : AlX => z.1) c)).1
theorem SaysX.def_ (c : SaysX bx fn er file K) (i : Nat) {d : DefA} (h : fn[i]? = some d := by rfl) : ∃ fd, L2.FunD K d.name d.qual d.params d.body d.scope (d.dvs K) (d.kws K) (d.at_ K) fd := by
  have c2 := (ba (ba (show (bx K && (fn.all (fun d => d.ok K) && er.all fun d => d.ok file K)) = true from congrArg (fun z : AlX => z.1) c)).2).1
  have e : fn.map (fun d => fnA K (d.at_ K)) = fn.map DefA.val := congrArg (fun z : AlX => z.2.1) c
  have e2 : (fn.map fun d => fnA K (d.at_ K))[i]? = (fn.map DefA.val)[i]? := by rw [e]
  rw [List.getElem?_map, List.getElem?_map, h] at e2
  exact DefA.funD (Option.some.inj e2) (List.all_eq_true.mp c2 d (List.mem_of_getElem? h))
theorem SaysX.err_ (c : SaysX bx fn er file K) (i : Nat) {d : ErrD} (h : er[i]? = some d := by rfl) : fnQ K (d.at_ K) = d.val ∧ d.ok file K = true := by
  have c2 := (ba (ba (show (bx K && (fn.all (fun d => d.ok K) && er.all fun d => d.ok file K)) = true from congrArg (fun z : AlX => z.1) c)).2).2
  have e : er.map (fun d => fnQ K (d.at_ K)) = er.map ErrD.val := congrArg (fun z : AlX => z.2.2) c
  have e2 : (er.map fun d => fnQ K (d.at_ K))[i]? = (er.map ErrD.val)[i]? := by rw [e]
  rw [List.getElem?_map, List.getElem?_map, h] at e2
  exact ⟨Option.some.inj e2, List.all_eq_true.mp c2 d (List.mem_of_getElem? h)⟩
end
end HX

namespace L2
open PySem PySem.Spec PyProof.Rows
/-- the end of a law over a head by facts, the script's bits told -/
theorem walk_ofX {l : PySem.W.OpenLaw} {n k : Nat} {q : Program} {loose : List Str} {XP : (Str → Option Value) → Heap → Prop} {YP : World → Heap → Prop} {d : DefRec} {CX : World → CXT} {x : Str}
    (hn : l.most = some n) (hn2 : n ≤ sizeLine) (hdf : d.params.defaults = []) (hr : Room k callerA)
    (F : ∀ (w : World) (mg : Str → Option Value) (fa : Addr) (h : Heap), YP w h → h.Ns mainGlobals mg → mg d.name = some (.ref fa) →
      ∃ (K : PySem.W.Frag) (fd : FuncData) (sp : Sp), K.In h ∧ (∀ (s : Shared) (u : Value), BindsTo s fd ⟨[u], []⟩ [(x, u)]) ∧
        (∀ (H : Hp) (a : Addr) (ns : List Int), ns.length ≤ n → (∀ z ∈ ns, Builtin.Int.intBits z ≤ 1048576) → Only H → SqL K H a (ns.map V.int) → sp [.ref a] H (fun v _ => v = .bl true) fun _ _ _ => False) ∧
        ∀ base : Heap, K.In base → base.Ns mainGlobals mg → FnOk l.prog w K mg base (CX w) k fa fd [x] sp)
    (hCX : ∀ (w : World) (H : Hp) (s : Shared) (e : Value) (s' : Shared), CX w [] H s (fun _ _ _ => False) e s' → False) :
    PySem.W.WalkO q loose XP YP l.row.toRowW d [] (fun f vs => PySem.call f vs) := by
  refine Att.attach_callB hn hdf fun w s₀ s₁ mg mb fa o pm cd doc a vs ns G Y ho hd hcd hmg hobj hints hlen hbits hg => ?_
  obtain ⟨K, fd, sp, KX, hb, hsp, hF⟩ := F w mg fa _ Y G.T.g hmg
  exact law_call KX G.T.g G.T.b G.T.builtins G.T.nolimit hg hobj hints (Nat.le_trans hlen hn2) hr hF hb (fun H hO hS => hsp H a ns hlen hbits hO hS) fun H e s' => hCX w H s₁ e s'
end L2

set_option maxRecDepth 100000
set_option maxHeartbeats 4000000
/-! # n * obj; facts of classes by one Bool -/
namespace L2
open PySem PySem.Spec PyProof.Rows
theorem int_mul_ins (k : Int) (t : Tok) (l : Addr) (C : Value) (dd : Option Addr) (sl : Array (Option Value)) :
    Meets (Builtin.«int.__mul__» ⟨[.int k t, .ref l], []⟩) (fun _ R s => s.heap.get? l = some { cls := C, dict := dd, data := .plain, slots := sl } ∧ R (.ok (.ret Value.notImplemented)) s) :=
  .of_wp fun prog w A R s h => by obtain ⟨hp, g, d, tk, os⟩ := s; obtain ⟨hl, h⟩ := h; wp_walk using wpAny_loadPart' hl; exact ⟨_, rfl, h⟩
/-- n op a, a of a class with the operator and its reflected one -/
structure OwnR (K : PySem.W.Frag) (C : Addr) (op : Operator) (f : Addr) : Prop where
  first : PySem.W.selfFirst K C = true
  mul : ∃ g, PySem.W.findIn K (.ref C) (PySem.dunder op.info.2) = some (some (.ref g))
  at_ : PySem.W.findIn K (.ref C) (dunderR op.info.2) = some (some (.ref f))
  fn : PySem.W.isFn K (.ref f) = true
  sub : PySem.W.subIn K (.ref C) (.type "int") = some false
def rOwnR (C : Addr) (sp : Sp) (E : XK) : R2 := fun x y H Q => ∃ a dx fs n, x = .int n ∧ y = .ref a ∧ H a = some (.ins C dx fs) ∧ sp [.ref a, .int n] H Q E
section
open PySem.W
theorem ksp_rbin {prog : Program} {w : World} {A : Around} {E : Value → Shared → Prop} {s : Shared} {K : Frag} {x C L f : Addr} {h₀ : Heap} {m : Str → Option Value} {od : Option Obj} {dx : Addr} {k : Int} {t : Tok} {op : Operator} {idl : String} {Q : Value → Shared → Prop}
    (Fr0 : Fr h₀ L s.heap m) (X₀ : K.In h₀) (I : InstAt s.heap x (instObj C dx) C od) (O : OwnR K C op f) (hf : fillsNumberSlot (.type "int") op.info.2 = pure true) (hl : Slot "int" (PySem.dunder op.info.2) idl)
    (hd : ∀ {Q' : Value → Shared → Prop}, Q' .notImplemented s → wpAny (model prog w) A (call (.builtin idl) [.int k t, .ref x]) Q' E s)
    (h : wpAny (model prog w) A (call (.ref f) [.ref x, .int k t]) (PySem.W.CmpBack Q) E s) : wpAny (model prog w) A (binaryOp op (.int k t) (.ref x)) Q E s := by
  have X := X₀.keeps Fr0.keep
  obtain ⟨cd, rest, hcd, hm⟩ := ksp_first O.first
  obtain ⟨g0, hg0⟩ := O.mul
  have one := ksp_try X I O.at_ O.fn h
  have two : ∀ {Q' : Option Value → Shared → Prop}, Q' none s → wpAny (model prog w) A (tryMethod (.int k t) (PySem.dunder op.info.2) (.ref x)) Q' E s := fun {Q'} q =>
    wpAny_tryMethod_declines (typeIs_int s k t) hl (hd ⟨rfl, q⟩)
  have oat := O.at_
  rcases hi : op.info with ⟨sym, nm'⟩
  rw [hi] at hg0 hf two one
  dsimp only at hg0 hf two one
  obtain ⟨hh, gg, d, tt, os⟩ := s
  have L1 : Looks (model prog w) hh (typeOf (.ref x)) (.ref C) := I.type
  have L2 : Looks (model prog w) hh (typeOf (.int k t)) (.type "int") := Looks.of_pure rfl
  have L3 : Looks (model prog w) hh (fillsNumberSlot (.ref C) nm') true := fills_K X hcd hm hg0
  have L4 : Looks (model prog w) hh (fillsNumberSlot (.type "int") nm') true := Looks.of_pure hf
  have L5 : Looks (model prog w) hh (isSubtype (.ref C) (.type "int")) false := looks_subIn X O.sub
  have L7 : Looks (model prog w) hh (numberSlotInPython (.type "int") nm') false := Looks.of_pure rfl
  have hne : (Value.type "int" == Value.ref C) = false := Bool.eq_false_iff.mpr fun q => by cases beq_iff_eq.mp q
  simp only [binaryOp, hi]
  refine wpAny_holding (wpAny_bind ?_)
  unfold binaryOp1
  refine wpAny_bind (L2.at (wpAny_bind (L1.at (wpAny_bind (L4.at ?_)))))
  simp only [hne, Bool.false_eq_true, if_false]
  refine wpAny_bind (L3.at ?_)
  simp only [Bool.and_self, if_true]
  refine wpAny_bind (L5.at ?_)
  simp only [Bool.false_eq_true, if_false, pure_bind, Bool.not_false, Bool.and_self, if_true]
  refine wpAny_bind (L7.at ?_)
  simp only [Bool.false_eq_true, if_false, pure_bind, Bool.not_false, Bool.and_self, if_true]
  refine wpAny_bind (two ?_)
  simp only [Bool.false_eq_true, if_false, pure_bind]
  refine wpAny_bind (wpAny_mono one (fun r s' hr' => ?_) fun _ _ e => e)
  obtain ⟨v, rfl, hq⟩ := hr'
  exact wpAny_bind (wpAny_rule (wpAny_pure (wpAny_pure hq)))
end
section
variable {X : Cx} {CX : CXT} {C f : Addr} {fd : FuncData} {ps : List Str} {sp : Sp} {E : XK} {k : Nat}
theorem op_ownR (O : OwnR X.K C .Mult f) (F0 : FnOk X.prog X.w X.K X.mg X.base CX k f fd ps sp) (hb : Binds X.K fd ps []) (hr : Room k X.A) (hx : Passes CX X E) :
    OpR X (binaryOp .Mult) (rOwnR C sp E) := by
  intro pins s σ H x y v u Q I rx ry h
  obtain ⟨a, dx, fs, n, rfl, rfl, ha, hsp⟩ := h
  obtain ⟨t, rfl⟩ := rx
  cases ry
  obtain ⟨mA, J0, rel, _⟩ := ins_get I.hok ha
  obtain ⟨od, J, _⟩ := J0.look
  obtain ⟨m, hF⟩ := I.fr
  refine ksp_rbin hF I.ok.mod.kin J O F.fills_int_mul F.slot_int_mul (fun q => call_meets F.slot_int_mul (typeIs_int s n t) F.entry_int_mul (F.args_int_mul_2 _ _) (int_mul_ins n t a (.ref C) (some dx) #[]) ⟨J0.obj, q⟩) (wpAny_mono (run_fn F0 hr hb .nil hx I (us := [.ref a, .int n t]) (vs := [.ref a, .int n]) (.cons rfl (.cons ⟨t, rfl⟩ .nil)) hsp) (fun r s' q => back_of q) fun _ _ z => z)
/-- a def called within a built-in's call -/
theorem run_fnA {A : Around} {pins : List (Addr × Obj)} {σ : St} {H : Hp} {s : Shared} {Q : VK} {us : List Value} {vs : List V} (F : FnOk X.prog X.w X.K X.mg X.base CX k f fd ps sp) (hb : Binds X.K fd ps []) (hr : Room k A) (e0 : Env0 X.prog X.w X.K X.mg X.base A X.stack s H) (hx : Passes CX X E)
    (I : Inv X pins σ H s) (r : Vals vs us) (h : sp vs H Q E) : wpAny (model X.prog X.w) A (call (.ref f) us) (EP X pins σ Q) X.xe s := by
  have hl : us.length = ps.length := r.length.symm.trans (F.len _ _ _ _ h)
  have B : BindsTo s fd ⟨us, []⟩ (ps.zip us) := by
    have := hb s us I.kIn (by rw [List.append_nil]; exact hl)
    rwa [List.append_nil] at this
  refine wpAny_call (codeAny_mono (F.run A X.stack s H ⟨us, []⟩ us vs Q E hr e0 B r h) fun r s' hq => ?_)
  cases r with
  | error e => exact hx pins σ H s e s' I hq
  | ok fl =>
    cases fl with
    | ret u => exact I.after hq
    | next => exact False.elim hq
    | brk => exact False.elim hq
    | cont => exact False.elim hq
/-- abs(a), a of a class with __abs__ -/
def rOwnAbs (C : Addr) (sp : Sp) (E : XK) : List V → Hp → VK → Prop := fun xs H Q => ∃ a dx fs, xs = [.ref a] ∧ H a = some (.ins C dx fs) ∧ sp [.ref a] H Q E
theorem call_ownAbs (hs : PySem.W.findIn X.K (.ref C) "__abs__" = some (some (.ref f))) (hf : PySem.W.isFn X.K (.ref f) = true) (F : FnOk X.prog X.w X.K X.mg X.base CX k f fd ps sp) (hb : Binds X.K fd ps []) (hr : Room (k + 1) X.A) (hx : Passes CX X E) :
    CallR X (.builtin "abs") (rOwnAbs C sp E) := by
  intro pins s σ H xs us Q I r h
  obtain ⟨a, dx, fs, rfl, ha, hsp⟩ := h
  cases r with
  | cons r rr =>
  cases rr
  cases r
  obtain ⟨od, J⟩ := inst_of I.hok ha
  refine Calls.call_function_entry kind_abs plain_abs entry_abs (args_abs _) ?_
  unfold Builtin.«abs»
  refine wpAny_bind (m := oneArg "abs" _) (wpAny_of_eq (a := Value.ref a) (by first | rfl | kernel_rfl!) ?_)
  refine wpAny_bind (PySem.W.special_fn I.kIn J hs (beq_iff_eq.mp hf) (wpAny_mono (run_fnA F hb hr.in1 I.env0.in1 hx I (us := [.ref a]) (vs := [.ref a]) (.cons rfl .nil) hsp) (fun v s' q => ?_) fun _ _ z => z))
  exact wpAny_pure ⟨_, rfl, q⟩
/-- len(a), a of a class with __len__ -/
def rOwnLen (C : Addr) (sp : Sp) (E : XK) : List V → Hp → VK → Prop := fun xs H Q => ∃ a dx fs, xs = [.ref a] ∧ H a = some (.ins C dx fs) ∧ sp [.ref a] H (fun v H' => ∃ n : Nat, v = .int n ∧ n ≤ sizeLine ∧ Q v H') E
end
end L2

set_option maxRecDepth 100000
set_option maxHeartbeats 4000000
/-! # Facts of a class by one Bool each; walks over own instances, over lists or tuples -/
namespace FB
open PySem PySem.W PySem.Calls PyProof.Rows He He5 HX
abbrev mT : Value := .type "type"
def creadB (K : Frag) (C : Addr) : Bool := readsIn K C mT && eqO (specialIn K (.ref C) "__getattribute__") (some (some (.builtin "type.__getattribute__")))
theorem cread_ok {K : Frag} {C : Addr} (h : creadB K C = true) : ClX.CRead K C mT := by
  obtain ⟨h1, h2⟩ := ba h
  exact ⟨h1, eqO_ok h2⟩
def cintB (K : Frag) (C : Addr) (f : Str) (i : Int) : Bool := match findCls K (.ref C) mT f with
  | some (.val (.int j _)) => decide (j = i)
  | _ => false
theorem cint_ok {K : Frag} {C : Addr} {f : Str} {i : Int} (h : cintB K C f i = true) : ∃ u, ClX.CVal K C mT f (.int i) u := by
  unfold cintB at h
  split at h
  · rename_i j t e
    have := of_decide_eq_true h
    subst this
    exact ⟨_, e, ⟨t, rfl⟩⟩
  · cases h
def addrO : Option (Option Value) → Bool
  | some none => true
  | some (some (.ref _)) => true
  | _ => false
theorem addrO_ok {o : Option (Option Value)} (h : addrO o = true) : ∃ rc, o = some rc ∧ (rc = none ∨ ∃ g : Addr, rc = some (.ref g)) := by
  cases o with
  | none => cases h
  | some o =>
    cases o with
    | none => exact ⟨_, rfl, .inl rfl⟩
    | some v => cases v <;> first | exact ⟨_, rfl, .inr ⟨_, rfl⟩⟩ | (cases h; done)
def opB (K : Frag) (C : Addr) (op : Operator) (f : Addr) : Bool := selfFirst K C && (eqO (findIn K (.ref C) (PySem.dunder op.info.2)) (some (some (.ref f))) && isFn K (.ref f))
theorem op_ok {K : Frag} {C f : Addr} {op : Operator} (h : opB K C op f = true) : L2.OwnOp K C op f := by
  obtain ⟨h1, h⟩ := ba h
  obtain ⟨h2, h3⟩ := ba h
  exact ⟨h1, eqO_ok h2, h3⟩
def opTB (K : Frag) (C : Addr) (op : Operator) (f : Addr) (T : String) : Bool := opB K C op f && (addrO (findIn K (.ref C) (dunderR op.info.2)) && ((findIn K (.type T) (PySem.dunder op.info.2)).isSome && ((findIn K (.type T) (dunderR op.info.2)).isSome && decide (subIn K (.type T) (.ref C) = some false))))
theorem opT_ok {K : Frag} {C f : Addr} {op : Operator} {T : String} (h : opTB K C op f T = true) : L2.OwnOpT K C op f T := by
  obtain ⟨h1, h⟩ := ba h
  obtain ⟨h2, h⟩ := ba h
  obtain ⟨h3, h⟩ := ba h
  obtain ⟨h4, h5⟩ := ba h
  exact { op_ok h1 with rev := addrO_ok h2, tf := Option.isSome_iff_exists.mp h3, tr := Option.isSome_iff_exists.mp h4, sub := of_decide_eq_true h5 }
def opRB (K : Frag) (C : Addr) (op : Operator) (f : Addr) : Bool := selfFirst K C && ((match findIn K (.ref C) (PySem.dunder op.info.2) with | some (some (.ref _)) => true | _ => false) && (eqO (findIn K (.ref C) (dunderR op.info.2)) (some (some (.ref f))) && (isFn K (.ref f) && decide (subIn K (.ref C) (.type "int") = some false))))
theorem opR_ok {K : Frag} {C f : Addr} {op : Operator} (h : opRB K C op f = true) : L2.OwnR K C op f := by
  obtain ⟨h1, h⟩ := ba h
  obtain ⟨h2, h⟩ := ba h
  obtain ⟨h3, h⟩ := ba h
  obtain ⟨h4, h5⟩ := ba h
  refine ⟨h1, ?_, eqO_ok h3, h4, of_decide_eq_true h5⟩
  split at h2
  · rename_i g e
    exact ⟨g, e⟩
  · cases h2
/-- a special method m of C at f -/
def spB (K : Frag) (C : Addr) (m : Str) (f : Addr) : Bool := eqO (findIn K (.ref C) m) (some (some (.ref f))) && isFn K (.ref f)
theorem sp_ok {K : Frag} {C f : Addr} {m : Str} (h : spB K C m f = true) : findIn K (.ref C) m = some (some (.ref f)) ∧ isFn K (.ref f) = true := by
  obtain ⟨h1, h2⟩ := ba h
  exact ⟨eqO_ok h1, h2⟩
/-- a classmethod m of C, its def at g -/
def cmetB (K : Frag) (C : Addr) (m : Str) (g : Addr) : Bool := match findCls K (.ref C) mT m with
  | some (.get (.builtin n) (.ref p) .none (.ref D)) => decide (n = "classmethod.__get__") && (decide (D = C) && ((match recIn K p "classmethod" with
    | some (.ref g' :: _) => decide (g' = g)
    | _ => false) && fnIn K g))
  | _ => false
theorem cmet_ok {K : Frag} {C g : Addr} {m : Str} (h : cmetB K C m g = true) : ∃ p, ClX.CMet K C mT m p g := by
  unfold cmetB at h
  split at h
  · rename_i n p D e
    obtain ⟨h1, h⟩ := ba h
    obtain ⟨h2, h⟩ := ba h
    obtain ⟨h3, h4⟩ := ba h
    have e1 := of_decide_eq_true h1
    have e2 := of_decide_eq_true h2
    subst e1 e2
    split at h3
    · rename_i g' r er
      have e3 := of_decide_eq_true h3
      subst e3
      exact ⟨p, e, ⟨r, er⟩, h4⟩
    · cases h3
  · cases h
end FB
namespace L2
open PySem PySem.Spec PyProof.Rows PySem.W
/-- the facts of __iter__ from its text -/
theorem ownIt_of {K : Frag} {mg : Str → Option Value} {C f : Addr} {fld qual : Str} {fd : FuncData} {st : Stmt} (c : Cls K C) (n : NoAttr K C fld) (a : findIn K (.ref C) "__iter__" = some (some (.ref f))) (hf : isFn K (.ref f) = true) (hm : mg "iter" = none)
    (F : FunD K "__iter__" qual (defArgs st) (defBody st) (defScope st) [] [] f fd)
    (tx : ∃ p1 p2 p3 p4 p5, defBody st = [.Return (some (.Call (.Name "iter" p1) [.Attribute (.Name "self" p2) fld p3] [] p4)) p5] ∧ ∀ env : Env, env.scope = defScope st → attributeBase (.Name "self" p2) fld env (eval (.Name "self" p2) env) = eval (.Name "self" p2) env)
    (sc : (defScope st).names.lookup ("self" : Str) = some .local ∧ (defScope st).names.lookup ("iter" : Str) = some .globalImplicit ∧ (∀ x ∈ (defScope st).names, x.2 ≠ .cell) ∧ (defScope st).kind = .function ∧ (defScope st).isCoroutine = false ∧ (defScope st).isGenerator = false)
    (hb : ∀ (s : Shared) (fd : FuncData) (v : Value), fd.params = defArgs st → fd.scope = defScope st → fd.defaults = .none → BindsTo s fd ⟨[v], []⟩ [("self", v)]) : OwnIt K mg C f fld := by
  obtain ⟨oc, od, dV, kV, doc, pm, an, cdv, ct, osl, rfl, lk, hcd, hD, _⟩ := F.ex
  obtain ⟨p1, p2, p3, p4, p5, hbody, hbase⟩ := tx
  have e : dV = .none := by
    rcases hD with ⟨_, e⟩ | ⟨e, _⟩
    · exact e
    · exact absurd rfl e
  subst e
  rw [hbody] at lk
  exact ⟨c, n, a, hf, hm, qual, defArgs st, defScope st, p1, p2, p3, p4, p5, ⟨oc, od, kV, doc, pm, an, cdv, ct, osl, lk, hcd⟩, sc.1, sc.2.1, sc.2.2.1, sc.2.2.2.1, sc.2.2.2.2.1, sc.2.2.2.2.2, hb, hbase⟩
section
variable {X : Cx} {tg : Expr}
/-- for x in a, a an own instance whose field is a tuple -/
def iOwn (K : Frag) (C : Addr) (fld : Str) (te : TE) : TI := fun σ H R => te σ H fun x H1 => ∃ a dx fs t xs, x = .ref a ∧ H1 a = some (.ins C dx fs) ∧ fs.lookup fld = some (.ref t) ∧ SqT K H1 t xs ∧ R (Itt K t) H1
theorem pi_own {C f : Addr} {fld : Str} {k : Nat} {e : Expr} {te : TE} (O : OwnIt X.K X.mg C f fld) (hr : Room k X.A) (he : PE X e te) : PI X tg e (iOwn X.K C fld te) := by
  refine ⟨fun pins s σ H R I h => ?_⟩
  refine thn (he.run pins s σ H _ I h) fun v s1 ⟨x, H1, I1, r1, q1⟩ => ?_
  obtain ⟨a, dx, fs, t, xs, ex, ha, hl, hT, q⟩ := q1
  subst ex
  cases r1
  refine own_iter O hr I1 ha hl hT fun h' tk it hk hit ho => ?_
  have I2 : Inv X pins σ H1 { s1 with heap := h', toks := tk } := I1.kept (t' := tk) hk
  refine ⟨it, [it], _, _, H1, rfl, I2, turn_tuple t it, ⟨_, ho, rfl, rfl⟩, fun b hb => ?_, q⟩
  have e : b = it := by simpa using hb
  subst e
  exact I1.fpOk hit (I1.hok.fresh hit)
/-- for x in a, a a list or a tuple -/
def iSeqW (K : Frag) (te : TE) : TI := fun σ H R => te σ H fun x H1 => ∃ a xs, x = .ref a ∧ SqA K H1 a xs ∧ ∀ (J : It) (G : Hp → Prop), (∀ H', Same H1 H' → G H') → Walk J xs.length G (YAt xs) → R J H1
theorem pi_seqW {l : Expr} {tl : TE} (hl : PE X l tl) : PI X tg l (iSeqW X.K tl) := by
  refine ⟨fun pins s σ H R I h => ?_⟩
  refine thn (hl.run pins s σ H _ I h) fun v s1 ⟨x, H1, I1, r1, q1⟩ => ?_
  obtain ⟨a, xs, e, hq, q⟩ := q1
  subst e
  cases r1
  rcases hq with hq | hq
  · obtain ⟨its, rv, p, hz⟩ := I1.list hq
    refine wpAny_pyIter_list p.isList ?_
    refine ⟨s1.heap.objs.size, [s1.heap.objs.size], _, _, H1, rfl, I1.kept (t' := s1.toks) fun b o e => Heap.get?_push_of_some _ e, turn_list a _, ⟨_, Heap.get?_push_size _ rfl, rfl, rfl⟩, fun b hb => ?_, q _ _ (fun _ sm => sm.seq hq) walk_list⟩
    have e : b = s1.heap.objs.size := by simpa using hb
    subst e
    exact I1.fpOk (Nat.le_refl _) (I1.hok.fresh (Nat.le_refl _))
  · obtain ⟨its, rv, p, hz⟩ := I1.tuple hq
    refine wpAny_pyIter_tuple (show s1.heap.IsTuple a its.toArray from p) ?_
    refine ⟨s1.heap.objs.size, [s1.heap.objs.size], _, _, H1, rfl, I1.kept (t' := s1.toks) fun b o e => Heap.get?_push_of_some _ e, turn_tuple a _, ⟨_, Heap.get?_push_size _ rfl, rfl, rfl⟩, fun b hb => ?_, q _ _ (fun _ sm => sm.seqT hq) walk_tup⟩
    have e : b = s1.heap.objs.size := by simpa using hb
    subst e
    exact I1.fpOk (Nat.le_refl _) (I1.hok.fresh (Nat.le_refl _))
end
end L2

set_option maxRecDepth 100000
set_option maxHeartbeats 4000000
/-! # A def that keeps its promise, in one word; calls of it -/
namespace L2
open PySem PySem.Spec PyProof.Rows
structure Ok (P : Program) (w : World) (K : PySem.W.Frag) (mg : Str → Option Value) (base : Heap) (CX : CXT) (k : Nat) (f : Addr) (ps : List Str) (sp : Sp) : Prop where
  ex : ∃ fd, FnOk P w K mg base CX k f fd ps sp ∧ Binds K fd ps [] ∧ PySem.W.keepIn K (.ref f) = true
section
variable {P : Program} {w : World} {K : PySem.W.Frag} {mg : Str → Option Value} {base : Heap} {CX : CXT} {k j : Nat} {f : Addr} {ps : List Str} {sp sp' : Sp}
theorem Ok.mono (O : Ok P w K mg base CX k f ps sp) (h : k ≤ j) : Ok P w K mg base CX j f ps sp := let ⟨fd, a, b, c⟩ := O.ex; ⟨fd, a.mono h, b, c⟩
theorem Ok.imp (O : Ok P w K mg base CX k f ps sp) (h : ∀ vs H Q E, sp' vs H Q E → sp vs H Q E) : Ok P w K mg base CX k f ps sp' := let ⟨fd, a, b, c⟩ := O.ex; ⟨fd, a.imp h, b, c⟩
/-- the proof of a def: its names' number, then its body -/
theorem Ok.of {x qual : Str} {params : Arguments} {body : List Stmt} {scope : Scope} {N : List Str} (n : Nat) (hf : ∃ fd, FunD K x qual params body scope [] [] f fd) (S : FnScope N ps scope) (hb : ∀ {fd : FuncData}, FunD K x qual params body scope [] [] f fd → Binds K fd ps []) (hk : n + 1 ≤ k)
    (len : ∀ vs H Q E, sp vs H Q E → vs.length = ps.length)
    (hbody : ∀ (cdv : Value) (A : Around) (outer : List Env) (s : Shared) (H : Hp) (vs : List V) (Q : VK) (E : XK), Room n (A.deeper (envOfC qual scope s.heap.objs.size f cdv)) → sp vs H Q E →
      ∃ t, PSs (cxOf CX P w K mg base N qual scope f cdv A outer s H E) body t ∧ t { nx := fun _ H' => Q .non H', rt := Q } (start N vs) H) : Ok P w K mg base CX k f ps sp := by
  obtain ⟨fd, F⟩ := hf
  exact ⟨fd, (F.ok S len hbody).mono hk, hb F, F.kp⟩
end
section
variable {X : Cx} {CX : CXT} {k : Nat} {f C : Addr} {ps : List Str} {sp : Sp} {E : XK} {x m : Str} {p pos apos : Pos} {e o : Expr} {es : List Expr} {ta : TE} {t : TA}
theorem pc (O : Ok X.prog X.w X.K X.mg X.base CX k f ps sp) (hr : Room k X.A) (hm : X.mg x = some (.ref f)) (hx : Passes CX X E) (ha : PA X (e :: es) t) (hg : Gl X x := by rfl) (hdb : (x == ("__debug__" : Str)) = false := by decide)
    (he : starEach (e :: es) X.env = (false, eval e X.env) :: starEach es X.env := by rfl) (hpl : (backTo pos (starEach es X.env)).any (·.1) = false := by rfl) :
    PE X (.Call (.Name x p) (e :: es) [] pos) (tCall sp [] E t) := let ⟨fd, a, b, c⟩ := O.ex; pe_call a hr hg hm c b .nil hx ha hdb he hpl
theorem pc0 (O : Ok X.prog X.w X.K X.mg X.base CX k f ps sp) (hr : Room k X.A) (hm : X.mg x = some (.ref f)) (hx : Passes CX X E) (hg : Gl X x := by rfl) (hdb : (x == ("__debug__" : Str)) = false := by decide) :
    PE X (.Call (.Name x p) [] [] pos) (tCall sp [] E tNil) := let ⟨fd, a, b, c⟩ := O.ex; pe_call0 a hr hg hm c b .nil hx hdb
theorem pmk (O : Ok X.prog X.w X.K X.mg X.base CX k f ps sp) (M : Mk X.K C f) (hr : Room (k + 1) X.A) (hm : X.mg x = some (.ref C)) (hx : Passes CX X E) (ha : PA X (e :: es) t) (hg : Gl X x := by rfl) (hdb : (x == ("__debug__" : Str)) = false := by decide)
    (he : starEach (e :: es) X.env = (false, eval e X.env) :: starEach es X.env := by rfl) (hpl : (backTo pos (starEach es X.env)).any (·.1) = false := by rfl) :
    PE X (.Call (.Name x p) (e :: es) [] pos) (tMake C sp [] E t) := let ⟨fd, a, b, c⟩ := O.ex; pe_make M a hr hg hm b .nil hx ha hdb he hpl
theorem pmeth {pl : Sem Bool} (O : Ok X.prog X.w X.K X.mg X.base CX k f ps sp) (he : PE X o ta) (c : Cls X.K C) (hm : Meth X.K C m f) (hr : Room k X.A) (hx : Passes CX X E) (ha : PA X (e :: es) t)
    (hst : starEach (e :: es) X.env = (false, eval e X.env) :: starEach es X.env := by rfl) (hpl : (backTo pos (starEach es X.env)).any (·.1) = false := by rfl)
    (ht : eval (.Call (.Attribute o m apos) (e :: es) [] pos) X.env = (do
      let ov ← eval o X.env
      standAt apos.atName
      let (f, first) ← holding [ov] (getMethod ov m pl)
      callWith pos f first (backTo pos (starEach (e :: es) X.env)) (backToKw pos (keywordEach [] X.env))) := by rfl) :
    PE X (.Call (.Attribute o m apos) (e :: es) [] pos) (tMeth C m sp [] E ta t) := let ⟨fd, a, b, d⟩ := O.ex; pe_meth (pl := pl) he c hm a hr b .nil hx ha hst hpl ht
theorem pmeth0 {pl : Sem Bool} (O : Ok X.prog X.w X.K X.mg X.base CX k f ps sp) (he : PE X o ta) (c : Cls X.K C) (hm : Meth X.K C m f) (hr : Room k X.A) (hx : Passes CX X E)
    (ht : eval (.Call (.Attribute o m apos) [] [] pos) X.env = (do
      let ov ← eval o X.env
      standAt apos.atName
      let (f, first) ← holding [ov] (getMethod ov m pl)
      callWith pos f first (backTo pos (starEach [] X.env)) (backToKw pos (keywordEach [] X.env))) := by rfl) :
    PE X (.Call (.Attribute o m apos) [] [] pos) (tMeth C m sp [] E ta tNil) := let ⟨fd, a, b, d⟩ := O.ex; pe_meth0 (pl := pl) he c hm a hr b .nil hx ht
/-- a class or a def of the module by its name -/
theorem pgC (hm : X.mg x = some (.ref C)) (hg : Gl X x := by rfl) (hdb : (x == ("__debug__" : Str)) = false := by decide) : PE X (.Name x p) (tC (.ref C)) := pe_glob (v := .ref C) hg hm rfl hdb
theorem oOwn {op : Operator} (O : Ok X.prog X.w X.K X.mg X.base CX k f ps sp) (W : OwnOp X.K C op f) (hr : Room k X.A) (hx : Passes CX X E) : OpR X (binaryOp op) (rOwnOp C sp E) := let ⟨fd, a, b, c⟩ := O.ex; op_own W a b hr hx
theorem oOwnI {op : Operator} (O : Ok X.prog X.w X.K X.mg X.base CX k f ps sp) (W : OwnOpT X.K C op f "int") (hr : Room k X.A) (hx : Passes CX X E) : OpR X (binaryOp op) (rOwnOpI C sp E) := let ⟨fd, a, b, c⟩ := O.ex; op_ownI W a b hr hx
theorem oOwnR (O : Ok X.prog X.w X.K X.mg X.base CX k f ps sp) (W : OwnR X.K C .Mult f) (hr : Room k X.A) (hx : Passes CX X E) : OpR X (binaryOp .Mult) (rOwnR C sp E) := let ⟨fd, a, b, c⟩ := O.ex; op_ownR W a b hr hx
theorem uOwn (O : Ok X.prog X.w X.K X.mg X.base CX k f ps sp) (W : PySem.W.findIn X.K (.ref C) "__neg__" = some (some (.ref f)) ∧ PySem.W.isFn X.K (.ref f) = true) (hr : Room k X.A) (hx : Passes CX X E) : UnR X (unaryOp .USub) (rOwnNeg C sp E) := let ⟨fd, a, b, c⟩ := O.ex; un_own W.1 W.2 a b hr hx
theorem cAbs (O : Ok X.prog X.w X.K X.mg X.base CX k f ps sp) (W : PySem.W.findIn X.K (.ref C) "__abs__" = some (some (.ref f)) ∧ PySem.W.isFn X.K (.ref f) = true) (hr : Room (k + 1) X.A) (hx : Passes CX X E) : CallR X (.builtin "abs") (rOwnAbs C sp E) := let ⟨fd, a, b, c⟩ := O.ex; call_ownAbs W.1 W.2 a b hr hx
end
/-- a def that may raise: what its callees let out goes on -/
theorem px {X : Cx} {E : XK} {E₁ : Value → Shared → Prop} (hs : X.stack = X.env :: X.outer := by rfl) (hf : X.env.frame = some X.env.locals := by rfl) (hex : X.ex = [] := by rfl)
    (hx : X.xe = fun e s' => wpAny (model X.prog X.w) X.A (leaving X.env e) (fun _ s'' => CX X.prog X.w X.outer X.H_0 X.s_0 E e s'') E₁ s' := by rfl) : Passes (CX X.prog X.w) X E :=
  passes_call (takes_of hs hf hex hx) fun _ _ _ _ h => h
end L2

set_option maxRecDepth 100000
set_option maxHeartbeats 4000000
/-! # try with several clauses, each with or without a name -/
namespace L2
open PySem PySem.Spec PyProof.Rows
abbrev Cls3 : Type := Value × Option Nat × (Addr → Value → Option Addr → TS)
/-- the ends behind a suite whose name is slot i: it is gone -/
def Ends.gone (D : Ends) (i : Nat) : Ends := { nx := fun σ' H' => D.nx (σ'.set i none) H', rt := D.rt, bk := fun σ' H' => D.bk (σ'.set i none) H', ct := fun σ' H' => D.ct (σ'.set i none) H' }
def wAny (K : PySem.W.Frag) (Wo : WX) (D : Ends) : List Cls3 → WX
  | [] => Wo
  | (c, none, ts) :: r => fun cls d σ H => ∃ b, PySem.W.exmOne K cls c = some b ∧ (b = true → ∀ a, H a = none → ts a cls d D σ H) ∧ (b = false → wAny K Wo D r cls d σ H)
  | (c, some i, ts) :: r => fun cls d σ H => ∃ b, PySem.W.exmOne K cls c = some b ∧ (b = true → ∀ a, H a = none → ts a cls d (D.gone i) (σ.set i (some (.ref a))) H) ∧ (b = false → wAny K Wo D r cls d σ H)
inductive HdA (X : Cx) : List ExceptHandler → List Cls3 → Prop
  | nil : HdA X [] []
  | cons {x : Str} {c : Value} {ts : Addr → Value → Option Addr → TS} {b₀ : Stmt} {su : List Stmt} {np p2 : Pos} {hds : List ExceptHandler} {l : List Cls3} (hc : Names X x c)
      (hsu : ∀ (a : Addr) (oe : Obj) (cls : Value) (d : Option Addr) (pn : List (Addr × Obj)), Zc cls d oe → (∃ vs, oe.data = .fields vs) → PSs (X.suite a ((a, oe) :: pn)) (b₀ :: su) (ts a cls d)) (r : HdA X hds l) :
      HdA X (.ExceptHandler (some (.Name x np)) none (b₀ :: su) p2 :: hds) ((c, none, ts) :: l)
  | as {x n : Str} {i : Nat} {c : Value} {ts : Addr → Value → Option Addr → TS} {b₀ : Stmt} {su : List Stmt} {np p2 : Pos} {hds : List ExceptHandler} {l : List Cls3} (hc : Names X x c) (hi : X.N[i]? = some n) (hln : X.env.kindOf n = some .local)
      (hsu : ∀ (a : Addr) (oe : Obj) (cls : Value) (d : Option Addr) (pn : List (Addr × Obj)), Zc cls d oe → (∃ vs, oe.data = .fields vs) → PSs (X.suite a ((a, oe) :: pn)) (b₀ :: su) (ts a cls d)) (r : HdA X hds l) :
      HdA X (.ExceptHandler (some (.Name x np)) (some n) (b₀ :: su) p2 :: hds) ((c, some i, ts) :: l)
section
variable {X : Cx} {body : List Stmt} {h₀ : ExceptHandler} {hds : List ExceptHandler} {l : List Cls3} {pos : Pos} {tb : WX → TS} {Wo : WX}
theorem ps_try_any (hs : X.stack = X.env :: X.outer) (hf : X.env.frame = some X.env.locals) (hN : X.N.Nodup) (tk : Takes X Wo)
    (hb : ∀ (W : WX) (pn : List (Addr × Obj)) (xe : Value → Shared → Prop), Takes (X.tr pn xe) W → PassesOwn (model X.prog X.w) X.A X.env xe → PSs (X.tr pn xe) body (tb W))
    (hh : HdA X (h₀ :: hds) l) : PS X (.Try body (h₀ :: hds) [] [] pos) (fun D σ H => tb (wAny X.K Wo D l) D σ H) := by
  refine ⟨fun pins s σ H D I h => ?_⟩
  have ok := I.ok
  have hfr : X.A.frames = some (X.env :: X.outer) := by rw [ok.frames, hs]
  refine wpAny_Try_except ?_
  refine wpAny_mono ((hb (wAny X.K Wo D l) (X.pn ++ pins) (fun e s₁ => wpAny (model X.prog X.w) X.A (noteFrame e X.env) (fun _ s₂ => wpAny (model X.prog X.w) X.A (setFlight e none) (fun _ s₃ =>
    wpAny (model X.prog X.w) X.A (handleBy e X.env (h₀ :: hds)) (SP X pins D) X.xe s₃) X.xe s₂) X.xe s₁) (fun u s' xx => ?_) PassesOwn.looking).run [] s σ H D (I.toTry _) h) (fun f s1 hsp => ?_) (fun e s1 he => he)
  · obtain ⟨a, B, sI, pins', σ', H', cls, d, rfl, J', nb, up, sky, na, os, ag, w⟩ := xx
    have J : Inv X pins σ' H' sI := J'.ofTry ok
    have sk2 : Sky B (X.env :: X.outer) a (Zc cls d) X.env.locals s'.heap := by rw [← hs]; exact sky
    show wpAny (model X.prog X.w) X.A (noteFrame (.ref a) X.env) _ _ _
    refine Sky.land Zc.steady hfr hf sk2 fun h3 fl3 up3 => ?_
    have J3 : Inv X pins σ' H' { s' with heap := h3 } := J.landed nb fl3.1 (up.trans up3) os ag
    obtain ⟨oe3, vs3, he3, hz3, hd3⟩ := fl3.there
    have nfr : a ∉ frs (X.env :: X.outer) := fun hm => by
      obtain ⟨_, o', e', hnf⟩ := fl3.2.2.1.mem hm
      rw [he3] at e'; cases e'
      exact hnf _ hd3
    have nL : a ≠ X.env.locals := fun z => nfr (List.mem_filterMap.mpr ⟨X.env, List.mem_cons_self, by rw [hf, z]⟩)
    have nF : a ∉ X.fs := fun hm => by
      obtain ⟨e, he, q⟩ := List.mem_filterMap.mp hm
      exact nfr (List.mem_filterMap.mpr ⟨e, List.mem_cons_of_mem _ he, q⟩)
    have S3 := J3.suite he3 hd3 na nL nF
    have LT : PySem.W.Looks (model X.prog X.w) h3 (typeOf (.ref a)) cls := fun A Q E s k q => wpAny_typeOf_ref (k _ _ he3) (by rw [hz3.1]; exact q)
    have test : ∀ {x : Str} {np : Pos} {c : Value} {Q : Value → Shared → Prop} {E : Value → Shared → Prop}, Names X x c → Q c { s' with heap := h3 } → wpAny (model X.prog X.w) (X.A.mark (some (.ref a))) (eval (.Name x np) X.env) Q E { s' with heap := h3 } := fun {x np c Q E} hc q => by
      obtain ⟨hg, hdbg, hm | ⟨hm, hv, hnn⟩⟩ := hc
      · exact ld_glob (X := X.suite a ((a, oe3) :: (X.pn ++ pins))) S3 hg hm q hdbg
      · exact ld_blt (X := X.suite a ((a, oe3) :: (X.pn ++ pins))) S3 hg hm hv q hnn hdbg
    have go : ∀ {hds' : List ExceptHandler} {l' : List Cls3}, HdA X hds' l' → wAny X.K Wo D l' cls d σ' H' →
        wpAny (model X.prog X.w) X.A (handleBy (.ref a) X.env hds') (SP X pins D) X.xe { s' with heap := h3 } := by
      intro hds' l' hk
      induction hk with
      | nil =>
        intro w
        refine wpAny_handleBy_nil ?_
        obtain ⟨k1, k2, k3, oe, vs, T, oT, ts', he, hz, hd, h1, hr⟩ := id fl3
        unfold PySem.passOn
        refine wpAny_bind (wpAny_field he hd h1 ?_)
        rw [if_neg (show ¬ ((Value.ref T == Value.none) = true) from by simp)]
        have fin : wpAny (model X.prog X.w) X.A (setFlight (.ref a) X.env.frame) (fun _ s4 => wpAny (model X.prog X.w) X.A (throw (.ref a) : Sem Flow) (SP X pins D) X.xe s4) X.xe { s' with heap := h3 } := by
          rw [hf]
          refine HandSPX.setFlight_upZ fl3 fun h4 hh4 up4 => wpAny_throw (tk _ _ ?_)
          exact ⟨a, B, sI, pins, σ', H', cls, d, rfl, J, nb, (up.trans up3).trans up4, .inr (.inr (by rw [hs]; exact hh4)), na, os, ag, w⟩
        first
          | exact wpAny_bind (wpAny_pure (wpAny_bind fin))
          | exact wpAny_bind fin
      | @cons x c ts b₀ suite np pos' hds2 l2 hc hsu r ih =>
        intro w
        obtain ⟨b, hb1, hyes, hno⟩ := w
        refine wpAny_handleBy_cons (codeAny_handlers_test ?_) (by intro q; cases q)
        refine test hc ((PySem.W.exm_one (M := model X.prog X.w) (J3.kIn) LT hb1).here ?_)
        cases b with
        | true =>
          refine codeAny_handlers_suite ?_
          refine HandSPX.lands_againZ fl3 fun h4 fl4 up4 => ?_
          have J4 : Inv X pins σ' H' { s' with heap := h4 } := J.landed nb fl4.1 ((up.trans up3).trans up4) os ag
          obtain ⟨oe4, vs4, he4, hz4, hd4⟩ := fl4.there
          have S4 := J4.suite he4 hd4 na nL nF
          refine wpAny_mono ((hsu a oe4 cls d (X.pn ++ pins) hz4 ⟨_, hd4⟩).run [] _ _ H' _ S4 (hyes rfl a na)) (fun f s6 hsp => ?_) (fun _ _ z => False.elim z)
          cases f with
          | next => obtain ⟨σ6, H6, S6, q6⟩ := hsp; exact ⟨_, _, S6.unsuite ok, q6⟩
          | brk => obtain ⟨σ6, H6, S6, q6⟩ := hsp; exact ⟨_, _, S6.unsuite ok, q6⟩
          | cont => obtain ⟨σ6, H6, S6, q6⟩ := hsp; exact ⟨_, _, S6.unsuite ok, q6⟩
          | ret u => obtain ⟨v6, σ6, H6, S6, r6, q6⟩ := hsp; exact ⟨_, _, _, S6.unsuite ok, r6, q6⟩
        | false =>
          show wpAny _ X.A (handleBy (.ref a) X.env hds2) _ _ _
          exact ih (hno rfl)
      | @as x n i c ts b₀ suite np pos' hds2 l2 hc hi hln hsu r ih =>
        intro w
        obtain ⟨b, hb1, hyes, hno⟩ := w
        refine wpAny_handleBy_cons (codeAny_handlers_test ?_) (by intro q; cases q)
        refine test hc ((PySem.W.exm_one (M := model X.prog X.w) (J3.kIn) LT hb1).here ?_)
        cases b with
        | true =>
          refine codeAny_handlers_suite_as ?_
          refine HandSPX.lands_againZ fl3 fun h4 fl4 up4 => ?_
          have J4 : Inv X pins σ' H' { s' with heap := h4 } := J.landed nb fl4.1 ((up.trans up3).trans up4) os ag
          obtain ⟨oe4, vs4, he4, hz4, hd4⟩ := fl4.there
          have S4 := J4.suite he4 hd4 na nL nF
          refine store_ok (X := X.suite a ((a, oe4) :: (X.pn ++ pins))) (v := .ref a) S4 hN hi (.inl hln) rfl (fun s5 S5 => ?_) (.inr hln)
          refine wpAny_mono ((hsu a oe4 cls d (X.pn ++ pins) hz4 ⟨_, hd4⟩).run [] s5 _ H' _ S5 (hyes rfl a na)) (fun f s6 hsp => ?_) (fun _ _ z => False.elim z)
          have end_ : ∀ {σ6 : St} {H6 : Hp} {Q : Shared → Prop}, Inv (X.suite a ((a, oe4) :: (X.pn ++ pins))) [] σ6 H6 s6 → (∀ s7, Inv X pins (σ6.set i none) H6 s7 → Q s7) →
              wpAny (model X.prog X.w) X.A (do bindName X.env n .none; unbindBehindTheSuite X.env n pos') (fun _ s7 => Q s7) X.xe s6 := fun {σ6 H6 Q} S6 hq => gone_ok (S6.unsuite ok) hN hi hln hq
          cases f with
          | next => obtain ⟨σ6, H6, S6, q6⟩ := hsp; exact end_ S6 fun s7 J7 => ⟨_, _, J7, q6⟩
          | brk => obtain ⟨σ6, H6, S6, q6⟩ := hsp; exact end_ S6 fun s7 J7 => ⟨_, _, J7, q6⟩
          | cont => obtain ⟨σ6, H6, S6, q6⟩ := hsp; exact end_ S6 fun s7 J7 => ⟨_, _, J7, q6⟩
          | ret u => obtain ⟨v6, σ6, H6, S6, r6, q6⟩ := hsp; exact end_ S6 fun s7 J7 => ⟨_, _, _, J7, r6, q6⟩
        | false =>
          show wpAny _ X.A (handleBy (.ref a) X.env hds2) _ _ _
          exact ih (hno rfl)
    exact go hh w
  · cases f with
    | next => obtain ⟨σ', H', J', q⟩ := hsp; exact wpAny_execs_nil ⟨σ', H', J'.ofTry ok, q⟩
    | brk => obtain ⟨σ', H', J', q⟩ := hsp; exact ⟨σ', H', J'.ofTry ok, q⟩
    | cont => obtain ⟨σ', H', J', q⟩ := hsp; exact ⟨σ', H', J'.ofTry ok, q⟩
    | ret u => obtain ⟨v, σ', H', J', r, q⟩ := hsp; exact ⟨v, σ', H', J'.ofTry ok, r, q⟩
end
end L2

set_option maxRecDepth 100000
set_option maxHeartbeats 4000000
/-! # isinstance(e, C) in a suite, e an error with a dict -/
namespace EI
open PySem PySem.W PySem.Spec PySem.Calls PyProof.Rows
theorem cls_of_exc {prog : Program} {w : World} {A : Around} {E : Value → Shared → Prop} {s : Shared} {K : Frag} {x D : Addr} {ox od : Obj} {Q : Option Value → Shared → Prop} (C : L2.ExcC K D) (X : K.In s.heap) (I : InstAt s.heap x ox D (some od)) (h : Q (some (.ref D)) { s with toks := s.toks + 1 }) :
    wpAny (model prog w) A (getAttr? (.ref x) "__class__") Q E s := by
  have hf : findObj K D (some od) "__class__" = some (.bind (.builtin "getset_descriptor.__get__") (.builtin "object.__class__")) := findObj_data (by obtain ⟨cd, hc, _⟩ := any_some C.hd; rw [hc]; rfl) C.ha C.hn C.ht
  obtain ⟨hp, g, d, t, os⟩ := s
  have L0 := I.type (M := model prog w)
  have L1 := looks_findIn (M := model prog w) X C.hg
  have L2 := looks_findIn (M := model prog w) X C.hk
  have L3 := looks_find (M := model prog w) X I hf
  have sub : Looks (model prog w) hp (isInstance (.ref x) (.type "BaseException")) true := L0.andThen (looks_subIn X C.hs)
  have n2 : (Value.builtin "BaseException.__getattribute__" == Value.builtin "object.__getattribute__") = false := by decide +kernel
  have n1 : (onTheHeap (Value.ref D) && Value.builtin "BaseException.__getattribute__" == Value.builtin "object.__getattribute__") = false := by rw [n2]; rfl
  unfold getAttr? getAttrBy? getAttrBy
  refine wpAny_bind (wpAny_mkText (wpAny_bind (wpAny_attempt (wpAny_holding (wpAny_bind (L0.at (wpAny_bind (L1.at (by
    show wpAny _ _ (if (onTheHeap (Value.ref D) && Value.builtin "BaseException.__getattribute__" == Value.builtin "object.__getattribute__") = true then _ else _) _ _ _
    rw [n1, if_neg Bool.false_ne_true]
    unfold getAttrByItsOwn hookBefore
    refine wpAny_bind ?_
    rw [if_pos (show onTheHeap (Value.ref D) = true from rfl)]
    refine L2.at (wpAny_bind (wpAny_attempt (wpAny_holding ?_)))
    unfold callGetattribute
    rw [show (false && onTheHeap (Value.builtin "BaseException.__getattribute__")) = false from rfl, if_neg Bool.false_ne_true]
    unfold boundAndCalled
    rw [PySem.F.excAttr_ValueError.ga.bind (.ref x)]
    refine wpAny_bind (wpAny_pure ?_)
    show wpAny _ _ (call (.builtin "BaseException.__getattribute__") [.ref x, .str "__class__" t]) _ _ _
    refine wpAny_call (codeAny_call_builtin PySem.F.excAttr_ValueError.ga.plain PySem.F.entry_bexc_ga (@check_slot (model prog w) _ _ ⟨hp, g, d, t + 1, os⟩ "BaseException.__getattribute__" "BaseException" "__getattribute__" (.ref x) [.str "__class__" t] [] _ (by decide +kernel) (by decide +kernel) sub (PySem.F.args_bexc_ga (.ref x) (.str "__class__" t)) ?_))
    unfold Builtin.«object.__getattribute__»
    refine wpAny_bind (wpAny_of_eq (a := ((Value.ref x : Value), [Value.str "__class__" t])) (by first | rfl | (simp only [slotArgs]; rfl)) ?_)
    refine wpAny_bind (wpAny_pure (wpAny_bind (L0.at (wpAny_bind (L3.at ?_)))))
    show wpAny _ _ (holding [Value.builtin "object.__class__"] (call (.builtin "getset_descriptor.__get__") [.builtin "object.__class__", .ref x, .ref D]) >>= ret) _ _ _
    refine wpAny_bind (wpAny_holding (wpAny_call (class_get (s := ⟨hp, g, d, t + 1, os⟩) (ox := ox) (od := some od) X I C.hm ?_)))
    refine wpAny_pure ?_
    show wpAny _ _ (handedOut (.ref D)) _ _ _
    rw [handedOut_of (v := .ref D) rfl]
    first
      | exact wpAny_pure (wpAny_pure h)
      | exact wpAny_pure h
      | exact wpAny_pure (wpAny_bind (wpAny_pure (wpAny_pure h))))))))))))
theorem kit_exc {K : Frag} {x D : Addr} {ox od : Obj} (C : L2.ExcC K D) : KitX K (.ref x) (.ref D) (fun h => InstAt h x ox D (some od)) where
  ty := fun _ _ _ I => I.type
  it := fun _ _ X _ => by
    obtain ⟨cdD, hcD, _⟩ := any_some C.hd
    unfold clsIn at hcD
    split at hcD
    · rename_i c' d' cd' sl' ho
      intro A' Q' E' s' k q
      unfold isType loadHead
      exact wpAny_bind (wpAny_loadPart (k _ _ (X _ _ ho)) (wpAny_pure q))
    · cases hcD
  ne := fun h tp dd its n sl X htp => by
    obtain ⟨cdD, hcD, _⟩ := any_some C.hd
    refine Bool.eq_false_iff.mpr fun q => ?_
    have e : D = tp := Value.ref.inj (beq_iff_eq.mp q)
    subst e
    unfold clsIn at hcD
    split at hcD
    · rename_i c' d' cd' sl' ho
      cases (X _ _ ho).symm.trans htp
    · cases hcD
  ca := fun X I k => cls_of_exc C X I k
end EI
namespace L2
open PySem PySem.Spec PyProof.Rows
/-- isinstance(e, c), e the suite's error, with a dict -/
def rIsD (K : PySem.W.Frag) (D a : Addr) (d : Option Addr) : List V → Hp → VK → Prop := fun xs H Q => ∃ (c : V) (cv : Value) (b : Bool) (dd : Addr) (fs : List (Str × V)), xs = [.ref a, c] ∧ (∀ u, RelV c u → u = cv) ∧ d = some dd ∧ H dd = some (.xd fs) ∧ PySem.W.kitOne K (.ref D) cv = some b ∧ Q (.bl b) H
theorem call_isD {X : Cx} {a D : Addr} {d : Option Addr} {oe : Obj} {pn : List (Addr × Obj)} {cls : Value} (C : ExcC X.K D) (hz : Zc cls d oe) (hf : ∃ vs, oe.data = .fields vs) :
    CallR (X.suite a ((a, oe) :: pn)) (.builtin "isinstance") (fun xs H Q => cls = .ref D ∧ rIsD X.K D a d xs H Q) := by
  intro pins s σ H xs us Q I r h
  obtain ⟨rfl, c, cv, b, dd, fs, rfl, hcv, rfl, ea, e, q⟩ := h
  cases r with
  | cons rx rr =>
  cases rr with
  | cons rt rr =>
  cases rr
  cases rx
  have ec := hcv _ rt
  subst ec
  obtain ⟨hget, _⟩ := I.pin (a, oe) (List.mem_append.mpr (.inl List.mem_cons_self))
  obtain ⟨vs, hv⟩ := hf
  obtain ⟨mA, hns, hr⟩ := (show ObjOk X.prog X.w H s.heap dd (.xd fs) from I.hok dd _ ea)
  obtain ⟨od, ho, _⟩ := lookIn_ns hns
  have J : PySem.W.InstAt s.heap a oe D (some od) := ⟨hget, hz.1, by unfold PySem.W.notCls; rw [hv] <;> rfl, by rw [hz.2]; exact ho⟩
  exact PySem.W.kia_one (EI.kit_exc C) I.kIn J e (fun z => nomatch z) fun tk => ⟨.bl b, H, I.kept (t' := tk) fun _ _ z => z, rfl, q⟩
end L2

set_option maxRecDepth 100000
set_option maxHeartbeats 4000000
namespace EF
open PySem PySem.W PySem.Calls PyProof.Rows He He5 HX
def clsB (K : Frag) (D : Addr) : Bool := eqO (findIn K (.ref D) "__class__") (some (some (.builtin "object.__class__"))) && (eqO (specialIn K (.builtin "object.__class__") "__get__") (some (some (.builtin "getset_descriptor.__get__"))) && (decide (takesIn K (.builtin "object.__class__") = some true) && decide (mroIn K D (.type "object") = some true)))
structure ClsT (K : Frag) (D : Addr) : Prop where
  ha : findIn K (.ref D) "__class__" = some (some (.builtin "object.__class__"))
  hn : specialIn K (.builtin "object.__class__") "__get__" = some (some (.builtin "getset_descriptor.__get__"))
  ht : takesIn K (.builtin "object.__class__") = some true
  hm : mroIn K D (.type "object") = some true
theorem cls_ok {K : Frag} {D : Addr} (h : clsB K D = true) : ClsT K D := by
  obtain ⟨h1, h⟩ := ba h
  obtain ⟨h2, h⟩ := ba h
  obtain ⟨h3, h4⟩ := ba h
  exact ⟨eqO_ok h1, eqO_ok h2, of_decide_eq_true h3, of_decide_eq_true h4⟩
/-- an error's class: its fields are read, isinstance asks it -/
def excB (K : Frag) (D : Addr) : Bool := L2.xfB K D && clsB K D
theorem exc_ok {K : Frag} {D : Addr} (h : excB K D = true) : L2.XfC K D ∧ L2.ExcC K D := by
  obtain ⟨h1, h2⟩ := ba h
  have x := L2.xfB_ok h1
  have c := cls_ok h2
  exact ⟨x, x.ga, x.gg, x.exC, x.hdC, c.ha, c.hn, c.ht, c.hm⟩
end EF

set_option maxRecDepth 100000
set_option maxHeartbeats 0
namespace K01
open PySem PySem.W PySem.Spec PySem.Calls PyProof.Rows L2 He He5 HX
/-! ### the text by its places -/
abbrev PG : Program := PySem.Challenge.pw_nightsoff_k01_wants_operators
def topS (i : Nat) : Stmt := PG.main.body.getD i (.Pass ⟨0, 0, 0, 0⟩)
abbrev s_check_count : Stmt := topS 6
abbrev s_check_number : Stmt := topS 7
abbrev s_check_numbers : Stmt := topS 8
abbrev s_check_not_negative : Stmt := topS 9
abbrev s_check_night : Stmt := topS 10
abbrev s_Wants_init : Stmt := inClass (topS 12) 2
abbrev s_Wants_of : Stmt := inClass (topS 12) 3
abbrev s_Wants_len : Stmt := inClass (topS 12) 4
abbrev s_Wants_iter : Stmt := inClass (topS 12) 5
abbrev s_Wants_getitem : Stmt := inClass (topS 12) 6
abbrev s_Wants_add : Stmt := inClass (topS 12) 7
abbrev s_Wants_mul : Stmt := inClass (topS 12) 8
abbrev s_Wants_rmul : Stmt := inClass (topS 12) 9
abbrev s_Wants_lshift : Stmt := inClass (topS 12) 10
abbrev s_Wants_rshift : Stmt := inClass (topS 12) 11
abbrev s_Wants_neg : Stmt := inClass (topS 12) 12
abbrev s_Wants_abs : Stmt := inClass (topS 12) 13
abbrev s_law_pool : Stmt := topS 14
abbrev s_law_draw : Stmt := topS 15
abbrev s_law_wants : Stmt := topS 16
abbrev s_law_int : Stmt := topS 17
abbrev s_law_same : Stmt := topS 18
abbrev s_law_any : Stmt := topS 19
abbrev s_law_run_drawn : Stmt := topS 20
abbrev s_law_many : Stmt := topS 21
abbrev s_law_due_run : Stmt := topS 22
abbrev s_law_due_times : Stmt := topS 23
abbrev s_law_due_of : Stmt := topS 24
abbrev s_law_due : Stmt := topS 25
abbrev s_law_worked : Stmt := topS 26
abbrev s_law_try : Stmt := topS 27
abbrev s_law_holds : Stmt := topS 28
abbrev s_law_base : Stmt := topS 29
abbrev s_law : Stmt := topS 30
abbrev e_NoNight : Stmt := inClass (topS 2) 0
abbrev e_BadNumber : Stmt := inClass (topS 3) 0
abbrev e_TooLong : Stmt := inClass (topS 4) 0
/-! ### the errors: what their __init__ says -/
theorem tx_NoNight : InitTx PG e_NoNight "NoNight.__init__" ["night"] [("night", "night")] where
  txt := ⟨_, _, _, _, _, _, _, _, _, rfl, .cons (.nil), fun env h => (by rw [show interactive env = (env.scope.kind == ScopeKind.module && env.scope.more.any fun (n, _) => n == ("interactive" : Str)) from rfl, h]; rfl), fun env h => ⟨_, by obtain ⟨⟩ := env; cases h; rfl⟩⟩
  par := ⟨_, rfl, rfl⟩
  sc := ⟨⟨rfl, rfl, rfl⟩, by decide +kernel, rfl, rfl, rfl⟩
  loc := by decide +kernel
  nod := by decide +kernel
  bind := fun s e fd us hl h1 h2 h3 => (match us, hl with | [_], _ => .of_eq (by obtain ⟨⟩ := fd; cases h1; cases h2; cases h3; rfl))
  top := by decide +kernel
  few := by decide
theorem tx_BadNumber : InitTx PG e_BadNumber "BadNumber.__init__" ["place", "number"] [("place", "place"), ("number", "number")] where
  txt := ⟨_, _, _, _, _, _, _, _, _, rfl, .cons (.cons (.nil)), fun env h => (by rw [show interactive env = (env.scope.kind == ScopeKind.module && env.scope.more.any fun (n, _) => n == ("interactive" : Str)) from rfl, h]; rfl), fun env h => ⟨_, by obtain ⟨⟩ := env; cases h; rfl⟩⟩
  par := ⟨_, rfl, rfl⟩
  sc := ⟨⟨rfl, rfl, rfl⟩, by decide +kernel, rfl, rfl, rfl⟩
  loc := by decide +kernel
  nod := by decide +kernel
  bind := fun s e fd us hl h1 h2 h3 => (match us, hl with | [_, _], _ => .of_eq (by obtain ⟨⟩ := fd; cases h1; cases h2; cases h3; rfl))
  top := by decide +kernel
  few := by decide
theorem tx_TooLong : InitTx PG e_TooLong "TooLong.__init__" ["count"] [("count", "count")] where
  txt := ⟨_, _, _, _, _, _, _, _, _, rfl, .cons (.nil), fun env h => (by rw [show interactive env = (env.scope.kind == ScopeKind.module && env.scope.more.any fun (n, _) => n == ("interactive" : Str)) from rfl, h]; rfl), fun env h => ⟨_, by obtain ⟨⟩ := env; cases h; rfl⟩⟩
  par := ⟨_, rfl, rfl⟩
  sc := ⟨⟨rfl, rfl, rfl⟩, by decide +kernel, rfl, rfl, rfl⟩
  loc := by decide +kernel
  nod := by decide +kernel
  bind := fun s e fd us hl h1 h2 h3 => (match us, hl with | [_], _ => .of_eq (by obtain ⟨⟩ := fd; cases h1; cases h2; cases h3; rfl))
  top := by decide +kernel
  few := by decide
/-! ### facts -/
def fn : List DefA := [
  { at_ := fun K => ga K "check_count", name := "check_count", qual := "check_count", params := defArgs s_check_count, body := defBody s_check_count, scope := defScope s_check_count },
  { at_ := fun K => ga K "check_number", name := "check_number", qual := "check_number", params := defArgs s_check_number, body := defBody s_check_number, scope := defScope s_check_number },
  { at_ := fun K => ga K "check_numbers", name := "check_numbers", qual := "check_numbers", params := defArgs s_check_numbers, body := defBody s_check_numbers, scope := defScope s_check_numbers },
  { at_ := fun K => ga K "check_not_negative", name := "check_not_negative", qual := "check_not_negative", params := defArgs s_check_not_negative, body := defBody s_check_not_negative, scope := defScope s_check_not_negative },
  { at_ := fun K => ga K "check_night", name := "check_night", qual := "check_night", params := defArgs s_check_night, body := defBody s_check_night, scope := defScope s_check_night },
  { at_ := fun K => ma K (ga K "Wants") "__init__", name := "__init__", qual := "Wants.__init__", params := defArgs s_Wants_init, body := defBody s_Wants_init, scope := defScope s_Wants_init },
  { at_ := fun K => wf K (ga K "Wants") "classmethod" "of", name := "of", qual := "Wants.of", params := defArgs s_Wants_of, body := defBody s_Wants_of, scope := defScope s_Wants_of, kwd := [("times", .int 1)] },
  { at_ := fun K => ma K (ga K "Wants") "__len__", name := "__len__", qual := "Wants.__len__", params := defArgs s_Wants_len, body := defBody s_Wants_len, scope := defScope s_Wants_len },
  { at_ := fun K => ma K (ga K "Wants") "__iter__", name := "__iter__", qual := "Wants.__iter__", params := defArgs s_Wants_iter, body := defBody s_Wants_iter, scope := defScope s_Wants_iter },
  { at_ := fun K => ma K (ga K "Wants") "__getitem__", name := "__getitem__", qual := "Wants.__getitem__", params := defArgs s_Wants_getitem, body := defBody s_Wants_getitem, scope := defScope s_Wants_getitem },
  { at_ := fun K => ma K (ga K "Wants") "__add__", name := "__add__", qual := "Wants.__add__", params := defArgs s_Wants_add, body := defBody s_Wants_add, scope := defScope s_Wants_add },
  { at_ := fun K => ma K (ga K "Wants") "__mul__", name := "__mul__", qual := "Wants.__mul__", params := defArgs s_Wants_mul, body := defBody s_Wants_mul, scope := defScope s_Wants_mul },
  { at_ := fun K => ma K (ga K "Wants") "__rmul__", name := "__rmul__", qual := "Wants.__rmul__", params := defArgs s_Wants_rmul, body := defBody s_Wants_rmul, scope := defScope s_Wants_rmul },
  { at_ := fun K => ma K (ga K "Wants") "__lshift__", name := "__lshift__", qual := "Wants.__lshift__", params := defArgs s_Wants_lshift, body := defBody s_Wants_lshift, scope := defScope s_Wants_lshift },
  { at_ := fun K => ma K (ga K "Wants") "__rshift__", name := "__rshift__", qual := "Wants.__rshift__", params := defArgs s_Wants_rshift, body := defBody s_Wants_rshift, scope := defScope s_Wants_rshift },
  { at_ := fun K => ma K (ga K "Wants") "__neg__", name := "__neg__", qual := "Wants.__neg__", params := defArgs s_Wants_neg, body := defBody s_Wants_neg, scope := defScope s_Wants_neg },
  { at_ := fun K => ma K (ga K "Wants") "__abs__", name := "__abs__", qual := "Wants.__abs__", params := defArgs s_Wants_abs, body := defBody s_Wants_abs, scope := defScope s_Wants_abs },
  { at_ := fun K => ga K "_law_pool", name := "_law_pool", qual := "_law_pool", params := defArgs s_law_pool, body := defBody s_law_pool, scope := defScope s_law_pool },
  { at_ := fun K => ga K "_law_draw", name := "_law_draw", qual := "_law_draw", params := defArgs s_law_draw, body := defBody s_law_draw, scope := defScope s_law_draw },
  { at_ := fun K => ga K "_law_wants", name := "_law_wants", qual := "_law_wants", params := defArgs s_law_wants, body := defBody s_law_wants, scope := defScope s_law_wants },
  { at_ := fun K => ga K "_law_int", name := "_law_int", qual := "_law_int", params := defArgs s_law_int, body := defBody s_law_int, scope := defScope s_law_int },
  { at_ := fun K => ga K "_law_same", name := "_law_same", qual := "_law_same", params := defArgs s_law_same, body := defBody s_law_same, scope := defScope s_law_same },
  { at_ := fun K => ga K "_law_any", name := "_law_any", qual := "_law_any", params := defArgs s_law_any, body := defBody s_law_any, scope := defScope s_law_any },
  { at_ := fun K => ga K "_law_run_drawn", name := "_law_run_drawn", qual := "_law_run_drawn", params := defArgs s_law_run_drawn, body := defBody s_law_run_drawn, scope := defScope s_law_run_drawn },
  { at_ := fun K => ga K "_law_many", name := "_law_many", qual := "_law_many", params := defArgs s_law_many, body := defBody s_law_many, scope := defScope s_law_many },
  { at_ := fun K => ga K "_law_due_run", name := "_law_due_run", qual := "_law_due_run", params := defArgs s_law_due_run, body := defBody s_law_due_run, scope := defScope s_law_due_run },
  { at_ := fun K => ga K "_law_due_times", name := "_law_due_times", qual := "_law_due_times", params := defArgs s_law_due_times, body := defBody s_law_due_times, scope := defScope s_law_due_times },
  { at_ := fun K => ga K "_law_due_of", name := "_law_due_of", qual := "_law_due_of", params := defArgs s_law_due_of, body := defBody s_law_due_of, scope := defScope s_law_due_of },
  { at_ := fun K => ga K "_law_due", name := "_law_due", qual := "_law_due", params := defArgs s_law_due, body := defBody s_law_due, scope := defScope s_law_due },
  { at_ := fun K => ga K "_law_worked", name := "_law_worked", qual := "_law_worked", params := defArgs s_law_worked, body := defBody s_law_worked, scope := defScope s_law_worked },
  { at_ := fun K => ga K "_law_try", name := "_law_try", qual := "_law_try", params := defArgs s_law_try, body := defBody s_law_try, scope := defScope s_law_try },
  { at_ := fun K => ga K "_law_holds", name := "_law_holds", qual := "_law_holds", params := defArgs s_law_holds, body := defBody s_law_holds, scope := defScope s_law_holds },
  { at_ := fun K => ga K "_law_base", name := "_law_base", qual := "_law_base", params := defArgs s_law_base, body := defBody s_law_base, scope := defScope s_law_base },
  { at_ := fun K => ga K "law", name := "law", qual := "law", params := defArgs s_law, body := defBody s_law, scope := defScope s_law }]
def er : List ErrD := [⟨"NoNight", e_NoNight, "NoNight.__init__", ["night"]⟩, ⟨"BadNumber", e_BadNumber, "BadNumber.__init__", ["place", "number"]⟩, ⟨"TooLong", e_TooLong, "TooLong.__init__", ["count"]⟩]
def bl (K : Frag) : List Bool := [
  (Fa.free "super").ok K,
  eqO (nsIn K cStatics "thirdparty.any") (some none),
  (Fa.free "len").ok K,
  (Fa.free "enumerate").ok K,
  (Fa.free "tuple").ok K,
  (Fa.free "iter").ok K,
  (Fa.free "sum").ok K,
  (Fa.free "abs").ok K,
  (Fa.free "int").ok K,
  (Fa.free "range").ok K,
  (Fa.free "isinstance").ok K,
  (Fa.free "bool").ok K,
  (Fa.free "str").ok K,
  (Fa.free "list").ok K,
  (Fa.free "max").ok K,
  (Fa.free "min").ok K,
  (Fa.free "ValueError").ok K,
  (Fa.glo "check_count").ok K,
  (Fa.glo "check_number").ok K,
  (Fa.glo "check_numbers").ok K,
  (Fa.glo "check_not_negative").ok K,
  (Fa.glo "check_night").ok K,
  (Fa.glo "_law_pool").ok K,
  (Fa.glo "_law_draw").ok K,
  (Fa.glo "_law_wants").ok K,
  (Fa.glo "_law_int").ok K,
  (Fa.glo "_law_same").ok K,
  (Fa.glo "_law_any").ok K,
  (Fa.glo "_law_run_drawn").ok K,
  (Fa.glo "_law_many").ok K,
  (Fa.glo "_law_due_run").ok K,
  (Fa.glo "_law_due_times").ok K,
  (Fa.glo "_law_due_of").ok K,
  (Fa.glo "_law_due").ok K,
  (Fa.glo "_law_worked").ok K,
  (Fa.glo "_law_try").ok K,
  (Fa.glo "_law_holds").ok K,
  (Fa.glo "_law_base").ok K,
  (Fa.glo "law").ok K,
  (Fa.cls "Wants").ok K,
  (Fa.mkr "Wants").ok K,
  (Fa.glo "Wants").ok K,
  (Fa.noat "Wants" "numbers").ok K,
  FB.creadB K (ga K "Wants"),
  FB.cintB K (ga K "Wants") "MOST" 60,
  FB.cintB K (ga K "Wants") "GREATEST" 30,
  FB.opB K (ga K "Wants") .Add (ma K (ga K "Wants") "__add__"),
  FB.opTB K (ga K "Wants") .Mult (ma K (ga K "Wants") "__mul__") "int",
  FB.opRB K (ga K "Wants") .Mult (ma K (ga K "Wants") "__rmul__"),
  FB.opTB K (ga K "Wants") .LShift (ma K (ga K "Wants") "__lshift__") "int",
  FB.opTB K (ga K "Wants") .RShift (ma K (ga K "Wants") "__rshift__") "int",
  FB.spB K (ga K "Wants") "__neg__" (ma K (ga K "Wants") "__neg__"),
  FB.spB K (ga K "Wants") "__abs__" (ma K (ga K "Wants") "__abs__"),
  FB.spB K (ga K "Wants") "__iter__" (ma K (ga K "Wants") "__iter__"),
  FB.cmetB K (ga K "Wants") "of" (wf K (ga K "Wants") "classmethod" "of"),
  EF.excB K (ga K "TooLong"),
  EF.excB K (ga K "BadNumber"),
  (Fa.noat "TooLong" "count").ok K,
  (Fa.noat "BadNumber" "place").ok K,
  (Fa.noat "BadNumber" "number").ok K,
  (Fa.exm "TooLong" "TooLong" true).ok K,
  (Fa.exm "BadNumber" "TooLong" false).ok K,
  (Fa.exm "BadNumber" "BadNumber" true).ok K,
  (Fa.exm "TooLong" "NightsError" true).ok K,
  (Fa.exm "BadNumber" "NightsError" true).ok K,
  decide (kitOne K (.ref (ga K "TooLong")) (.ref (ga K "NightsError")) = some true),
  decide (kitOne K (.ref (ga K "TooLong")) (.type "ValueError") = some true),
  decide (kitOne K (.ref (ga K "TooLong")) (.ref (ga K "BadNumber")) = some false),
  decide (kitOne K (.ref (ga K "BadNumber")) (.ref (ga K "NightsError")) = some true),
  decide (kitOne K (.ref (ga K "BadNumber")) (.type "ValueError") = some true),
  decide (kitOne K (.ref (ga K "TooLong")) (.ref (ga K "TooLong")) = some true),
  decide (kitOne K (.ref (ga K "BadNumber")) (.ref (ga K "BadNumber")) = some true),
  decide (kitOne K (.ref (ga K "Wants")) (.ref (ga K "Wants")) = some true),
  (Fa.glo "NightsError").ok K,
  EF.clsB K (ga K "Wants")]
def bx (K : Frag) : Bool := (bl K).all fun b => b
abbrev R : OpenRow := OpenLaw.row PySem.Challenge.rw_nightsoff_k01_wants_operators
abbrev hk : Hook := hookX 6 bx fn er "/claim/cut.py"
def ob (s : SharedT) : AlX := obsXG 6 bx fn er "/claim/cut.py" (HandSHeadRun.getT s)
theorem ob_eq (s : SharedT) : ob s = hk.obs s.abs := obsXG_eq (HandSHeadRun.getT_eq s)
def nm0 : List Str := ["NightsError", "NoNight", "BadNumber", "TooLong", "check_count", "check_number", "check_numbers", "check_not_negative", "check_night", "Wants", "_law_pool", "_law_draw", "_law_wants", "_law_int", "_law_same", "_law_any", "_law_run_drawn", "_law_many", "_law_due_run", "_law_due_times", "_law_due_of", "_law_due", "_law_worked", "_law_try", "_law_holds", "_law_base"]
def names : List Str := nm0
theorem run (w : World) : HandSHeadRun.RunEq R (view R.prog [30]) hk ob 20000 names w := by
  intro os
  kernel_rfl
theorem fact {K : Frag} (c : SaysX bx fn er "/claim/cut.py" K) (i : Nat) {b : Bool} (h : (bl K)[i]? = some b := by rfl) : b = true := List.all_eq_true.mp (SaysX.bool c) b (List.mem_of_getElem? h)
/-! ### where the defs stand, their names, their facts in one bundle -/
abbrev c_NightsError (K : Frag) : Addr := ga K "NightsError"
abbrev c_NoNight (K : Frag) : Addr := ga K "NoNight"
abbrev c_BadNumber (K : Frag) : Addr := ga K "BadNumber"
abbrev c_TooLong (K : Frag) : Addr := ga K "TooLong"
abbrev c_Wants (K : Frag) : Addr := ga K "Wants"
abbrev a_check_count (K : Frag) : Addr := (fun K => ga K "check_count") K
abbrev a_check_number (K : Frag) : Addr := (fun K => ga K "check_number") K
abbrev a_check_numbers (K : Frag) : Addr := (fun K => ga K "check_numbers") K
abbrev a_check_not_negative (K : Frag) : Addr := (fun K => ga K "check_not_negative") K
abbrev a_check_night (K : Frag) : Addr := (fun K => ga K "check_night") K
abbrev a_Wants_init (K : Frag) : Addr := (fun K => ma K (ga K "Wants") "__init__") K
abbrev a_Wants_of (K : Frag) : Addr := (fun K => wf K (ga K "Wants") "classmethod" "of") K
abbrev a_Wants_len (K : Frag) : Addr := (fun K => ma K (ga K "Wants") "__len__") K
abbrev a_Wants_iter (K : Frag) : Addr := (fun K => ma K (ga K "Wants") "__iter__") K
abbrev a_Wants_getitem (K : Frag) : Addr := (fun K => ma K (ga K "Wants") "__getitem__") K
abbrev a_Wants_add (K : Frag) : Addr := (fun K => ma K (ga K "Wants") "__add__") K
abbrev a_Wants_mul (K : Frag) : Addr := (fun K => ma K (ga K "Wants") "__mul__") K
abbrev a_Wants_rmul (K : Frag) : Addr := (fun K => ma K (ga K "Wants") "__rmul__") K
abbrev a_Wants_lshift (K : Frag) : Addr := (fun K => ma K (ga K "Wants") "__lshift__") K
abbrev a_Wants_rshift (K : Frag) : Addr := (fun K => ma K (ga K "Wants") "__rshift__") K
abbrev a_Wants_neg (K : Frag) : Addr := (fun K => ma K (ga K "Wants") "__neg__") K
abbrev a_Wants_abs (K : Frag) : Addr := (fun K => ma K (ga K "Wants") "__abs__") K
abbrev a_law_pool (K : Frag) : Addr := (fun K => ga K "_law_pool") K
abbrev a_law_draw (K : Frag) : Addr := (fun K => ga K "_law_draw") K
abbrev a_law_wants (K : Frag) : Addr := (fun K => ga K "_law_wants") K
abbrev a_law_int (K : Frag) : Addr := (fun K => ga K "_law_int") K
abbrev a_law_same (K : Frag) : Addr := (fun K => ga K "_law_same") K
abbrev a_law_any (K : Frag) : Addr := (fun K => ga K "_law_any") K
abbrev a_law_run_drawn (K : Frag) : Addr := (fun K => ga K "_law_run_drawn") K
abbrev a_law_many (K : Frag) : Addr := (fun K => ga K "_law_many") K
abbrev a_law_due_run (K : Frag) : Addr := (fun K => ga K "_law_due_run") K
abbrev a_law_due_times (K : Frag) : Addr := (fun K => ga K "_law_due_times") K
abbrev a_law_due_of (K : Frag) : Addr := (fun K => ga K "_law_due_of") K
abbrev a_law_due (K : Frag) : Addr := (fun K => ga K "_law_due") K
abbrev a_law_worked (K : Frag) : Addr := (fun K => ga K "_law_worked") K
abbrev a_law_try (K : Frag) : Addr := (fun K => ga K "_law_try") K
abbrev a_law_holds (K : Frag) : Addr := (fun K => ga K "_law_holds") K
abbrev a_law_base (K : Frag) : Addr := (fun K => ga K "_law_base") K
abbrev a_law (K : Frag) : Addr := (fun K => ga K "law") K
abbrev i_NoNight (K : Frag) : Addr := ma K (ga K "NoNight") "__init__"
abbrev i_BadNumber (K : Frag) : Addr := ma K (ga K "BadNumber") "__init__"
abbrev i_TooLong (K : Frag) : Addr := ma K (ga K "TooLong") "__init__"
abbrev n_check_count : List Str := ["count", "most"]
abbrev p_check_count : List Str := ["count", "most"]
theorem sc_check_count : FnScope n_check_count p_check_count (defScope s_check_count) := ⟨rfl, rfl, rfl, by decide +kernel, rfl, by decide +kernel, by decide +kernel⟩
abbrev n_check_number : List Str := ["place", "number", "greatest"]
abbrev p_check_number : List Str := ["place", "number", "greatest"]
theorem sc_check_number : FnScope n_check_number p_check_number (defScope s_check_number) := ⟨rfl, rfl, rfl, by decide +kernel, rfl, by decide +kernel, by decide +kernel⟩
abbrev n_check_numbers : List Str := ["numbers", "greatest", "index", "number"]
abbrev p_check_numbers : List Str := ["numbers", "greatest"]
theorem sc_check_numbers : FnScope n_check_numbers p_check_numbers (defScope s_check_numbers) := ⟨rfl, rfl, rfl, by decide +kernel, rfl, by decide +kernel, by decide +kernel⟩
abbrev n_check_not_negative : List Str := ["number"]
abbrev p_check_not_negative : List Str := ["number"]
theorem sc_check_not_negative : FnScope n_check_not_negative p_check_not_negative (defScope s_check_not_negative) := ⟨rfl, rfl, rfl, by decide +kernel, rfl, by decide +kernel, by decide +kernel⟩
abbrev n_check_night : List Str := ["night", "nights"]
abbrev p_check_night : List Str := ["night", "nights"]
theorem sc_check_night : FnScope n_check_night p_check_night (defScope s_check_night) := ⟨rfl, rfl, rfl, by decide +kernel, rfl, by decide +kernel, by decide +kernel⟩
abbrev n_Wants_init : List Str := ["self", "numbers"]
abbrev p_Wants_init : List Str := ["self", "numbers"]
theorem sc_Wants_init : FnScope n_Wants_init p_Wants_init (defScope s_Wants_init) := ⟨rfl, rfl, rfl, by decide +kernel, rfl, by decide +kernel, by decide +kernel⟩
abbrev n_Wants_of : List Str := ["cls", "times", "numbers"]
abbrev p_Wants_of : List Str := ["cls", "times", "numbers"]
theorem sc_Wants_of : FnScope n_Wants_of p_Wants_of (defScope s_Wants_of) := ⟨rfl, rfl, rfl, by decide +kernel, rfl, by decide +kernel, by decide +kernel⟩
abbrev n_Wants_len : List Str := ["self"]
abbrev p_Wants_len : List Str := ["self"]
theorem sc_Wants_len : FnScope n_Wants_len p_Wants_len (defScope s_Wants_len) := ⟨rfl, rfl, rfl, by decide +kernel, rfl, by decide +kernel, by decide +kernel⟩
abbrev n_Wants_iter : List Str := ["self"]
abbrev p_Wants_iter : List Str := ["self"]
theorem sc_Wants_iter : FnScope n_Wants_iter p_Wants_iter (defScope s_Wants_iter) := ⟨rfl, rfl, rfl, by decide +kernel, rfl, by decide +kernel, by decide +kernel⟩
abbrev n_Wants_getitem : List Str := ["self", "at"]
abbrev p_Wants_getitem : List Str := ["self", "at"]
theorem sc_Wants_getitem : FnScope n_Wants_getitem p_Wants_getitem (defScope s_Wants_getitem) := ⟨rfl, rfl, rfl, by decide +kernel, rfl, by decide +kernel, by decide +kernel⟩
abbrev n_Wants_add : List Str := ["self", "other"]
abbrev p_Wants_add : List Str := ["self", "other"]
theorem sc_Wants_add : FnScope n_Wants_add p_Wants_add (defScope s_Wants_add) := ⟨rfl, rfl, rfl, by decide +kernel, rfl, by decide +kernel, by decide +kernel⟩
abbrev n_Wants_mul : List Str := ["self", "other", "nights"]
abbrev p_Wants_mul : List Str := ["self", "other"]
theorem sc_Wants_mul : FnScope n_Wants_mul p_Wants_mul (defScope s_Wants_mul) := ⟨rfl, rfl, rfl, by decide +kernel, rfl, by decide +kernel, by decide +kernel⟩
abbrev n_Wants_rmul : List Str := ["self", "other"]
abbrev p_Wants_rmul : List Str := ["self", "other"]
theorem sc_Wants_rmul : FnScope n_Wants_rmul p_Wants_rmul (defScope s_Wants_rmul) := ⟨rfl, rfl, rfl, by decide +kernel, rfl, by decide +kernel, by decide +kernel⟩
abbrev n_Wants_lshift : List Str := ["self", "other"]
abbrev p_Wants_lshift : List Str := ["self", "other"]
theorem sc_Wants_lshift : FnScope n_Wants_lshift p_Wants_lshift (defScope s_Wants_lshift) := ⟨rfl, rfl, rfl, by decide +kernel, rfl, by decide +kernel, by decide +kernel⟩
abbrev n_Wants_rshift : List Str := ["self", "other"]
abbrev p_Wants_rshift : List Str := ["self", "other"]
theorem sc_Wants_rshift : FnScope n_Wants_rshift p_Wants_rshift (defScope s_Wants_rshift) := ⟨rfl, rfl, rfl, by decide +kernel, rfl, by decide +kernel, by decide +kernel⟩
abbrev n_Wants_neg : List Str := ["self"]
abbrev p_Wants_neg : List Str := ["self"]
theorem sc_Wants_neg : FnScope n_Wants_neg p_Wants_neg (defScope s_Wants_neg) := ⟨rfl, rfl, rfl, by decide +kernel, rfl, by decide +kernel, by decide +kernel⟩
abbrev n_Wants_abs : List Str := ["self"]
abbrev p_Wants_abs : List Str := ["self"]
theorem sc_Wants_abs : FnScope n_Wants_abs p_Wants_abs (defScope s_Wants_abs) := ⟨rfl, rfl, rfl, by decide +kernel, rfl, by decide +kernel, by decide +kernel⟩
abbrev n_law_pool : List Str := ["script", "at", "cell"]
abbrev p_law_pool : List Str := ["script", "at"]
theorem sc_law_pool : FnScope n_law_pool p_law_pool (defScope s_law_pool) := ⟨rfl, rfl, rfl, by decide +kernel, rfl, by decide +kernel, by decide +kernel⟩
abbrev n_law_draw : List Str := ["pool", "many", "value", "mixed"]
abbrev p_law_draw : List Str := ["pool", "many"]
theorem sc_law_draw : FnScope n_law_draw p_law_draw (defScope s_law_draw) := ⟨rfl, rfl, rfl, by decide +kernel, rfl, by decide +kernel, by decide +kernel⟩
abbrev n_law_wants : List Str := ["pool", "nights", "most", "night"]
abbrev p_law_wants : List Str := ["pool", "nights", "most"]
theorem sc_law_wants : FnScope n_law_wants p_law_wants (defScope s_law_wants) := ⟨rfl, rfl, rfl, by decide +kernel, rfl, by decide +kernel, by decide +kernel⟩
abbrev n_law_int : List Str := ["x"]
abbrev p_law_int : List Str := ["x"]
theorem sc_law_int : FnScope n_law_int p_law_int (defScope s_law_int) := ⟨rfl, rfl, rfl, by decide +kernel, rfl, by decide +kernel, by decide +kernel⟩
abbrev n_law_same : List Str := ["got", "due", "place"]
abbrev p_law_same : List Str := ["got", "due"]
theorem sc_law_same : FnScope n_law_same p_law_same (defScope s_law_same) := ⟨rfl, rfl, rfl, by decide +kernel, rfl, by decide +kernel, by decide +kernel⟩
abbrev n_law_any : List Str := ["pool"]
abbrev p_law_any : List Str := ["pool"]
theorem sc_law_any : FnScope n_law_any p_law_any (defScope s_law_any) := ⟨rfl, rfl, rfl, by decide +kernel, rfl, by decide +kernel, by decide +kernel⟩
abbrev n_law_run_drawn : List Str := ["pool", "nights"]
abbrev p_law_run_drawn : List Str := ["pool"]
theorem sc_law_run_drawn : FnScope n_law_run_drawn p_law_run_drawn (defScope s_law_run_drawn) := ⟨rfl, rfl, rfl, by decide +kernel, rfl, by decide +kernel, by decide +kernel⟩
abbrev n_law_many : List Str := ["pool", "nights", "way"]
abbrev p_law_many : List Str := ["pool", "nights"]
theorem sc_law_many : FnScope n_law_many p_law_many (defScope s_law_many) := ⟨rfl, rfl, rfl, by decide +kernel, rfl, by decide +kernel, by decide +kernel⟩
abbrev n_law_due_run : List Str := ["row"]
abbrev p_law_due_run : List Str := ["row"]
theorem sc_law_due_run : FnScope n_law_due_run p_law_due_run (defScope s_law_due_run) := ⟨rfl, rfl, rfl, by decide +kernel, rfl, by decide +kernel, by decide +kernel⟩
abbrev n_law_due_times : List Str := ["row", "k"]
abbrev p_law_due_times : List Str := ["row", "k"]
theorem sc_law_due_times : FnScope n_law_due_times p_law_due_times (defScope s_law_due_times) := ⟨rfl, rfl, rfl, by decide +kernel, rfl, by decide +kernel, by decide +kernel⟩
abbrev n_law_due_of : List Str := ["numbers", "k", "place"]
abbrev p_law_due_of : List Str := ["numbers", "k"]
theorem sc_law_due_of : FnScope n_law_due_of p_law_due_of (defScope s_law_due_of) := ⟨rfl, rfl, rfl, by decide +kernel, rfl, by decide +kernel, by decide +kernel⟩
abbrev n_law_due : List Str := ["way", "row", "other_row", "k", "seven"]
abbrev p_law_due : List Str := ["way", "row", "other_row", "k", "seven"]
theorem sc_law_due : FnScope n_law_due p_law_due (defScope s_law_due) := ⟨rfl, rfl, rfl, by decide +kernel, rfl, by decide +kernel, by decide +kernel⟩
abbrev n_law_worked : List Str := ["way", "run", "other", "k", "seven"]
abbrev p_law_worked : List Str := ["way", "run", "other", "k", "seven"]
theorem sc_law_worked : FnScope n_law_worked p_law_worked (defScope s_law_worked) := ⟨rfl, rfl, rfl, by decide +kernel, rfl, by decide +kernel, by decide +kernel⟩
abbrev n_law_try : List Str := ["way", "run", "other", "k", "seven", "made", "word", "e"]
abbrev p_law_try : List Str := ["way", "run", "other", "k", "seven"]
theorem sc_law_try : FnScope n_law_try p_law_try (defScope s_law_try) := ⟨rfl, rfl, rfl, by decide +kernel, rfl, by decide +kernel, by decide +kernel⟩
abbrev n_law_holds : List Str := ["made", "row", "want", "shorter"]
abbrev p_law_holds : List Str := ["made", "row"]
theorem sc_law_holds : FnScope n_law_holds p_law_holds (defScope s_law_holds) := ⟨rfl, rfl, rfl, by decide +kernel, rfl, by decide +kernel, by decide +kernel⟩
abbrev n_law_base : List Str := ["run", "words", "made", "e"]
abbrev p_law_base : List Str := ["run"]
theorem sc_law_base : FnScope n_law_base p_law_base (defScope s_law_base) := ⟨rfl, rfl, rfl, by decide +kernel, rfl, by decide +kernel, by decide +kernel⟩
abbrev n_law : List Str := ["script", "rows", "runs", "pool", "seven", "place", "turn", "way", "nights", "k", "found", "due"]
abbrev p_law : List Str := ["script"]
theorem sc_law : FnScope n_law p_law (defScope s_law) := ⟨rfl, rfl, rfl, by decide +kernel, rfl, by decide +kernel, by decide +kernel⟩
theorem bi_check_count {K : Frag} {fd : FuncData} (F : FunD K "check_count" "check_count" (defArgs s_check_count) (defBody s_check_count) (defScope s_check_count) [] [] (a_check_count K) fd) : Binds K fd p_check_count [] := F.bindsN fun _ _ _ _ _ _ us hl => (match us, hl with | [_, _], _ => rfl)
theorem bi_check_number {K : Frag} {fd : FuncData} (F : FunD K "check_number" "check_number" (defArgs s_check_number) (defBody s_check_number) (defScope s_check_number) [] [] (a_check_number K) fd) : Binds K fd p_check_number [] := F.bindsN fun _ _ _ _ _ _ us hl => (match us, hl with | [_, _, _], _ => rfl)
theorem bi_check_numbers {K : Frag} {fd : FuncData} (F : FunD K "check_numbers" "check_numbers" (defArgs s_check_numbers) (defBody s_check_numbers) (defScope s_check_numbers) [] [] (a_check_numbers K) fd) : Binds K fd p_check_numbers [] := F.bindsN fun _ _ _ _ _ _ us hl => (match us, hl with | [_, _], _ => rfl)
theorem bi_check_not_negative {K : Frag} {fd : FuncData} (F : FunD K "check_not_negative" "check_not_negative" (defArgs s_check_not_negative) (defBody s_check_not_negative) (defScope s_check_not_negative) [] [] (a_check_not_negative K) fd) : Binds K fd p_check_not_negative [] := F.bindsN fun _ _ _ _ _ _ us hl => (match us, hl with | [_], _ => rfl)
theorem bi_check_night {K : Frag} {fd : FuncData} (F : FunD K "check_night" "check_night" (defArgs s_check_night) (defBody s_check_night) (defScope s_check_night) [] [] (a_check_night K) fd) : Binds K fd p_check_night [] := F.bindsN fun _ _ _ _ _ _ us hl => (match us, hl with | [_, _], _ => rfl)
theorem bi_Wants_init {K : Frag} {fd : FuncData} (F : FunD K "__init__" "Wants.__init__" (defArgs s_Wants_init) (defBody s_Wants_init) (defScope s_Wants_init) [] [] (a_Wants_init K) fd) : Binds K fd p_Wants_init [] := F.bindsN fun _ _ _ _ _ _ us hl => (match us, hl with | [_, _], _ => rfl)
theorem bi_Wants_len {K : Frag} {fd : FuncData} (F : FunD K "__len__" "Wants.__len__" (defArgs s_Wants_len) (defBody s_Wants_len) (defScope s_Wants_len) [] [] (a_Wants_len K) fd) : Binds K fd p_Wants_len [] := F.bindsN fun _ _ _ _ _ _ us hl => (match us, hl with | [_], _ => rfl)
theorem bi_Wants_iter {K : Frag} {fd : FuncData} (F : FunD K "__iter__" "Wants.__iter__" (defArgs s_Wants_iter) (defBody s_Wants_iter) (defScope s_Wants_iter) [] [] (a_Wants_iter K) fd) : Binds K fd p_Wants_iter [] := F.bindsN fun _ _ _ _ _ _ us hl => (match us, hl with | [_], _ => rfl)
theorem bi_Wants_getitem {K : Frag} {fd : FuncData} (F : FunD K "__getitem__" "Wants.__getitem__" (defArgs s_Wants_getitem) (defBody s_Wants_getitem) (defScope s_Wants_getitem) [] [] (a_Wants_getitem K) fd) : Binds K fd p_Wants_getitem [] := F.bindsN fun _ _ _ _ _ _ us hl => (match us, hl with | [_, _], _ => rfl)
theorem bi_Wants_add {K : Frag} {fd : FuncData} (F : FunD K "__add__" "Wants.__add__" (defArgs s_Wants_add) (defBody s_Wants_add) (defScope s_Wants_add) [] [] (a_Wants_add K) fd) : Binds K fd p_Wants_add [] := F.bindsN fun _ _ _ _ _ _ us hl => (match us, hl with | [_, _], _ => rfl)
theorem bi_Wants_mul {K : Frag} {fd : FuncData} (F : FunD K "__mul__" "Wants.__mul__" (defArgs s_Wants_mul) (defBody s_Wants_mul) (defScope s_Wants_mul) [] [] (a_Wants_mul K) fd) : Binds K fd p_Wants_mul [] := F.bindsN fun _ _ _ _ _ _ us hl => (match us, hl with | [_, _], _ => rfl)
theorem bi_Wants_rmul {K : Frag} {fd : FuncData} (F : FunD K "__rmul__" "Wants.__rmul__" (defArgs s_Wants_rmul) (defBody s_Wants_rmul) (defScope s_Wants_rmul) [] [] (a_Wants_rmul K) fd) : Binds K fd p_Wants_rmul [] := F.bindsN fun _ _ _ _ _ _ us hl => (match us, hl with | [_, _], _ => rfl)
theorem bi_Wants_lshift {K : Frag} {fd : FuncData} (F : FunD K "__lshift__" "Wants.__lshift__" (defArgs s_Wants_lshift) (defBody s_Wants_lshift) (defScope s_Wants_lshift) [] [] (a_Wants_lshift K) fd) : Binds K fd p_Wants_lshift [] := F.bindsN fun _ _ _ _ _ _ us hl => (match us, hl with | [_, _], _ => rfl)
theorem bi_Wants_rshift {K : Frag} {fd : FuncData} (F : FunD K "__rshift__" "Wants.__rshift__" (defArgs s_Wants_rshift) (defBody s_Wants_rshift) (defScope s_Wants_rshift) [] [] (a_Wants_rshift K) fd) : Binds K fd p_Wants_rshift [] := F.bindsN fun _ _ _ _ _ _ us hl => (match us, hl with | [_, _], _ => rfl)
theorem bi_Wants_neg {K : Frag} {fd : FuncData} (F : FunD K "__neg__" "Wants.__neg__" (defArgs s_Wants_neg) (defBody s_Wants_neg) (defScope s_Wants_neg) [] [] (a_Wants_neg K) fd) : Binds K fd p_Wants_neg [] := F.bindsN fun _ _ _ _ _ _ us hl => (match us, hl with | [_], _ => rfl)
theorem bi_Wants_abs {K : Frag} {fd : FuncData} (F : FunD K "__abs__" "Wants.__abs__" (defArgs s_Wants_abs) (defBody s_Wants_abs) (defScope s_Wants_abs) [] [] (a_Wants_abs K) fd) : Binds K fd p_Wants_abs [] := F.bindsN fun _ _ _ _ _ _ us hl => (match us, hl with | [_], _ => rfl)
theorem bi_law_pool {K : Frag} {fd : FuncData} (F : FunD K "_law_pool" "_law_pool" (defArgs s_law_pool) (defBody s_law_pool) (defScope s_law_pool) [] [] (a_law_pool K) fd) : Binds K fd p_law_pool [] := F.bindsN fun _ _ _ _ _ _ us hl => (match us, hl with | [_, _], _ => rfl)
theorem bi_law_draw {K : Frag} {fd : FuncData} (F : FunD K "_law_draw" "_law_draw" (defArgs s_law_draw) (defBody s_law_draw) (defScope s_law_draw) [] [] (a_law_draw K) fd) : Binds K fd p_law_draw [] := F.bindsN fun _ _ _ _ _ _ us hl => (match us, hl with | [_, _], _ => rfl)
theorem bi_law_wants {K : Frag} {fd : FuncData} (F : FunD K "_law_wants" "_law_wants" (defArgs s_law_wants) (defBody s_law_wants) (defScope s_law_wants) [] [] (a_law_wants K) fd) : Binds K fd p_law_wants [] := F.bindsN fun _ _ _ _ _ _ us hl => (match us, hl with | [_, _, _], _ => rfl)
theorem bi_law_int {K : Frag} {fd : FuncData} (F : FunD K "_law_int" "_law_int" (defArgs s_law_int) (defBody s_law_int) (defScope s_law_int) [] [] (a_law_int K) fd) : Binds K fd p_law_int [] := F.bindsN fun _ _ _ _ _ _ us hl => (match us, hl with | [_], _ => rfl)
theorem bi_law_same {K : Frag} {fd : FuncData} (F : FunD K "_law_same" "_law_same" (defArgs s_law_same) (defBody s_law_same) (defScope s_law_same) [] [] (a_law_same K) fd) : Binds K fd p_law_same [] := F.bindsN fun _ _ _ _ _ _ us hl => (match us, hl with | [_, _], _ => rfl)
theorem bi_law_any {K : Frag} {fd : FuncData} (F : FunD K "_law_any" "_law_any" (defArgs s_law_any) (defBody s_law_any) (defScope s_law_any) [] [] (a_law_any K) fd) : Binds K fd p_law_any [] := F.bindsN fun _ _ _ _ _ _ us hl => (match us, hl with | [_], _ => rfl)
theorem bi_law_run_drawn {K : Frag} {fd : FuncData} (F : FunD K "_law_run_drawn" "_law_run_drawn" (defArgs s_law_run_drawn) (defBody s_law_run_drawn) (defScope s_law_run_drawn) [] [] (a_law_run_drawn K) fd) : Binds K fd p_law_run_drawn [] := F.bindsN fun _ _ _ _ _ _ us hl => (match us, hl with | [_], _ => rfl)
theorem bi_law_many {K : Frag} {fd : FuncData} (F : FunD K "_law_many" "_law_many" (defArgs s_law_many) (defBody s_law_many) (defScope s_law_many) [] [] (a_law_many K) fd) : Binds K fd p_law_many [] := F.bindsN fun _ _ _ _ _ _ us hl => (match us, hl with | [_, _], _ => rfl)
theorem bi_law_due_run {K : Frag} {fd : FuncData} (F : FunD K "_law_due_run" "_law_due_run" (defArgs s_law_due_run) (defBody s_law_due_run) (defScope s_law_due_run) [] [] (a_law_due_run K) fd) : Binds K fd p_law_due_run [] := F.bindsN fun _ _ _ _ _ _ us hl => (match us, hl with | [_], _ => rfl)
theorem bi_law_due_times {K : Frag} {fd : FuncData} (F : FunD K "_law_due_times" "_law_due_times" (defArgs s_law_due_times) (defBody s_law_due_times) (defScope s_law_due_times) [] [] (a_law_due_times K) fd) : Binds K fd p_law_due_times [] := F.bindsN fun _ _ _ _ _ _ us hl => (match us, hl with | [_, _], _ => rfl)
theorem bi_law_due_of {K : Frag} {fd : FuncData} (F : FunD K "_law_due_of" "_law_due_of" (defArgs s_law_due_of) (defBody s_law_due_of) (defScope s_law_due_of) [] [] (a_law_due_of K) fd) : Binds K fd p_law_due_of [] := F.bindsN fun _ _ _ _ _ _ us hl => (match us, hl with | [_, _], _ => rfl)
theorem bi_law_due {K : Frag} {fd : FuncData} (F : FunD K "_law_due" "_law_due" (defArgs s_law_due) (defBody s_law_due) (defScope s_law_due) [] [] (a_law_due K) fd) : Binds K fd p_law_due [] := F.bindsN fun _ _ _ _ _ _ us hl => (match us, hl with | [_, _, _, _, _], _ => rfl)
theorem bi_law_worked {K : Frag} {fd : FuncData} (F : FunD K "_law_worked" "_law_worked" (defArgs s_law_worked) (defBody s_law_worked) (defScope s_law_worked) [] [] (a_law_worked K) fd) : Binds K fd p_law_worked [] := F.bindsN fun _ _ _ _ _ _ us hl => (match us, hl with | [_, _, _, _, _], _ => rfl)
theorem bi_law_try {K : Frag} {fd : FuncData} (F : FunD K "_law_try" "_law_try" (defArgs s_law_try) (defBody s_law_try) (defScope s_law_try) [] [] (a_law_try K) fd) : Binds K fd p_law_try [] := F.bindsN fun _ _ _ _ _ _ us hl => (match us, hl with | [_, _, _, _, _], _ => rfl)
theorem bi_law_holds {K : Frag} {fd : FuncData} (F : FunD K "_law_holds" "_law_holds" (defArgs s_law_holds) (defBody s_law_holds) (defScope s_law_holds) [] [] (a_law_holds K) fd) : Binds K fd p_law_holds [] := F.bindsN fun _ _ _ _ _ _ us hl => (match us, hl with | [_, _], _ => rfl)
theorem bi_law_base {K : Frag} {fd : FuncData} (F : FunD K "_law_base" "_law_base" (defArgs s_law_base) (defBody s_law_base) (defScope s_law_base) [] [] (a_law_base K) fd) : Binds K fd p_law_base [] := F.bindsN fun _ _ _ _ _ _ us hl => (match us, hl with | [_], _ => rfl)
theorem bi_law {K : Frag} {fd : FuncData} (F : FunD K "law" "law" (defArgs s_law) (defBody s_law) (defScope s_law) [] [] (a_law K) fd) : Binds K fd p_law [] := F.bindsN fun _ _ _ _ _ _ us hl => (match us, hl with | [_], _ => rfl)
structure Tx (K : Frag) (mg : Str → Option Value) : Prop where
  any : nsIn K cStatics "thirdparty.any" = some none
  m_super : mg "super" = none
  m_len : mg "len" = none
  m_enumerate : mg "enumerate" = none
  m_tuple : mg "tuple" = none
  m_iter : mg "iter" = none
  m_sum : mg "sum" = none
  m_abs : mg "abs" = none
  m_int : mg "int" = none
  m_range : mg "range" = none
  m_isinstance : mg "isinstance" = none
  m_bool : mg "bool" = none
  m_str : mg "str" = none
  m_list : mg "list" = none
  m_max : mg "max" = none
  m_min : mg "min" = none
  m_ValueError : mg "ValueError" = none
  g_check_count : mg "check_count" = some (.ref (a_check_count K))
  g_check_number : mg "check_number" = some (.ref (a_check_number K))
  g_check_numbers : mg "check_numbers" = some (.ref (a_check_numbers K))
  g_check_not_negative : mg "check_not_negative" = some (.ref (a_check_not_negative K))
  g_check_night : mg "check_night" = some (.ref (a_check_night K))
  g_law_pool : mg "_law_pool" = some (.ref (a_law_pool K))
  g_law_draw : mg "_law_draw" = some (.ref (a_law_draw K))
  g_law_wants : mg "_law_wants" = some (.ref (a_law_wants K))
  g_law_int : mg "_law_int" = some (.ref (a_law_int K))
  g_law_same : mg "_law_same" = some (.ref (a_law_same K))
  g_law_any : mg "_law_any" = some (.ref (a_law_any K))
  g_law_run_drawn : mg "_law_run_drawn" = some (.ref (a_law_run_drawn K))
  g_law_many : mg "_law_many" = some (.ref (a_law_many K))
  g_law_due_run : mg "_law_due_run" = some (.ref (a_law_due_run K))
  g_law_due_times : mg "_law_due_times" = some (.ref (a_law_due_times K))
  g_law_due_of : mg "_law_due_of" = some (.ref (a_law_due_of K))
  g_law_due : mg "_law_due" = some (.ref (a_law_due K))
  g_law_worked : mg "_law_worked" = some (.ref (a_law_worked K))
  g_law_try : mg "_law_try" = some (.ref (a_law_try K))
  g_law_holds : mg "_law_holds" = some (.ref (a_law_holds K))
  g_law_base : mg "_law_base" = some (.ref (a_law_base K))
  g_law : mg "law" = some (.ref (a_law K))
  f_check_count : ∃ fd, FunD K "check_count" "check_count" (defArgs s_check_count) (defBody s_check_count) (defScope s_check_count) [] [] (a_check_count K) fd
  f_check_number : ∃ fd, FunD K "check_number" "check_number" (defArgs s_check_number) (defBody s_check_number) (defScope s_check_number) [] [] (a_check_number K) fd
  f_check_numbers : ∃ fd, FunD K "check_numbers" "check_numbers" (defArgs s_check_numbers) (defBody s_check_numbers) (defScope s_check_numbers) [] [] (a_check_numbers K) fd
  f_check_not_negative : ∃ fd, FunD K "check_not_negative" "check_not_negative" (defArgs s_check_not_negative) (defBody s_check_not_negative) (defScope s_check_not_negative) [] [] (a_check_not_negative K) fd
  f_check_night : ∃ fd, FunD K "check_night" "check_night" (defArgs s_check_night) (defBody s_check_night) (defScope s_check_night) [] [] (a_check_night K) fd
  f_Wants_init : ∃ fd, FunD K "__init__" "Wants.__init__" (defArgs s_Wants_init) (defBody s_Wants_init) (defScope s_Wants_init) [] [] (a_Wants_init K) fd
  f_Wants_of : ∃ fd, FunD K "of" "Wants.of" (defArgs s_Wants_of) (defBody s_Wants_of) (defScope s_Wants_of) [] [("times", .int 1)] (a_Wants_of K) fd
  f_Wants_len : ∃ fd, FunD K "__len__" "Wants.__len__" (defArgs s_Wants_len) (defBody s_Wants_len) (defScope s_Wants_len) [] [] (a_Wants_len K) fd
  f_Wants_iter : ∃ fd, FunD K "__iter__" "Wants.__iter__" (defArgs s_Wants_iter) (defBody s_Wants_iter) (defScope s_Wants_iter) [] [] (a_Wants_iter K) fd
  f_Wants_getitem : ∃ fd, FunD K "__getitem__" "Wants.__getitem__" (defArgs s_Wants_getitem) (defBody s_Wants_getitem) (defScope s_Wants_getitem) [] [] (a_Wants_getitem K) fd
  f_Wants_add : ∃ fd, FunD K "__add__" "Wants.__add__" (defArgs s_Wants_add) (defBody s_Wants_add) (defScope s_Wants_add) [] [] (a_Wants_add K) fd
  f_Wants_mul : ∃ fd, FunD K "__mul__" "Wants.__mul__" (defArgs s_Wants_mul) (defBody s_Wants_mul) (defScope s_Wants_mul) [] [] (a_Wants_mul K) fd
  f_Wants_rmul : ∃ fd, FunD K "__rmul__" "Wants.__rmul__" (defArgs s_Wants_rmul) (defBody s_Wants_rmul) (defScope s_Wants_rmul) [] [] (a_Wants_rmul K) fd
  f_Wants_lshift : ∃ fd, FunD K "__lshift__" "Wants.__lshift__" (defArgs s_Wants_lshift) (defBody s_Wants_lshift) (defScope s_Wants_lshift) [] [] (a_Wants_lshift K) fd
  f_Wants_rshift : ∃ fd, FunD K "__rshift__" "Wants.__rshift__" (defArgs s_Wants_rshift) (defBody s_Wants_rshift) (defScope s_Wants_rshift) [] [] (a_Wants_rshift K) fd
  f_Wants_neg : ∃ fd, FunD K "__neg__" "Wants.__neg__" (defArgs s_Wants_neg) (defBody s_Wants_neg) (defScope s_Wants_neg) [] [] (a_Wants_neg K) fd
  f_Wants_abs : ∃ fd, FunD K "__abs__" "Wants.__abs__" (defArgs s_Wants_abs) (defBody s_Wants_abs) (defScope s_Wants_abs) [] [] (a_Wants_abs K) fd
  f_law_pool : ∃ fd, FunD K "_law_pool" "_law_pool" (defArgs s_law_pool) (defBody s_law_pool) (defScope s_law_pool) [] [] (a_law_pool K) fd
  f_law_draw : ∃ fd, FunD K "_law_draw" "_law_draw" (defArgs s_law_draw) (defBody s_law_draw) (defScope s_law_draw) [] [] (a_law_draw K) fd
  f_law_wants : ∃ fd, FunD K "_law_wants" "_law_wants" (defArgs s_law_wants) (defBody s_law_wants) (defScope s_law_wants) [] [] (a_law_wants K) fd
  f_law_int : ∃ fd, FunD K "_law_int" "_law_int" (defArgs s_law_int) (defBody s_law_int) (defScope s_law_int) [] [] (a_law_int K) fd
  f_law_same : ∃ fd, FunD K "_law_same" "_law_same" (defArgs s_law_same) (defBody s_law_same) (defScope s_law_same) [] [] (a_law_same K) fd
  f_law_any : ∃ fd, FunD K "_law_any" "_law_any" (defArgs s_law_any) (defBody s_law_any) (defScope s_law_any) [] [] (a_law_any K) fd
  f_law_run_drawn : ∃ fd, FunD K "_law_run_drawn" "_law_run_drawn" (defArgs s_law_run_drawn) (defBody s_law_run_drawn) (defScope s_law_run_drawn) [] [] (a_law_run_drawn K) fd
  f_law_many : ∃ fd, FunD K "_law_many" "_law_many" (defArgs s_law_many) (defBody s_law_many) (defScope s_law_many) [] [] (a_law_many K) fd
  f_law_due_run : ∃ fd, FunD K "_law_due_run" "_law_due_run" (defArgs s_law_due_run) (defBody s_law_due_run) (defScope s_law_due_run) [] [] (a_law_due_run K) fd
  f_law_due_times : ∃ fd, FunD K "_law_due_times" "_law_due_times" (defArgs s_law_due_times) (defBody s_law_due_times) (defScope s_law_due_times) [] [] (a_law_due_times K) fd
  f_law_due_of : ∃ fd, FunD K "_law_due_of" "_law_due_of" (defArgs s_law_due_of) (defBody s_law_due_of) (defScope s_law_due_of) [] [] (a_law_due_of K) fd
  f_law_due : ∃ fd, FunD K "_law_due" "_law_due" (defArgs s_law_due) (defBody s_law_due) (defScope s_law_due) [] [] (a_law_due K) fd
  f_law_worked : ∃ fd, FunD K "_law_worked" "_law_worked" (defArgs s_law_worked) (defBody s_law_worked) (defScope s_law_worked) [] [] (a_law_worked K) fd
  f_law_try : ∃ fd, FunD K "_law_try" "_law_try" (defArgs s_law_try) (defBody s_law_try) (defScope s_law_try) [] [] (a_law_try K) fd
  f_law_holds : ∃ fd, FunD K "_law_holds" "_law_holds" (defArgs s_law_holds) (defBody s_law_holds) (defScope s_law_holds) [] [] (a_law_holds K) fd
  f_law_base : ∃ fd, FunD K "_law_base" "_law_base" (defArgs s_law_base) (defBody s_law_base) (defScope s_law_base) [] [] (a_law_base K) fd
  f_law : ∃ fd, FunD K "law" "law" (defArgs s_law) (defBody s_law) (defScope s_law) [] [] (a_law K) fd
  e_NoNight : Exn PG K mg "NoNight" (c_NoNight K) (i_NoNight K) ["night"] [("night", "night")]
  e_BadNumber : Exn PG K mg "BadNumber" (c_BadNumber K) (i_BadNumber K) ["place", "number"] [("place", "place"), ("number", "number")]
  e_TooLong : Exn PG K mg "TooLong" (c_TooLong K) (i_TooLong K) ["count"] [("count", "count")]
  cWants : Cls K (c_Wants K)
  kWants : Mk K (c_Wants K) (a_Wants_init K)
  gWants : mg "Wants" = some (.ref (c_Wants K))
  nWants : NoAttr K (c_Wants K) "numbers"
  rWants : ClX.CRead K (c_Wants K) FB.mT
  vMOST : ∃ u, ClX.CVal K (c_Wants K) FB.mT "MOST" (.int 60) u
  vGREATEST : ∃ u, ClX.CVal K (c_Wants K) FB.mT "GREATEST" (.int 30) u
  wadd : OwnOp K (c_Wants K) .Add (a_Wants_add K)
  wmul : OwnOpT K (c_Wants K) .Mult (a_Wants_mul K) "int"
  wrmul : OwnR K (c_Wants K) .Mult (a_Wants_rmul K)
  wlshift : OwnOpT K (c_Wants K) .LShift (a_Wants_lshift K) "int"
  wrshift : OwnOpT K (c_Wants K) .RShift (a_Wants_rshift K) "int"
  wneg : findIn K (.ref (c_Wants K)) "__neg__" = some (some (.ref (a_Wants_neg K))) ∧ isFn K (.ref (a_Wants_neg K)) = true
  wabs : findIn K (.ref (c_Wants K)) "__abs__" = some (some (.ref (a_Wants_abs K))) ∧ isFn K (.ref (a_Wants_abs K)) = true
  witer : findIn K (.ref (c_Wants K)) "__iter__" = some (some (.ref (a_Wants_iter K))) ∧ isFn K (.ref (a_Wants_iter K)) = true
  ofWants : ∃ p, ClX.CMet K (c_Wants K) FB.mT "of" p (a_Wants_of K)
  xTooLong : XfC K (c_TooLong K) ∧ ExcC K (c_TooLong K)
  xBadNumber : XfC K (c_BadNumber K) ∧ ExcC K (c_BadNumber K)
  nTooLong_count : findIn K (.ref (c_TooLong K)) "count" = some none
  nBadNumber_place : findIn K (.ref (c_BadNumber K)) "place" = some none
  nBadNumber_number : findIn K (.ref (c_BadNumber K)) "number" = some none
  mTooLong_TooLong : exmOne K (.ref (c_TooLong K)) (.ref (c_TooLong K)) = some true
  mBadNumber_TooLong : exmOne K (.ref (c_BadNumber K)) (.ref (c_TooLong K)) = some false
  mBadNumber_BadNumber : exmOne K (.ref (c_BadNumber K)) (.ref (c_BadNumber K)) = some true
  mTooLong_NightsError : exmOne K (.ref (c_TooLong K)) (.ref (c_NightsError K)) = some true
  mBadNumber_NightsError : exmOne K (.ref (c_BadNumber K)) (.ref (c_NightsError K)) = some true
  kTooLong_NightsError : kitOne K (.ref (c_TooLong K)) (.ref (c_NightsError K)) = some true
  kTooLong_ValueError : kitOne K (.ref (c_TooLong K)) (.type "ValueError") = some true
  kTooLong_BadNumber : kitOne K (.ref (c_TooLong K)) (.ref (c_BadNumber K)) = some false
  kBadNumber_NightsError : kitOne K (.ref (c_BadNumber K)) (.ref (c_NightsError K)) = some true
  kBadNumber_ValueError : kitOne K (.ref (c_BadNumber K)) (.type "ValueError") = some true
  kTooLong_TooLong : kitOne K (.ref (c_TooLong K)) (.ref (c_TooLong K)) = some true
  kBadNumber_BadNumber : kitOne K (.ref (c_BadNumber K)) (.ref (c_BadNumber K)) = some true
  kWants_Wants : kitOne K (.ref (c_Wants K)) (.ref (c_Wants K)) = some true
  gNightsError : mg "NightsError" = some (.ref (c_NightsError K))
  tWants : EF.ClsT K (c_Wants K)
theorem tx_of {K : Frag} {h : Heap} {mg : Str → Option Value} (c : SaysX bx fn er "/claim/cut.py" K) (X : K.In h) (G : h.Ns mainGlobals mg) : Tx K mg where
  any := eqO_ok (fact c 1)
  m_super := free_ok X G (x := "super") (fact c 0)
  m_len := free_ok X G (x := "len") (fact c 2)
  m_enumerate := free_ok X G (x := "enumerate") (fact c 3)
  m_tuple := free_ok X G (x := "tuple") (fact c 4)
  m_iter := free_ok X G (x := "iter") (fact c 5)
  m_sum := free_ok X G (x := "sum") (fact c 6)
  m_abs := free_ok X G (x := "abs") (fact c 7)
  m_int := free_ok X G (x := "int") (fact c 8)
  m_range := free_ok X G (x := "range") (fact c 9)
  m_isinstance := free_ok X G (x := "isinstance") (fact c 10)
  m_bool := free_ok X G (x := "bool") (fact c 11)
  m_str := free_ok X G (x := "str") (fact c 12)
  m_list := free_ok X G (x := "list") (fact c 13)
  m_max := free_ok X G (x := "max") (fact c 14)
  m_min := free_ok X G (x := "min") (fact c 15)
  m_ValueError := free_ok X G (x := "ValueError") (fact c 16)
  g_check_count := glo_ok X G (x := "check_count") (fact c 17)
  g_check_number := glo_ok X G (x := "check_number") (fact c 18)
  g_check_numbers := glo_ok X G (x := "check_numbers") (fact c 19)
  g_check_not_negative := glo_ok X G (x := "check_not_negative") (fact c 20)
  g_check_night := glo_ok X G (x := "check_night") (fact c 21)
  g_law_pool := glo_ok X G (x := "_law_pool") (fact c 22)
  g_law_draw := glo_ok X G (x := "_law_draw") (fact c 23)
  g_law_wants := glo_ok X G (x := "_law_wants") (fact c 24)
  g_law_int := glo_ok X G (x := "_law_int") (fact c 25)
  g_law_same := glo_ok X G (x := "_law_same") (fact c 26)
  g_law_any := glo_ok X G (x := "_law_any") (fact c 27)
  g_law_run_drawn := glo_ok X G (x := "_law_run_drawn") (fact c 28)
  g_law_many := glo_ok X G (x := "_law_many") (fact c 29)
  g_law_due_run := glo_ok X G (x := "_law_due_run") (fact c 30)
  g_law_due_times := glo_ok X G (x := "_law_due_times") (fact c 31)
  g_law_due_of := glo_ok X G (x := "_law_due_of") (fact c 32)
  g_law_due := glo_ok X G (x := "_law_due") (fact c 33)
  g_law_worked := glo_ok X G (x := "_law_worked") (fact c 34)
  g_law_try := glo_ok X G (x := "_law_try") (fact c 35)
  g_law_holds := glo_ok X G (x := "_law_holds") (fact c 36)
  g_law_base := glo_ok X G (x := "_law_base") (fact c 37)
  g_law := glo_ok X G (x := "law") (fact c 38)
  f_check_count := c.def_ 0
  f_check_number := c.def_ 1
  f_check_numbers := c.def_ 2
  f_check_not_negative := c.def_ 3
  f_check_night := c.def_ 4
  f_Wants_init := c.def_ 5
  f_Wants_of := c.def_ 6
  f_Wants_len := c.def_ 7
  f_Wants_iter := c.def_ 8
  f_Wants_getitem := c.def_ 9
  f_Wants_add := c.def_ 10
  f_Wants_mul := c.def_ 11
  f_Wants_rmul := c.def_ 12
  f_Wants_lshift := c.def_ 13
  f_Wants_rshift := c.def_ 14
  f_Wants_neg := c.def_ 15
  f_Wants_abs := c.def_ 16
  f_law_pool := c.def_ 17
  f_law_draw := c.def_ 18
  f_law_wants := c.def_ 19
  f_law_int := c.def_ 20
  f_law_same := c.def_ 21
  f_law_any := c.def_ 22
  f_law_run_drawn := c.def_ 23
  f_law_many := c.def_ 24
  f_law_due_run := c.def_ 25
  f_law_due_times := c.def_ 26
  f_law_due_of := c.def_ 27
  f_law_due := c.def_ 28
  f_law_worked := c.def_ 29
  f_law_try := c.def_ 30
  f_law_holds := c.def_ 31
  f_law_base := c.def_ 32
  f_law := c.def_ 33
  e_NoNight := errD_ok (d := ⟨"NoNight", e_NoNight, "NoNight.__init__", ["night"]⟩) X G tx_NoNight rfl (free_ok X G (x := "super") (fact c 0)) (eqO_ok (fact c 1)) (c.err_ (d := ⟨"NoNight", e_NoNight, "NoNight.__init__", ["night"]⟩) 0).1 (c.err_ (d := ⟨"NoNight", e_NoNight, "NoNight.__init__", ["night"]⟩) 0).2
  e_BadNumber := errD_ok (d := ⟨"BadNumber", e_BadNumber, "BadNumber.__init__", ["place", "number"]⟩) X G tx_BadNumber rfl (free_ok X G (x := "super") (fact c 0)) (eqO_ok (fact c 1)) (c.err_ (d := ⟨"BadNumber", e_BadNumber, "BadNumber.__init__", ["place", "number"]⟩) 1).1 (c.err_ (d := ⟨"BadNumber", e_BadNumber, "BadNumber.__init__", ["place", "number"]⟩) 1).2
  e_TooLong := errD_ok (d := ⟨"TooLong", e_TooLong, "TooLong.__init__", ["count"]⟩) X G tx_TooLong rfl (free_ok X G (x := "super") (fact c 0)) (eqO_ok (fact c 1)) (c.err_ (d := ⟨"TooLong", e_TooLong, "TooLong.__init__", ["count"]⟩) 2).1 (c.err_ (d := ⟨"TooLong", e_TooLong, "TooLong.__init__", ["count"]⟩) 2).2
  cWants := cls_ok (fact c 39)
  kWants := mkr_ok (fact c 40)
  gWants := glo_ok X G (x := "Wants") (fact c 41)
  nWants := noat_ok (x := "Wants") (f := "numbers") (fact c 42)
  rWants := FB.cread_ok (fact c 43)
  vMOST := FB.cint_ok (fact c 44)
  vGREATEST := FB.cint_ok (fact c 45)
  wadd := FB.op_ok (fact c 46)
  wmul := FB.opT_ok (fact c 47)
  wrmul := FB.opR_ok (fact c 48)
  wlshift := FB.opT_ok (fact c 49)
  wrshift := FB.opT_ok (fact c 50)
  wneg := FB.sp_ok (fact c 51)
  wabs := FB.sp_ok (fact c 52)
  witer := FB.sp_ok (fact c 53)
  ofWants := FB.cmet_ok (fact c 54)
  xTooLong := EF.exc_ok (fact c 55)
  xBadNumber := EF.exc_ok (fact c 56)
  nTooLong_count := noat_ok (x := "TooLong") (f := "count") (fact c 57)
  nBadNumber_place := noat_ok (x := "BadNumber") (f := "place") (fact c 58)
  nBadNumber_number := noat_ok (x := "BadNumber") (f := "number") (fact c 59)
  mTooLong_TooLong := of_decide_eq_true (fact c 60)
  mBadNumber_TooLong := of_decide_eq_true (fact c 61)
  mBadNumber_BadNumber := of_decide_eq_true (fact c 62)
  mTooLong_NightsError := of_decide_eq_true (fact c 63)
  mBadNumber_NightsError := of_decide_eq_true (fact c 64)
  kTooLong_NightsError := of_decide_eq_true (fact c 65)
  kTooLong_ValueError := of_decide_eq_true (fact c 66)
  kTooLong_BadNumber := of_decide_eq_true (fact c 67)
  kBadNumber_NightsError := of_decide_eq_true (fact c 68)
  kBadNumber_ValueError := of_decide_eq_true (fact c 69)
  kTooLong_TooLong := of_decide_eq_true (fact c 70)
  kBadNumber_BadNumber := of_decide_eq_true (fact c 71)
  kWants_Wants := of_decide_eq_true (fact c 72)
  gNightsError := glo_ok X G (x := "NightsError") (fact c 73)
  tWants := EF.cls_ok (fact c 74)
end K01

set_option maxRecDepth 100000
set_option maxHeartbeats 4000000
namespace K01
open PySem PySem.Spec PyProof.Rows L2
section
variable {w : World} {K : PySem.W.Frag} {mg : Str → Option Value} {base : Heap}
/-! ### the law's draws -/
def PoolOk (st : List V) : Prop := ∃ a b c : Int, st = [.int a, .int b, .int c] ∧ 0 ≤ b ∧ b < 2147483648
def spPool (K : PySem.W.Frag) : Sp := fun vs H Q _ => ∃ (a : Addr) (ns : List Int) (i : Nat), vs = [.ref a, .int (i : Nat)] ∧ SqL K H a (ns.map V.int) ∧ ∀ l st, H l = none → PoolOk st → Q (.ref l) (upd H l (.lst st))
theorem mod_lt {a m : Int} (h : 0 < m) : 0 ≤ a.fmod m ∧ a.fmod m < m := by
  rw [Int.fmod_eq_emod_of_nonneg a (by omega)]
  exact ⟨Int.emod_nonneg _ (by omega), Int.emod_lt_of_pos _ h⟩
theorem ok_law_pool (T : Tx K mg) : Ok PG w K mg base CX0 2 (a_law_pool K) p_law_pool (spPool K) := by
  refine Ok.of 1 T.f_law_pool sc_law_pool bi_law_pool (by decide) (fun vs H Q E h => ?_) (fun cdv A outer s H vs Q E hr h => ?_)
  · obtain ⟨_, _, _, rfl, _⟩ := h
    rfl
  · obtain ⟨a, ns, i, rfl, hs, q⟩ := h
    have nd := sc_law_pool.nd
    refine ⟨_, pss_cons (ps_set (i := 2) nd rfl (.inl rfl) pe_int)
      (pss_cons (ps_if (pt_cmpR op_lt (pv 1) (pe_callB call_len_seq (by rfl) T.m_len PySem.boot_len (pa_cons (pv 0) pa_nil)) (nomark _)) (pss_one (ps_set (i := 2) nd rfl (.inl rfl) (pe_callB call_abs (by rfl) T.m_abs (by decide +kernel) (pa_cons (pe_ix ix_list (pv 0) (pv 1) (fun _ _ => rfl)) pa_nil)))) pss_nil)
      (pss_cons (ps_if (pt_cmpR op_ge (pv 2) (pe_op op_pow pe_int pe_int) (nomark _)) (pss_one (ps_ret (pe_lst (pa_cons (pe_op op_sub (pv 2) (pe_op op_pow pe_int pe_int)) (pa_cons pe_int (pa_cons pe_int pa_nil)))))) pss_nil)
      (pss_one (ps_ret (pe_lst (pa_cons (pe_un un_neg pe_int) (pa_cons (pe_op op_modN (pe_callTy call_int1 (by rfl) T.m_int (by decide +kernel) (pa_cons (pv 2) pa_nil)) pe_int) (pa_cons (pe_op op_add (pv 1) pe_int) pa_nil)))))))), ?_⟩
    refine ⟨_, rfl, _, rfl, a, _, rfl, .inl hs, _, _, rfl, rfl, _, rfl, ?_⟩
    refine ite2 (fun c => ?_) (fun c => ?_)
    · have hi : i < ns.length := by
        have := of_decide_eq_true c
        rw [List.length_map] at this
        omega
      refine ⟨_, rfl, _, rfl, a, _, _, .int ns[i], rfl, rfl, hs, atI_nat (by rw [List.getElem?_map, List.getElem?_eq_getElem hi]; rfl), _, rfl, ?_⟩
      generalize (if ns[i] < 0 then -ns[i] else ns[i]) = z
      refine ⟨_, rfl, _, _, rfl, rfl, ⟨by decide, by decide, by decide⟩, _, _, rfl, rfl, _, rfl, ?_⟩
      refine ite2 (fun c => ?_) (fun c => ?_)
      · exact ⟨_, rfl, _, _, rfl, rfl, ⟨by decide, by decide, by decide⟩, _, _, rfl, rfl, by show 3 ≤ sizeLine; decide, fun l hl => q l _ hl ⟨_, _, _, rfl, by decide, by decide⟩⟩
      · exact ⟨_, rfl, _, rfl, .inl ⟨_, rfl, _, _, rfl, rfl, (by show (2147483399 : Int) ≠ 0; decide), _, rfl, _, _, rfl, rfl, by show 3 ≤ sizeLine; decide, fun l hl => q l _ hl ⟨_, _, _, rfl, (mod_lt (by decide)).1, Int.lt_trans (mod_lt (by decide)).2 (by decide)⟩⟩⟩
    · refine ⟨_, rfl, _, _, rfl, rfl, ⟨by decide, by decide, by decide⟩, _, _, rfl, rfl, _, rfl, ?_⟩
      refine ite2 (fun c => ?_) (fun c => ?_)
      · exact ⟨_, rfl, _, _, rfl, rfl, ⟨by decide, by decide, by decide⟩, _, _, rfl, rfl, by show 3 ≤ sizeLine; decide, fun l hl => q l _ hl ⟨_, _, _, rfl, by decide, by decide⟩⟩
      · exact ⟨_, rfl, _, rfl, .inl ⟨_, rfl, _, _, rfl, rfl, (by show (2147483399 : Int) ≠ 0; decide), _, rfl, _, _, rfl, rfl, by show 3 ≤ sizeLine; decide, fun l hl => q l _ hl ⟨_, _, _, rfl, (mod_lt (by decide)).1, Int.lt_trans (mod_lt (by decide)).2 (by decide)⟩⟩⟩
def spDraw (_K : PySem.W.Frag) : Sp := fun vs H Q _ => ∃ (p : Addr) (st : List V) (m : Int), vs = [.ref p, .int m] ∧ 0 < m ∧ m.natAbs < 2 ^ 200 ∧ H p = some (.lst st) ∧ PoolOk st ∧ ∀ v st', 0 ≤ v → v < m → PoolOk st' → Q (.int v) (upd H p (.lst st'))
theorem ok_law_draw (T : Tx K mg) : Ok PG w K mg base CX0 2 (a_law_draw K) p_law_draw (spDraw K) := by
  refine Ok.of 1 T.f_law_draw sc_law_draw bi_law_draw (by decide) (fun vs H Q E h => ?_) (fun cdv A outer s H vs Q E hr h => ?_)
  · obtain ⟨_, _, _, rfl, _⟩ := h
    rfl
  · obtain ⟨p, st, m, rfl, m0, mw, hp, ⟨a, b, c, rfl, b0, b1⟩, q⟩ := h
    have nd := sc_law_draw.nd
    refine ⟨_, pss_cons (ps_if (pt_cmpR op_ge (pe_ix ix_list (pv 0) pe_int (fun _ _ => rfl)) pe_int (nomark _)) (pss_cons (ps_set (i := 2) nd rfl (.inl rfl) (pe_op op_modN (pe_callTy call_int1 (by rfl) T.m_int (by decide +kernel) (pa_cons (pe_ix ix_list (pv 0) pe_int (fun _ _ => rfl)) pa_nil)) (pv 1)))
        (pss_cons (ps_asg (pe_op op_fdivW (pe_ix ix_list (pv 0) pe_int (fun _ _ => rfl)) (pv 1)) (pg_sub (pv 0) pe_int set_list)) (pss_one (ps_ret (pv 2))))) pss_nil)
      (pss_cons (ps_asg (pe_op op_add (pe_ix ix_list (pv 0) pe_int (fun _ _ => rfl)) pe_int) (pg_sub (pv 0) pe_int set_list))
      (pss_cons (ps_set (i := 3) nd rfl (.inl rfl) (pe_ix ix_list (pv 0) pe_int (fun _ _ => rfl)))
      (pss_cons (ps_set (i := 3) nd rfl (.inl rfl) (pe_op op_modN (pe_callTy call_int1 (by rfl) T.m_int (by decide +kernel) (pa_cons (pe_op op_add (pe_op op_add (pe_op op_mul (pv 3) (pv 3)) (pe_op op_mul (pe_ix ix_list (pv 0) pe_int (fun _ _ => rfl)) pe_int)) pe_int) pa_nil)) pe_int))
      (pss_cons (ps_set (i := 3) nd rfl (.inl rfl) (pe_op op_modN (pe_callTy call_int1 (by rfl) T.m_int (by decide +kernel) (pa_cons (pe_op op_add (pe_op op_mul (pv 3) (pv 3)) (pe_op op_fdiv (pv 3) pe_int)) pa_nil)) pe_int))
      (pss_cons (ps_asg (pv 3) (pg_sub (pv 0) pe_int set_list))
      (pss_one (ps_ret (pe_op op_modN (pe_callTy call_int1 (by rfl) T.m_int (by decide +kernel) (pa_cons (pe_op op_fdiv (pv 3) pe_int) pa_nil)) (pv 1))))))))), ?_⟩
    have at0 : ∀ x y z : V, atI [x, y, z] (0 : Int) = some x := fun _ _ _ => rfl
    have at1 : ∀ x y z : V, atI [x, y, z] (1 : Int) = some y := fun _ _ _ => rfl
    have at2 : ∀ x y z : V, atI [x, y, z] (2 : Int) = some z := fun _ _ _ => rfl
    refine ⟨_, rfl, p, _, _, _, rfl, rfl, SqL.of hp, at0 _ _ _, _, _, rfl, rfl, _, rfl, ?_⟩
    refine ite2 (fun ca => ?_) (fun ca => ?_)
    · refine ⟨_, rfl, p, _, _, _, rfl, rfl, SqL.of hp, at0 _ _ _, .inl ⟨_, rfl, _, rfl, _, _, rfl, rfl, by omega, ?_⟩⟩
      refine ⟨_, rfl, p, _, _, _, rfl, rfl, SqL.of hp, at0 _ _ _, _, rfl, _, _, rfl, rfl, wide_div m0 mw (by decide) (by decide), ?_⟩
      refine ⟨_, rfl, p, _, _, 0, rfl, rfl, hp, rfl, _, rfl, ?_⟩
      exact q _ _ (mod_lt m0).1 (mod_lt m0).2 ⟨_, _, _, rfl, b0, b1⟩
    · refine ⟨_, rfl, p, _, _, _, rfl, rfl, SqL.of hp, at2 _ _ _, _, _, rfl, rfl, ?_⟩
      refine ⟨_, rfl, p, _, _, 2, rfl, rfl, hp, rfl, ?_⟩
      refine ⟨_, rfl, p, _, _, _, rfl, rfl, SqL.of upd_same, at1 _ _ _, ?_⟩
      refine ⟨_, rfl, _, rfl, _, _, rfl, rfl, .inl ⟨by omega, by omega⟩, ?_⟩
      refine ⟨_, rfl, p, _, _, _, rfl, rfl, SqL.of upd_same, at2 _ _ _, _, _, rfl, rfl, .inr ⟨by decide, by decide⟩, ?_⟩
      refine ⟨_, _, rfl, rfl, _, _, rfl, rfl, .inl ⟨_, rfl, _, _, rfl, rfl, (by show (2147483399 : Int) ≠ 0; decide), ?_⟩⟩
      have x1 := mod_lt (a := (b * b + (c + 1) * 3571 + 40692 : Int)) (m := 2147483399) (by decide)
      refine ⟨_, rfl, _, rfl, _, _, rfl, rfl, .inl ⟨Int.lt_of_lt_of_le (by decide : -(2 ^ 64 : Int) < 0) x1.1, Int.lt_trans x1.2 (by decide)⟩, _, rfl, _, _, rfl, rfl, ⟨by decide, by decide⟩, _, _, rfl, rfl, .inl ⟨_, rfl, _, _, rfl, rfl, (by show (2147483629 : Int) ≠ 0; decide), ?_⟩⟩
      refine ⟨_, rfl, _, rfl, p, _, _, 1, rfl, rfl, upd_same, rfl, ?_⟩
      refine ⟨_, rfl, _, _, rfl, rfl, ⟨by decide, by decide⟩, .inl ⟨_, rfl, _, rfl, _, _, rfl, rfl, by omega, ?_⟩⟩
      rw [upd_upd]
      exact q _ _ (mod_lt m0).1 (mod_lt m0).2 ⟨_, _, _, rfl, (mod_lt (m := 2147483629) (by decide)).1, Int.lt_trans (mod_lt (m := 2147483629) (by decide)).2 (by decide)⟩
end
end K01

set_option maxRecDepth 100000
set_option maxHeartbeats 4000000
namespace L2
open PySem PySem.Spec PyProof.Rows
/-- all but p is as it was -/
def But (p : Addr) (H H' : Hp) : Prop := ∀ b o, b ≠ p → H b = some o → H' b = some o
theorem But.refl (p : Addr) (H : Hp) : But p H H := fun _ _ _ h => h
theorem But.trans {p : Addr} {H H1 H2 : Hp} (a : But p H H1) (b : But p H1 H2) : But p H H2 := fun c o n h => b c o n (a c o n h)
theorem But.set {p : Addr} {H : Hp} {o : HO} : But p H (upd H p o) := fun b u n h => by rw [upd_ne n]; exact h
theorem But.of {p : Addr} {H H' : Hp} (s : Same H H') : But p H H' := fun b o _ h => s b o h
theorem But.sqL {K : PySem.W.Frag} {p a : Addr} {H H' : Hp} {xs : List V} (s : But p H H') (n : a ≠ p) (h : SqL K H a xs) : SqL K H' a xs := by
  rcases h with (h | ⟨o, h⟩) | h
  · exact .inl (.inl (s _ _ n h))
  · exact .inl (.inr ⟨o, s _ _ n h⟩)
  · exact .inr h
theorem yesT {A B : Hp → Prop} {σ : St} {H : Hp} (h : A H) : tYes σ H (fun b H3 => if b = true then A H3 else B H3) := by
  show (if true = true then A H else B H)
  exact iteT h
end L2
namespace K01
open PySem PySem.Spec PyProof.Rows L2
section
variable {w : World} {K : PySem.W.Frag} {mg : Str → Option Value} {base : Heap}
def spWants (_K : PySem.W.Frag) : Sp := fun vs H Q _ => ∃ (p : Addr) (st : List V) (n m : Int), vs = [.ref p, .int n, .int m] ∧ 0 ≤ n ∧ n ≤ 100 ∧ 0 ≤ m ∧ m < 2 ^ 190 ∧ H p = some (.lst st) ∧ PoolOk st ∧
  ∀ (H' : Hp) (l : Addr) (ns : List Int) (st' : List V), But p H H' → H' p = some (.lst st') → PoolOk st' → H l = none → H' l = some (.lst (ns.map V.int)) → ns.length = n.toNat → (∀ x ∈ ns, 0 ≤ x ∧ x ≤ m) → Q (.ref l) H'
theorem ok_law_wants (T : Tx K mg) : Ok PG w K mg base CX0 4 (a_law_wants K) p_law_wants (spWants K) := by
  refine Ok.of 3 T.f_law_wants sc_law_wants bi_law_wants (by decide) (fun vs H Q E h => ?_) (fun cdv A outer s H vs Q E hr h => ?_)
  · obtain ⟨_, _, _, _, rfl, _⟩ := h
    rfl
  · obtain ⟨p, st, n, m, rfl, n0, n1, m0, m1, hp, ok, q⟩ := h
    have nd := sc_law_wants.nd
    refine ⟨_, pss_one (ps_ret (pe_lc (own := [("night", 3)]) (g := gName 3) (tt := tYes) rfl nd (pi_range1 rfl T.m_range (pa_cons (pv 1) pa_nil)) (blkOk_by (N := n_law_wants) (sc := defScope s_law_wants) (by decide +kernel)) (fun _ _ _ _ _ => pg_name (i := 3) nd rfl (Or.inl rfl)) (fun _ _ _ _ _ => pts_nil)
      (fun _ _ _ _ _ => pc (ok_law_draw T) (hr.mono (by decide)) T.g_law_draw pass0 (pa_cons (pv 0) (pa_cons (pe_op op_add (pv 2) pe_int) pa_nil))))), ?_⟩
    refine ⟨_, rfl, n, rfl, by omega, by omega, fun D hD => ?_⟩
    have hDp : D ≠ p := fun z => by rw [z, hp] at hD; cases hD
    refine lc_range (lo := 0) (n := n.toNat) (fun i H' => ∃ (ns : List Int) (st' : List V), But p H H' ∧ H' p = some (.lst st') ∧ PoolOk st' ∧ H' D = some (.lst (ns.map V.int)) ∧ ns.length = i ∧ ∀ x ∈ ns, 0 ≤ x ∧ x ≤ m) ⟨[], st, .of (.new hD), by rw [upd_ne (Ne.symm hDp)]; exact hp, ok, upd_same, rfl, fun x hx => by cases hx⟩ ?_ ?_
    · rintro i H' hi ⟨ns, st', bt, hp', ok', hl, hn, hb⟩
      refine ⟨rfl, ?_⟩
      refine yesT ?_
      refine ⟨_, rfl, _, rfl, _, _, rfl, rfl, p, st', m + 1, rfl, by omega, ?_, hp', ok', fun v st2 v0 v1 ok2 => ?_⟩
      · have : (m + 1).natAbs < 2 ^ 191 := by omega
        exact Nat.lt_trans this (by decide)
      · refine ⟨ns.map V.int, by rw [upd_ne hDp]; exact hl, by rw [List.length_map, hn, sizeLine_eq]; omega, ns ++ [v], st2, ?_, ?_, ok2, ?_, ?_, ?_⟩
        · intro b o nb hb'
          have nbD : b ≠ D := fun z => by rw [z, hD] at hb'; cases hb'
          rw [upd_ne nbD, upd_ne nb]
          exact bt b o nb hb'
        · rw [upd_ne (Ne.symm hDp), upd_same]
        · rw [upd_same, List.map_append]; rfl
        · rw [List.length_append, hn]; rfl
        · intro x hx
          rcases List.mem_append.mp hx with hx | hx
          · exact hb x hx
          · rw [List.mem_singleton.mp hx]
            exact ⟨v0, by omega⟩
    · rintro H' ⟨ns, st', bt, hp', ok', hl, hn, hb⟩
      exact q H' D ns st' bt hp' ok' hD hl hn hb
end
end K01

set_option maxRecDepth 100000
set_option maxHeartbeats 4000000
namespace L2
open PySem PySem.Spec PyProof.Rows
theorem nope {b : Bool} {A B : Prop} (h : b = false) (k : B) : if b = true then A else B := by
  rw [h]; exact iteF k
theorem yep {b : Bool} {A B : Prop} (h : b = true) (k : A) : if b = true then A else B := by
  rw [h]; exact iteT k
theorem SqT.ty {K : PySem.W.Frag} {H : Hp} {a : Addr} {xs : List V} (h : SqT K H a xs) : TyX K H (.ref a) (.type "tuple") := by
  rcases h with (h | ⟨o, h⟩) | ⟨o, its, n, h, c, _⟩
  · exact .base (.tup h)
  · exact .fTuple h
  · exact .kTuple h c
theorem SqL.ty {K : PySem.W.Frag} {H : Hp} {a : Addr} {xs : List V} (h : SqL K H a xs) : TyX K H (.ref a) (.type "list") := by
  rcases h with (h | ⟨o, h⟩) | ⟨o, its, n, h, c, _⟩
  · exact .base (.lst h)
  · exact .base (.frz h)
  · exact .kList h c
/-- None, a bool, a number, a text -/
inductive Atom : V → Prop where
  | non : Atom .non
  | bl (b : Bool) : Atom (.bl b)
  | int (i : Int) : Atom (.int i)
  | str (z : Str) : Atom (.str z)
/-- x and y are the same data, at most n deep -/
def Eqd (K : PySem.W.Frag) : Nat → Hp → V → V → Prop
  | 0, _, x, y => x = y ∧ Atom x
  | n + 1, H, x, y => (x = y ∧ Atom x) ∨ (∃ a b xs ys, x = .ref a ∧ y = .ref b ∧ ((SqT K H a xs ∧ SqT K H b ys) ∨ (SqL K H a xs ∧ SqL K H b ys)) ∧ xs.length = ys.length ∧ xs.length ≤ sizeLine ∧ ∀ (i : Nat) (u v : V), xs[i]? = some u → ys[i]? = some v → Eqd K n H u v)
theorem Eqd.atom {K : PySem.W.Frag} {n : Nat} {H : Hp} {x : V} (h : Atom x) : Eqd K n H x x := by
  cases n with
  | zero => exact ⟨rfl, h⟩
  | succ n => exact .inl ⟨rfl, h⟩
theorem Eqd.same {K : PySem.W.Frag} : ∀ {n : Nat} {H H' : Hp} {x y : V}, Eqd K n H x y → Same H H' → Eqd K n H' x y := by
  intro n
  induction n with
  | zero => intro H H' x y h _; exact h
  | succ n ih =>
    intro H H' x y h s
    rcases h with h | ⟨a, b, xs, ys, e1, e2, h, hl, hz, hi⟩
    · exact .inl h
    · exact .inr ⟨a, b, xs, ys, e1, e2, h.imp (fun z => ⟨s.seqT z.1, s.seqT z.2⟩) (fun z => ⟨s.seq z.1, s.seq z.2⟩), hl, hz, fun i u v h1 h2 => ih (hi i u v h1 h2) s⟩
theorem Eqd.ints {K : PySem.W.Frag} {n : Nat} {H : Hp} {ns : List Int} : ∀ (i : Nat) (u v : V), (ns.map V.int)[i]? = some u → (ns.map V.int)[i]? = some v → Eqd K n H u v := fun i u v h1 h2 => by
  obtain ⟨x, _, rfl⟩ := map_get h1
  rw [h1] at h2
  cases h2
  exact .atom (.int x)
end L2
namespace K01
open PySem PySem.Spec PyProof.Rows L2
section
variable {w : World} {K : PySem.W.Frag} {mg : Str → Option Value} {base : Heap}
def spInt : Sp := fun vs H Q _ => ∃ (n : Int), vs = [.int n] ∧ Q (.bl true) H
theorem ok_law_int (T : Tx K mg) : Ok PG w K mg base CX0 2 (a_law_int K) p_law_int spInt := by
  refine Ok.of 1 T.f_law_int sc_law_int bi_law_int (by decide) (fun vs H Q E h => ?_) (fun cdv A outer s H vs Q E hr h => ?_)
  · obtain ⟨_, rfl, _⟩ := h
    rfl
  · obtain ⟨n, rfl, q⟩ := h
    refine ⟨_, pss_one (ps_ret (pe_and (pe_callB call_isi (by rfl) T.m_isinstance (by decide +kernel) (pa_cons (pv 0) (pa_cons (pe_bltn (v := .ty "int") (by rfl) T.m_int (by decide +kernel) rfl) pa_nil)))
      (pe_one (pe_not (pe_callB call_isi (by rfl) T.m_isinstance (by decide +kernel) (pa_cons (pv 0) (pa_cons (pe_bltn (v := .ty "bool") (by rfl) T.m_bool (by decide +kernel) rfl) pa_nil))))))), ?_⟩
    refine ⟨_, rfl, _, _, _, _, true, rfl, .ty _, .base (.int n), kit_ty (by decide +kernel), _, rfl, yep rfl ?_⟩
    exact ⟨_, rfl, _, _, _, _, false, rfl, .ty _, .base (.int n), kit_ty (by decide +kernel), _, rfl, q⟩
def spSame (K : PySem.W.Frag) (n : Nat) : Sp := fun vs H Q _ => ∃ (x y : V), vs = [x, y] ∧ Eqd K n H x y ∧ Q (.bl true) H
def spLow (K : PySem.W.Frag) : Nat → Sp
  | 0 => fun _ _ _ _ => False
  | n + 1 => spSame K n
theorem same_at (T : Tx K mg) (n k : Nat) (R0 : Ok PG w K mg base CX0 k (a_law_same K) p_law_same (spLow K n)) (hk : 2 ≤ k) : Ok PG w K mg base CX0 (k + 1) (a_law_same K) p_law_same (spSame K n) := by
  refine Ok.of k T.f_law_same sc_law_same bi_law_same (Nat.le_refl _) (fun vs H Q E h => ?_) (fun cdv A outer s H vs Q E hr h => ?_)
  · obtain ⟨_, _, rfl, _⟩ := h
    rfl
  · obtain ⟨x, y, rfl, hd, q⟩ := h
    have nd := sc_law_same.nd
    refine ⟨_, pss_cons (ps_if (pt_cmpR op_isN (pv 1) pe_non (nomark _)) (pss_one (ps_ret (pe_cmpR op_isN (pv 0) pe_non (nomark _)))) pss_nil)
      (pss_cons (ps_if (pt_cmpR op_isTF (pv 1) pe_bl (nomark _)) (pss_one (ps_ret (pe_cmpR op_isTF (pv 0) pe_bl (nomark _)))) pss_nil)
      (pss_cons (ps_if (pt_cmpR op_isTF (pv 1) pe_bl (nomark _)) (pss_one (ps_ret (pe_cmpR op_isTF (pv 0) pe_bl (nomark _)))) pss_nil)
      (pss_cons (ps_if (pt_val (pe_callB call_isi (by rfl) T.m_isinstance (by decide +kernel) (pa_cons (pv 1) (pa_cons (pe_bltn (v := .ty "int") (by rfl) T.m_int (by decide +kernel) rfl) pa_nil)))) (pss_one (ps_ret (pe_and (pc (ok_law_int T) (hr.mono hk) T.g_law_int pass0 (pa_cons (pv 0) pa_nil)) (pe_one (pe_cmpR op_eq (pv 0) (pv 1) (nomark _)))))) pss_nil)
      (pss_cons (ps_if (pt_val (pe_callB call_isi (by rfl) T.m_isinstance (by decide +kernel) (pa_cons (pv 1) (pa_cons (pe_bltn (v := .ty "str") (by rfl) T.m_str (by decide +kernel) rfl) pa_nil)))) (pss_one (ps_ret (pe_and (pe_callB call_isi (by rfl) T.m_isinstance (by decide +kernel) (pa_cons (pv 0) (pa_cons (pe_bltn (v := .ty "str") (by rfl) T.m_str (by decide +kernel) rfl) pa_nil))) (pe_one (pe_cmpR op_eq (pv 0) (pv 1) (nomark _)))))) pss_nil)
      (pss_cons (ps_if (pt_val (pe_callB call_isi (by rfl) T.m_isinstance (by decide +kernel) (pa_cons (pv 1) (pa_cons (pe_bltn (v := .ty "tuple") (by rfl) T.m_tuple (by decide +kernel) rfl) pa_nil))))
        (pss_one (ps_if (PW.pt (pw_or (pt_not (pt_val (pe_callB call_isi (by rfl) T.m_isinstance (by decide +kernel) (pa_cons (pv 0) (pa_cons (pe_bltn (v := .ty "tuple") (by rfl) T.m_tuple (by decide +kernel) rfl) pa_nil))))) (pw_or1 (pt_cmpR op_ne (pe_callB call_len_seq (by rfl) T.m_len PySem.boot_len (pa_cons (pv 0) pa_nil)) (pe_callB call_len_seq (by rfl) T.m_len PySem.boot_len (pa_cons (pv 1) pa_nil)) (nomark _))))) (pss_one (ps_ret pe_bl)) pss_nil))
        (pss_one (ps_if (PW.pt (pw_or (pt_not (pt_val (pe_callB call_isi (by rfl) T.m_isinstance (by decide +kernel) (pa_cons (pv 0) (pa_cons (pe_bltn (v := .ty "list") (by rfl) T.m_list (by decide +kernel) rfl) pa_nil))))) (pw_or1 (pt_cmpR op_ne (pe_callB call_len_seq (by rfl) T.m_len PySem.boot_len (pa_cons (pv 0) pa_nil)) (pe_callB call_len_seq (by rfl) T.m_len PySem.boot_len (pa_cons (pv 1) pa_nil)) (nomark _))))) (pss_one (ps_ret pe_bl)) pss_nil)))
      (pss_cons (ps_for (passX rfl) rfl (pi_range1 rfl T.m_range (pa_cons (pe_callB call_len_seq (by rfl) T.m_len PySem.boot_len (pa_cons (pv 1) pa_nil)) pa_nil)) (pg_name (i := 2) nd rfl (.inl rfl))
        (pss_one (ps_if (pt_not (pt_val (pc R0 hr T.g_law_same pass0 (pa_cons (pe_ix ix_seq (pv 0) (pv 2) (fun _ _ => rfl)) (pa_cons (pe_ix ix_seq (pv 1) (pv 2) (fun _ _ => rfl)) pa_nil))))) (pss_one (ps_ret pe_bl)) pss_nil)))
      (pss_one (ps_ret pe_bl)))))))), ?_⟩
    have hd2 : (x = y ∧ Atom x) ∨ ∃ m, n = m + 1 ∧ ∃ a b xs ys, x = .ref a ∧ y = .ref b ∧ ((SqT K H a xs ∧ SqT K H b ys) ∨ (SqL K H a xs ∧ SqL K H b ys)) ∧ xs.length = ys.length ∧ xs.length ≤ sizeLine ∧ ∀ (i : Nat) (u v : V), xs[i]? = some u → ys[i]? = some v → Eqd K m H u v := by
      cases n with
      | zero => exact .inl hd
      | succ m => exact hd.imp id fun z => ⟨m, rfl, z⟩
    rcases hd2 with ⟨rfl, ha⟩ | ⟨m, rfl, a, b, xs, ys, rfl, rfl, hs, hl, hz, hi⟩
    · cases ha with
      | non =>
        refine ⟨_, rfl, rfl, _, rfl, yep (by simp) ?_⟩
        exact ⟨_, rfl, rfl, by simpa using q⟩
      | bl b =>
        refine ⟨_, rfl, rfl, _, rfl, nope (by simp) ?_⟩
        cases b with
        | true =>
          refine ⟨_, rfl, _, rfl, _, rfl, yep (by simp) ?_⟩
          exact ⟨_, rfl, _, rfl, by simpa using q⟩
        | false =>
          refine ⟨_, rfl, _, rfl, _, rfl, nope (by simp) ?_⟩
          refine ⟨_, rfl, _, rfl, _, rfl, yep (by simp) ?_⟩
          exact ⟨_, rfl, _, rfl, by simpa using q⟩
      | int i =>
        refine ⟨_, rfl, rfl, _, rfl, nope (by simp) ?_⟩
        refine ⟨_, rfl, _, rfl, _, rfl, nope (by simp) ?_⟩
        refine ⟨_, rfl, _, rfl, _, rfl, nope (by simp) ?_⟩
        refine ⟨_, rfl, _, _, _, _, true, rfl, .ty _, .base (.int i), kit_ty (by decide +kernel), _, rfl, yep rfl ?_⟩
        refine ⟨_, rfl, i, rfl, _, rfl, yep rfl ?_⟩
        exact ⟨_, rfl, _, rfl, rfl, by simpa using q⟩
      | str z =>
        refine ⟨_, rfl, rfl, _, rfl, nope (by simp) ?_⟩
        refine ⟨_, rfl, _, rfl, _, rfl, nope (by simp) ?_⟩
        refine ⟨_, rfl, _, rfl, _, rfl, nope (by simp) ?_⟩
        refine ⟨_, rfl, _, _, _, _, false, rfl, .ty _, .base (.str z), kit_ty (by decide +kernel), _, rfl, nope rfl ?_⟩
        refine ⟨_, rfl, _, _, _, _, true, rfl, .ty _, .base (.str z), kit_ty (by decide +kernel), _, rfl, yep rfl ?_⟩
        refine ⟨_, rfl, _, _, _, _, true, rfl, .ty _, .base (.str z), kit_ty (by decide +kernel), _, rfl, yep rfl ?_⟩
        exact ⟨_, rfl, _, rfl, rfl, by simpa using q⟩
    · refine ⟨_, rfl, rfl, _, rfl, nope (by simp) ?_⟩
      refine ⟨_, rfl, _, rfl, _, rfl, nope (by simp) ?_⟩
      refine ⟨_, rfl, _, rfl, _, rfl, nope (by simp) ?_⟩
      have hsz : ys.length < 2 ^ 62 := by rw [← hl]; rw [sizeLine_eq] at hz; omega
      rcases hs with ⟨h1, h2⟩ | ⟨h1, h2⟩
      · refine ⟨_, rfl, _, _, _, _, false, rfl, .ty _, h2.ty, kit_ty (by decide +kernel), _, rfl, nope rfl ?_⟩
        refine ⟨_, rfl, _, _, _, _, false, rfl, .ty _, h2.ty, kit_ty (by decide +kernel), _, rfl, nope rfl ?_⟩
        refine ⟨_, rfl, _, _, _, _, true, rfl, .ty _, h2.ty, kit_ty (by decide +kernel), _, rfl, yep rfl ?_⟩
        refine ⟨_, rfl, _, _, _, _, true, rfl, .ty _, h1.ty, kit_ty (by decide +kernel), _, rfl, nope rfl ?_⟩
        refine ⟨_, rfl, a, xs, rfl, .inr h1, _, rfl, b, ys, rfl, .inr h2, rfl, _, rfl, nope (by simp [hl]) ?_⟩
        refine ⟨_, rfl, b, ys, rfl, .inr h2, _, rfl, by omega, by omega, ?_⟩
        refine for_range (lo := 0) (n := ys.length) (fun i σ H' => H' = H ∧ σ.length = 3 ∧ σ[0]? = some (some (.ref a)) ∧ σ[1]? = some (some (.ref b))) ⟨rfl, rfl, rfl, rfl⟩ ?_ ?_
        · rintro i σ H' hi' ⟨rfl, hl3, z0, z1⟩
          have hx : xs[i]? = some xs[i] := List.getElem?_eq_getElem (by omega)
          have hy : ys[i]? = some ys[i] := List.getElem?_eq_getElem hi'
          have w0 : (σ.set 2 (some (.int (0 + (i : Nat)))))[0]? = some (some (.ref a)) := by rw [List.getElem?_set_ne (by decide)]; exact z0
          have w1 : (σ.set 2 (some (.int (0 + (i : Nat)))))[1]? = some (some (.ref b)) := by rw [List.getElem?_set_ne (by decide)]; exact z1
          have w2 : (σ.set 2 (some (.int (0 + (i : Nat)))))[2]? = some (some (.int (i : Nat))) := by rw [List.getElem?_set_self (by omega), Int.zero_add]
          refine ⟨_, w0, _, w2, .inr (.inl ⟨a, xs, _, _, rfl, rfl, h1, atI_nat hx, _, w1, _, w2, .inr (.inl ⟨b, ys, _, _, rfl, rfl, h2, atI_nat hy, ?_⟩)⟩)⟩
          exact ⟨_, _, rfl, hi i _ _ hx hy, _, rfl, nope rfl ⟨rfl, by simp [hl3], w0, w1⟩⟩
        · rintro σ H' ⟨rfl, _⟩
          exact q
      · refine ⟨_, rfl, _, _, _, _, false, rfl, .ty _, h2.ty, kit_ty (by decide +kernel), _, rfl, nope rfl ?_⟩
        refine ⟨_, rfl, _, _, _, _, false, rfl, .ty _, h2.ty, kit_ty (by decide +kernel), _, rfl, nope rfl ?_⟩
        refine ⟨_, rfl, _, _, _, _, false, rfl, .ty _, h2.ty, kit_ty (by decide +kernel), _, rfl, nope rfl ?_⟩
        refine ⟨_, rfl, _, _, _, _, true, rfl, .ty _, h1.ty, kit_ty (by decide +kernel), _, rfl, nope rfl ?_⟩
        refine ⟨_, rfl, a, xs, rfl, .inl h1, _, rfl, b, ys, rfl, .inl h2, rfl, _, rfl, nope (by simp [hl]) ?_⟩
        refine ⟨_, rfl, b, ys, rfl, .inl h2, _, rfl, by omega, by omega, ?_⟩
        refine for_range (lo := 0) (n := ys.length) (fun i σ H' => H' = H ∧ σ.length = 3 ∧ σ[0]? = some (some (.ref a)) ∧ σ[1]? = some (some (.ref b))) ⟨rfl, rfl, rfl, rfl⟩ ?_ ?_
        · rintro i σ H' hi' ⟨rfl, hl3, z0, z1⟩
          have hx : xs[i]? = some xs[i] := List.getElem?_eq_getElem (by omega)
          have hy : ys[i]? = some ys[i] := List.getElem?_eq_getElem hi'
          have w0 : (σ.set 2 (some (.int (0 + (i : Nat)))))[0]? = some (some (.ref a)) := by rw [List.getElem?_set_ne (by decide)]; exact z0
          have w1 : (σ.set 2 (some (.int (0 + (i : Nat)))))[1]? = some (some (.ref b)) := by rw [List.getElem?_set_ne (by decide)]; exact z1
          have w2 : (σ.set 2 (some (.int (0 + (i : Nat)))))[2]? = some (some (.int (i : Nat))) := by rw [List.getElem?_set_self (by omega), Int.zero_add]
          refine ⟨_, w0, _, w2, .inl ⟨a, xs, _, _, rfl, rfl, h1, atI_nat hx, _, w1, _, w2, .inl ⟨b, ys, _, _, rfl, rfl, h2, atI_nat hy, ?_⟩⟩⟩
          exact ⟨_, _, rfl, hi i _ _ hx hy, _, rfl, nope rfl ⟨rfl, by simp [hl3], w0, w1⟩⟩
        · rintro σ H' ⟨rfl, _⟩
          exact q
theorem ok_law_same (T : Tx K mg) : ∀ n, Ok PG w K mg base CX0 (3 + n) (a_law_same K) p_law_same (spSame K n)
  | 0 => same_at T 0 2 (by
      obtain ⟨fd, F⟩ := T.f_law_same
      exact ⟨fd, ⟨fun _ _ _ _ h => h.elim, fun _ _ _ _ _ _ _ _ _ _ _ _ _ h => h.elim⟩, bi_law_same F, F.kp⟩) (Nat.le_refl _)
  | n + 1 => same_at T (n + 1) (3 + n) (ok_law_same T n) (by omega)
end
end K01

set_option maxRecDepth 100000
set_option maxHeartbeats 4000000
namespace K01
open PySem PySem.Spec PyProof.Rows L2
section
variable {w : World} {K : PySem.W.Frag} {mg : Str → Option Value} {base : Heap}
abbrev xT (n : Int) : HO := .xd [("count", .int n)]
abbrev xB (i n : Int) : HO := .xd [("number", .int n), ("place", .int i)]
/-- an error of class C with the dict o is raised over a heap that has grown -/
def Rs (C : Addr) (o : HO) (H : Hp) (E : XK) : Prop := ∀ H' d, Same H H' → H' d = none → E (.ref C) (some d) (upd H' d o)
theorem Rs.now {C : Addr} {o : HO} {H : Hp} {E : XK} (h : Rs C o H E) (d : Addr) (hd : H d = none) : E (.ref C) (some d) (upd H d o) := h H d (.refl _) hd
theorem Rs.same {C : Addr} {o : HO} {H H' : Hp} {E : XK} (h : Rs C o H E) (s : Same H H') : Rs C o H' E := fun H2 d s2 hd => h H2 d (s.trans s2) hd
def spCount (K : PySem.W.Frag) : Sp := fun vs H Q E => ∃ (n m : Int), vs = [.int n, .int m] ∧ (n > m → Rs (c_TooLong K) (xT n) H E) ∧ (¬ n > m → Q .non H)
theorem ok_check_count (T : Tx K mg) : Ok PG w K mg base (L2.CX PG w) 3 (a_check_count K) p_check_count (spCount K) := by
  refine Ok.of 2 T.f_check_count sc_check_count bi_check_count (by decide) (fun vs H Q E h => ?_) (fun cdv A outer s H vs Q E hr h => ?_)
  · obtain ⟨n, m, rfl, _⟩ := h
    rfl
  · obtain ⟨n, m, rfl, h1, h2⟩ := h
    refine ⟨_, pss_one (ps_if (pt_cmpR op_gt (pv 0) (pv 1) (nomark _)) (pss_one (ps_raiseX rfl T.e_TooLong (by decide) (by decide) hr (takes_of rfl rfl rfl rfl) rfl (pa_cons (pv 0) pa_nil))) pss_nil), ?_⟩
    refine ⟨_, rfl, _, rfl, _, _, rfl, rfl, _, rfl, ?_⟩
    refine ite2 (fun c => ?_) (fun c => ?_)
    · refine ⟨_, rfl, rfl, fun d hd => (h1 (of_decide_eq_true c)).now d hd⟩
    · exact h2 (of_decide_eq_false (by simpa using c))
def spNeg (K : PySem.W.Frag) : Sp := fun vs H Q E => ∃ (n : Int), vs = [.int n] ∧ (n < 0 → Rs (c_BadNumber K) (xB 0 n) H E) ∧ (¬ n < 0 → Q .non H)
theorem ok_check_not_negative (T : Tx K mg) : Ok PG w K mg base (L2.CX PG w) 3 (a_check_not_negative K) p_check_not_negative (spNeg K) := by
  refine Ok.of 2 T.f_check_not_negative sc_check_not_negative bi_check_not_negative (by decide) (fun vs H Q E h => ?_) (fun cdv A outer s H vs Q E hr h => ?_)
  · obtain ⟨n, rfl, _⟩ := h
    rfl
  · obtain ⟨n, rfl, h1, h2⟩ := h
    refine ⟨_, pss_one (ps_if (pt_cmpR op_lt (pv 0) pe_int (nomark _)) (pss_one (ps_raiseX rfl T.e_BadNumber (by decide) (by decide) hr (takes_of rfl rfl rfl rfl) rfl (pa_cons pe_int (pa_cons (pv 0) pa_nil)))) pss_nil), ?_⟩
    refine ⟨_, rfl, _, _, rfl, rfl, _, rfl, ?_⟩
    refine ite2 (fun c => ?_) (fun c => ?_)
    · refine ⟨_, rfl, rfl, fun d hd => (h1 (of_decide_eq_true c)).now d hd⟩
    · exact h2 (of_decide_eq_false (by simpa using c))
/-- the first of ns that is not from 0 to g -/
def bad (g : Int) : Nat → List Int → Option (Nat × Int)
  | _, [] => none
  | i, n :: ns => if 0 ≤ n ∧ n ≤ g then bad g (i + 1) ns else some (i, n)
theorem bad_step {g : Int} : ∀ {k : Nat} {ns : List Int} {i : Nat}, bad g (k + i) (ns.drop i) = bad g k ns → ∀ {n : Int}, ns[i]? = some n → (0 ≤ n ∧ n ≤ g → bad g (k + (i + 1)) (ns.drop (i + 1)) = bad g k ns) ∧ (¬ (0 ≤ n ∧ n ≤ g) → bad g k ns = some (k + i, n)) := by
  intro k ns i h n hn
  obtain ⟨hi, e⟩ := List.getElem?_eq_some_iff.mp hn
  rw [List.drop_eq_getElem_cons hi, e] at h
  constructor
  · intro c
    rw [← h, bad, if_pos c]
    rfl
  · intro c
    rw [← h, bad, if_neg c]
theorem bad_end {g : Int} {k : Nat} {ns : List Int} (h : bad g (k + ns.length) (ns.drop ns.length) = bad g k ns) : bad g k ns = none := by
  rw [← h, List.drop_length]
  rfl
theorem bad_none {g : Int} : ∀ {k : Nat} {ns : List Int}, bad g k ns = none ↔ ∀ n ∈ ns, 0 ≤ n ∧ n ≤ g
  | _, [] => by simp [bad]
  | k, n :: ns => by
    rw [bad]
    split
    · rename_i c
      rw [bad_none (ns := ns)]
      simp [c]
    · rename_i c
      simp [c]
def spOneNum (K : PySem.W.Frag) : Sp := fun vs H Q E => ∃ (i n g : Int), vs = [.int i, .int n, .int g] ∧ (¬ (0 ≤ n ∧ n ≤ g) → Rs (c_BadNumber K) (xB i n) H E) ∧ (0 ≤ n ∧ n ≤ g → Q .non H)
theorem ok_check_number (T : Tx K mg) : Ok PG w K mg base (L2.CX PG w) 2 (a_check_number K) p_check_number (spOneNum K) := by
  refine Ok.of 1 T.f_check_number sc_check_number bi_check_number (by decide) (fun vs H Q E h => ?_) (fun cdv A outer s H vs Q E hr h => ?_)
  · obtain ⟨_, _, _, rfl, _⟩ := h
    rfl
  · obtain ⟨i, n, g, rfl, h1, h2⟩ := h
    refine ⟨_, pss_one (ps_if (pt_not (pt_chain op_le op_le pe_int (pv 1) (pv 2))) (pss_one (ps_raiseX rfl T.e_BadNumber (by decide) (by decide) hr (takes_of rfl rfl rfl rfl) rfl (pa_cons (pv 0) (pa_cons (pv 1) pa_nil)))) pss_nil), ?_⟩
    refine ⟨_, rfl, _, _, rfl, rfl, _, rfl, ite2 (fun c => ?_) (fun c => ?_)⟩
    · refine ⟨_, rfl, _, _, rfl, rfl, _, rfl, ite2 (fun d => ?_) (fun d => ?_)⟩
      · exact ⟨_, rfl, _, rfl, rfl, fun z hz => (h1 (fun y => by simp [y.2] at d)).now z hz⟩
      · exact h2 ⟨of_decide_eq_true c, by simpa using d⟩
    · refine ⟨_, rfl, iteT ?_⟩
      exact ⟨_, rfl, _, rfl, rfl, fun z hz => (h1 (fun y => c (decide_eq_true y.1))).now z hz⟩
def spNums (K : PySem.W.Frag) : Sp := fun vs H Q E => ∃ (a : Addr) (ns : List Int) (g : Int), vs = [.ref a, .int g] ∧ SqA K H a (ns.map V.int) ∧
  (∀ i n, bad g 0 ns = some (i, n) → Rs (c_BadNumber K) (xB (i : Nat) n) H E) ∧ (bad g 0 ns = none → ∀ H', Same H H' → Q .non H')
theorem ok_check_numbers (T : Tx K mg) : Ok PG w K mg base (L2.CX PG w) 3 (a_check_numbers K) p_check_numbers (spNums K) := by
  refine Ok.of 2 T.f_check_numbers sc_check_numbers bi_check_numbers (by decide) (fun vs H Q E h => ?_) (fun cdv A outer s H vs Q E hr h => ?_)
  · obtain ⟨n, m, _, rfl, _⟩ := h
    rfl
  · obtain ⟨a, ns, g, rfl, hs, h1, h2⟩ := h
    have nd := sc_check_numbers.nd
    refine ⟨_, pss_one (ps_for (passX rfl) rfl (pi_enumW (by rfl) T.m_enumerate (pa_cons (pv 0) pa_nil)) (pg_tup rfl (pgs_cons (pg_name (i := 2) nd rfl (.inl rfl)) (pgs_cons (pg_name (i := 3) nd rfl (.inl rfl)) pgs_nil)))
      (pss_one (ps_expr (pc (ok_check_number T) hr T.g_check_number px (pa_cons (pv 2) (pa_cons (pv 3) (pa_cons (pv 1) pa_nil))))))), ?_⟩
    refine ⟨_, rfl, a, ns.map V.int, rfl, hs, fun J G hG wk => ?_⟩
    refine for_it wk (fun i σ H' => Same H H' ∧ bad g (0 + i) (ns.drop i) = bad g 0 ns ∧ σ.length = 4 ∧ σ[1]? = some (some (.int g))) ⟨.refl _, rfl, rfl, rfl⟩ (fun i σ H' _ p => hG H' p.1) (fun i x σ H0 H1 hi p y => ?_) (fun σ H' p => ?_)
    · obtain ⟨sm, hb, hl, hg⟩ := p
      obtain ⟨T', x', y', rfl, hT, rfl, e1, e2⟩ := y
      obtain ⟨n, hn, rfl⟩ := map_get e2
      cases e1
      have sm' : Same H (upd H0 T' (.tup [.int (i : Nat), .int n])) := sm.new' hT
      obtain ⟨b1, b2⟩ := bad_step hb hn
      have z2 : ((σ.set 2 (some (V.int (i : Nat)))).set 3 (some (V.int n)))[2]? = some (some (.int (i : Nat))) := by
        rw [List.getElem?_set_ne (by decide), List.getElem?_set_self (by omega)]
      have z3 : ((σ.set 2 (some (V.int (i : Nat)))).set 3 (some (V.int n)))[3]? = some (some (.int n)) := by
        rw [List.getElem?_set_self (by rw [List.length_set]; omega)]
      have z1 : ((σ.set 2 (some (V.int (i : Nat)))).set 3 (some (V.int n)))[1]? = some (some (.int g)) := by
        rw [List.getElem?_set_ne (by decide), List.getElem?_set_ne (by decide)]; exact hg
      refine ⟨T', _, rfl, SqT.of upd_same, rfl, _, _, rfl, _, _, rfl, rfl, ?_⟩
      exact ⟨_, z2, _, z3, _, z1, (i : Nat), n, g, rfl, fun c d H2 s2 hd => h1 i n (by have := b2 c; rwa [Nat.zero_add] at this) _ _ (sm'.trans s2) hd, fun c => ⟨sm', b1 c, by simp [hl], z1⟩⟩
    · refine h2 (bad_end (k := 0) ?_) H' p.1
      have := p.2.1
      rwa [List.length_map] at this
end
end K01

set_option maxRecDepth 100000
set_option maxHeartbeats 4000000
namespace K01
open PySem PySem.Spec PyProof.Rows L2
section
variable {w : World} {K : PySem.W.Frag} {mg : Str → Option Value} {base : Heap}
/-- at p a Wants of ns -/
def IsW (K : PySem.W.Frag) (H : Hp) (p : Addr) (ns : List Int) : Prop := ∃ dx t, H p = some (.ins (c_Wants K) dx [("numbers", .ref t)]) ∧ SqT K H t (ns.map V.int)
theorem IsW.same {H H' : Hp} {p : Addr} {ns : List Int} (h : IsW K H p ns) (s : Same H H') : IsW K H' p ns := let ⟨dx, t, a, b⟩ := h; ⟨dx, t, s _ _ a, s.seqT b⟩
/-- a run of ns is made, or the error that is due comes -/
structure Mkr (K : PySem.W.Frag) (ns : List Int) (H : Hp) (Q : VK) (E : XK) : Prop where
  long : 60 < ns.length → Rs (c_TooLong K) (xT ns.length) H E
  bad_ : ns.length ≤ 60 → ∀ i n, bad 30 0 ns = some (i, n) → Rs (c_BadNumber K) (xB (i : Nat) n) H E
  good : ns.length ≤ 60 → bad 30 0 ns = none → ∀ H' p, Same H H' → IsW K H' p ns → Q (.ref p) H'
theorem Mkr.same {ns : List Int} {H H' : Hp} {Q : VK} {E : XK} (h : Mkr K ns H Q E) (s : Same H H') : Mkr K ns H' Q E :=
  ⟨fun c => (h.long c).same s, fun c i n e => (h.bad_ c i n e).same s, fun c e H2 p s2 g => h.good c e H2 p (s.trans s2) g⟩
def spInit (K : PySem.W.Frag) : Sp := fun vs H Q E => ∃ (x a dx : Addr) (ns : List Int), vs = [.ref x, .ref a] ∧ H x = some (.ins (c_Wants K) dx []) ∧ SqA K H a (ns.map V.int) ∧
  (60 < ns.length → Rs (c_TooLong K) (xT ns.length) H E) ∧ (ns.length ≤ 60 → ∀ i n, bad 30 0 ns = some (i, n) → Rs (c_BadNumber K) (xB (i : Nat) n) H E) ∧
  (ns.length ≤ 60 → bad 30 0 ns = none → ∀ H' t, Same H H' → SqT K H' t (ns.map V.int) → Q .non (upd H' x (.ins (c_Wants K) dx [("numbers", .ref t)])))
theorem ok_Wants_init (T : Tx K mg) : Ok PG w K mg base (L2.CX PG w) 4 (a_Wants_init K) p_Wants_init (spInit K) := by
  refine Ok.of 3 T.f_Wants_init sc_Wants_init bi_Wants_init (by decide) (fun vs H Q E h => ?_) (fun cdv A outer s H vs Q E hr h => ?_)
  · obtain ⟨n, m, _, _, rfl, _⟩ := h
    rfl
  · obtain ⟨x, a, dx, ns, rfl, hx, ha, h1, h2, h3⟩ := h
    have nd := sc_Wants_init.nd
    obtain ⟨u1, cv1⟩ := T.vMOST
    obtain ⟨u2, cv2⟩ := T.vGREATEST
    refine ⟨_, pss_cons (ps_expr (pc (ok_check_count T) hr T.g_check_count px (pa_cons (pe_callB call_len_seq (by rfl) T.m_len PySem.boot_len (pa_cons (pv 1) pa_nil)) (pa_cons (ClX.pe_cval (pgC T.gWants)) pa_nil))))
      (pss_cons (ps_expr (pc (ok_check_numbers T) hr T.g_check_numbers px (pa_cons (pv 1) (pa_cons (ClX.pe_cval (pgC T.gWants)) pa_nil))))
      (pss_one (ps_fld (pv 0) (pe_callTy call_tuple_of (by rfl) T.m_tuple (by decide +kernel) (pa_cons (pv 1) pa_nil)) rfl))), ?_⟩
    refine ⟨_, rfl, a, _, rfl, ha, _, _, _, _, rfl, T.rWants, cv1, _, _, rfl, fun c => ?_, fun c => ?_⟩
    · have := h1 (by rw [List.length_map] at c; omega)
      rw [List.length_map]
      exact this
    · have hl : ns.length ≤ 60 := by rw [List.length_map] at c; omega
      refine ⟨_, rfl, _, _, _, _, rfl, T.rWants, cv2, a, ns, 30, rfl, ha, fun i n e => h2 hl i n e, fun e H' sm => ?_⟩
      have fin : ∀ t H2, Same H H2 → SqT K H2 t (ns.map V.int) → Q .non (upd H2 x (.ins (c_Wants K) dx [("numbers", .ref t)])) := fun t H2 s2 ht => h3 hl e H2 t s2 ht
      rcases sm.seqA ha with ha' | ha'
      · refine ⟨_, rfl, a, _, rfl, .inl ⟨ha', fun l hl' => ?_⟩⟩
        have hx' : upd H' l (.tup (ns.map V.int)) x = some (.ins (c_Wants K) dx []) := (Same.new hl') _ _ (sm _ _ hx)
        exact ⟨_, rfl, x, c_Wants K, dx, _, rfl, hx', T.cWants, T.nWants, by decide, fin l _ (sm.new' hl') (SqT.of upd_same)⟩
      · refine ⟨_, rfl, a, _, rfl, .inr ⟨ha', ?_⟩⟩
        exact ⟨_, rfl, x, c_Wants K, dx, _, rfl, sm _ _ hx, T.cWants, T.nWants, by decide, fin a _ sm ha'⟩
/-- Wants(e): from what is asked of the run to what is asked of __init__ -/
theorem mk_wants {H : Hp} {a : Addr} {ns : List Int} {Q : VK} {E : XK} (ha : SqA K H a (ns.map V.int)) (h : Mkr K ns H Q E) : ∀ x dx, H x = none → H dx = none → dx ≠ x →
    spInit K ([.ref x, .ref a]) (upd (upd H dx (.own x)) x (.ins (c_Wants K) dx [])) (fun v H2 => v = .non ∧ Q (.ref x) H2) E := by
  intro x dx hx hdx hne
  have s1 : Same H (upd (upd H dx (.own x)) x (.ins (c_Wants K) dx [])) := (Same.new hdx).new' (by rw [upd_ne (Ne.symm hne)]; exact hx)
  refine ⟨x, a, dx, ns, rfl, upd_same, s1.seqA ha, fun c => (h.long c).same s1, fun c i n e => (h.bad_ c i n e).same s1, fun c e H' t s2 ht => ⟨rfl, ?_⟩⟩
  have hx' : H' x = some (.ins (c_Wants K) dx []) := s2 _ _ upd_same
  have ms : Same H (upd H' x (.ins (c_Wants K) dx [("numbers", .ref t)])) := fun b o q => by
    have : b ≠ x := fun z => by rw [z, hx] at q; cases q
    rw [upd_ne this]
    exact s2 _ _ (s1 _ _ q)
  have ht' : SqT K (upd H' x (.ins (c_Wants K) dx [("numbers", .ref t)])) t (ns.map V.int) := by
    rcases ht with (ht | ⟨o, ht⟩) | ht
    · exact .inl (.inl (by rw [upd_ne (fun z => by rw [z, hx'] at ht; cases ht)]; exact ht))
    · exact .inl (.inr ⟨o, by rw [upd_ne (fun z => by rw [z, hx'] at ht; cases ht)]; exact ht⟩)
    · exact .inr ht
  exact h.good c e _ x ms ⟨dx, t, upd_same, ht'⟩
def spAdd (K : PySem.W.Frag) : Sp := fun vs H Q E => ∃ (a b : Addr) (xs ys : List Int), vs = [.ref a, .ref b] ∧ IsW K H a xs ∧ IsW K H b ys ∧ xs.length ≤ 60 ∧ ys.length ≤ 60 ∧ Mkr K (xs ++ ys) H Q E
theorem ok_Wants_add (T : Tx K mg) : Ok PG w K mg base (L2.CX PG w) 6 (a_Wants_add K) p_Wants_add (spAdd K) := by
  refine Ok.of 5 T.f_Wants_add sc_Wants_add bi_Wants_add (by decide) (fun vs H Q E h => ?_) (fun cdv A outer s H vs Q E hr h => ?_)
  · obtain ⟨_, _, _, _, rfl, _⟩ := h
    rfl
  · obtain ⟨a, b, xs, ys, rfl, ⟨dx, t, ha, ht⟩, ⟨dy, u, hb, hu⟩, l1, l2, m⟩ := h
    refine ⟨_, pss_one (ps_ret (pmk (ok_Wants_init T) T.kWants hr T.gWants px (pa_cons (pe_op op_catW (pe_fld (pv 0) rfl) (pe_fld (pv 1) rfl)) pa_nil))), ?_⟩
    refine ⟨_, rfl, a, _, dx, _, _, rfl, ha, T.cWants, T.nWants, rfl, _, rfl, b, _, dy, _, _, rfl, hb, T.cWants, T.nWants, rfl, t, u, _, _, rfl, rfl, ht, hu, ?_, fun H' p sm hp => ?_⟩
    · rw [List.length_map, List.length_map, sizeLine_eq]; omega
    · rw [← List.map_append] at hp
      exact mk_wants (.inr hp) (m.same sm)
end
end K01

set_option maxRecDepth 100000
set_option maxHeartbeats 4000000
/-! # A classmethod with *numbers and a keyword: C.m(a, .., k = v) -/
namespace L2
open PySem PySem.Spec PyProof.Rows
abbrev SpS : Type := List V → List V → Hp → VK → XK → Prop
def FnS (P : Program) (w : World) (K : PySem.W.Frag) (mg : Str → Option Value) (base : Heap) (CX : CXT) (k : Nat) (f : Addr) (ks : List Str) (sp : SpS) : Prop :=
  ∀ (A : Around) (outer : List Env) (s : Shared) (H : Hp) (us ws : List Value) (vs zs : List V) (Q : VK) (E : XK), Room k A → Env0 P w K mg base A outer s H → Vals vs us → Vals zs ws → sp vs zs H Q E →
    codeAny (model P w) A (.call (.ref f) ⟨us, ks.zip ws⟩) (CR CX outer P w H s Q E) s
section
variable {X : Cx} {CX : CXT} {k : Nat} {C p g : Addr} {mc : Value} {sp : SpS} {E : XK} {o e : Expr} {es : List Expr} {kws : List Keyword} {ks : List Str} {f m : Str} {pos apos : Pos} {ta : TE} {t tk : TA} {pl : Sem Bool}
theorem run_cms {pins : List (Addr × Obj)} {σ : L2.St} {H : Hp} {s : Shared} {q : Addr} {Q : VK} {us ws : List Value} {vs zs : List V} (F : FnS X.prog X.w X.K X.mg X.base CX k g ks sp) (hr : Room k X.A) (hx : Passes CX X E) (I : Inv X ((q, PySem.W.methodObj (.ref g) (.ref C)) :: pins) σ H s)
    (r : Vals vs us) (rz : Vals zs ws) (h : sp (.ref C :: vs) zs H Q E) : wpAny (model X.prog X.w) X.A (call (.ref q) us (ks.zip ws)) (EP X pins σ Q) X.xe s := by
  have z : wpAny (model X.prog X.w) X.A (call (.ref q) us (ks.zip ws)) (EP X ((q, PySem.W.methodObj (.ref g) (.ref C)) :: pins) σ Q) X.xe s := by
    refine wpAny_call (PySem.W.method_call (ClX.pin_at I) ?_)
    refine codeAny_mono (F X.A X.stack s H (.ref C :: us) ws (.ref C :: vs) zs Q E hr I.env0 (.cons rfl r) rz h) fun r s' hq => ?_
    cases r with
    | error e => exact hx _ σ H s e s' I hq
    | ok fl =>
      cases fl with
      | ret u => exact I.after hq
      | next => exact False.elim hq
      | brk => exact False.elim hq
      | cont => exact False.elim hq
  exact thn z fun _ _ y => ClX.unpinE y
def tCms (C : Addr) (sp : SpS) (E : XK) (ta : TE) (t tk : TA) : TE := fun σ H Q => ta σ H fun x H1 => x = .ref C ∧ t σ H1 fun vs H2 => tk σ H2 fun zs H3 => sp (.ref C :: vs) zs H3 Q E
theorem pe_cms (he : PE X o ta) (r : ClX.CRead X.K C mc) (c : ClX.CMet X.K C mc m p g) (F : FnS X.prog X.w X.K X.mg X.base CX k g ks sp) (hr : Room k X.A) (hx : Passes CX X E) (ha : PA X (e :: es) t) (hk : PK X kws tk)
    (hst : starEach (e :: es) X.env = (false, eval e X.env) :: starEach es X.env := by rfl) (hall : (backToKw pos (keywordEach kws X.env)).all (·.1.isSome) = true := by rfl) (hks : (backToKw pos (keywordEach kws X.env)).filterMap (·.1) = ks := by rfl)
    (hpl : ((backTo pos (starEach (e :: es) X.env)).any (·.1) || (backToKw pos (keywordEach kws X.env)).any (·.1.isNone)) = false := by rfl)
    (ht : eval (.Call (.Attribute o m apos) (e :: es) kws pos) X.env = (do
      let ov ← eval o X.env
      standAt apos.atName
      let (f, first) ← holding [ov] (getMethod ov m pl)
      callWith pos f first (backTo pos (starEach (e :: es) X.env)) (backToKw pos (keywordEach kws X.env))) := by rfl) :
    PE X (.Call (.Attribute o m apos) (e :: es) kws pos) (tCms C sp E ta t tk) := by
  refine ⟨fun pins s σ H Q I h => ?_⟩
  refine PySem.W.methodCall_KW (pl := pl) (thn (he.run pins s σ H _ I h) fun u s1 ⟨x, H1, I1, rx, ex, q⟩ => ?_) ht
  subst ex
  obtain rfl : u = Value.ref C := rx
  refine ClX.getmethcm_ok I1 r c fun s2 I2 => ?_
  refine PySem.W.callWith_of (P := PySem.W.MethP X.K s1.heap.objs.size g (.ref C)) hpl (PySem.W.keeps_M c.fi) (evalArgs_kw2 hall (thn (ha.run pos _ s2 σ H1 _ I2 q) fun us s3 ⟨vs, H2, I3, rv, q2⟩ => ?_) hst)
  refine thn (hk.run pos _ s3 σ H2 _ I3 q2) fun ws s4 ⟨zs, H3, I4, rz, q3⟩ => ⟨⟨ClX.pin_at I4, I4.kIn⟩, ?_⟩
  rw [hks]
  exact run_cms F hr hx I4 rv rz q3
theorem pe_cms0 (he : PE X o ta) (r : ClX.CRead X.K C mc) (c : ClX.CMet X.K C mc m p g) (F : FnS X.prog X.w X.K X.mg X.base CX k g ks sp) (hr : Room k X.A) (hx : Passes CX X E) (hk : PK X kws tk)
    (hall : (backToKw pos (keywordEach kws X.env)).all (·.1.isSome) = true := by rfl) (hks : (backToKw pos (keywordEach kws X.env)).filterMap (·.1) = ks := by rfl)
    (hpl : ((backTo pos (starEach [] X.env)).any (·.1) || (backToKw pos (keywordEach kws X.env)).any (·.1.isNone)) = false := by rfl)
    (ht : eval (.Call (.Attribute o m apos) [] kws pos) X.env = (do
      let ov ← eval o X.env
      standAt apos.atName
      let (f, first) ← holding [ov] (getMethod ov m pl)
      callWith pos f first (backTo pos (starEach [] X.env)) (backToKw pos (keywordEach kws X.env))) := by rfl) :
    PE X (.Call (.Attribute o m apos) [] kws pos) (tCms C sp E ta tNil tk) := by
  refine ⟨fun pins s σ H Q I h => ?_⟩
  refine PySem.W.methodCall_KW (pl := pl) (thn (he.run pins s σ H _ I h) fun u s1 ⟨x, H1, I1, rx, ex, q⟩ => ?_) ht
  subst ex
  obtain rfl : u = Value.ref C := rx
  refine ClX.getmethcm_ok I1 r c fun s2 I2 => ?_
  refine PySem.W.callWith_of (P := PySem.W.MethP X.K s1.heap.objs.size g (.ref C)) hpl (PySem.W.keeps_M c.fi) (evalArgs_kw2_nil hall ?_)
  refine thn (hk.run pos _ s2 σ H1 _ I2 q) fun ws s4 ⟨zs, H3, I4, rz, q3⟩ => ⟨⟨ClX.pin_at I4, I4.kIn⟩, ?_⟩
  rw [hks]
  exact run_cms (us := []) F hr hx I4 .nil rz q3
end
/-! ### def m(cls, *pv, kx=default) -/
section
variable {P : Program} {w : World} {K : PySem.W.Frag} {mg : Str → Option Value} {base : Heap} {CX : CXT} {k : Nat} {f : Addr} {x qual p1 kx pv : Str} {params : Arguments} {body : List Stmt} {scope : Scope} {N : List Str} {fd : FuncData} {dv : V} {sp : Sp}
theorem fnS_star1 (F : FunD K x qual params body scope [] [(kx, dv)] f fd) (S : FnScope N [p1, kx, pv] scope) (hCX : StX.CXUp CX)
    (hb : ∀ (kV doc pm : Value) (an : Option Addr) (cdv ct : Value) (c v : Value) (rest : List Value), bindArgs (PySem.W.fnOf x qual params body scope .none kV doc pm an cdv ct) ⟨c :: rest, [(kx, v)]⟩ = (newTuple rest >>= fun t => pure [(p1, c), (kx, v), (pv, t)]))
    (hbody : ∀ (cdv : Value) (A : Around) (outer : List Env) (s : Shared) (H : Hp) (vs : List V) (Q : VK) (E : XK), Room k (A.deeper (envOfC qual scope s.heap.objs.size f cdv)) → sp vs H Q E →
      ∃ t, PSs (cxOf CX P w K mg base N qual scope f cdv A outer s H E) body t ∧ t { nx := fun _ H' => Q .non H', rt := Q } (start N vs) H) :
    FnS P w K mg base CX (k + 1) f [kx] (fun vs zs H Q E => ∃ c rest v, vs = c :: rest ∧ zs = [v] ∧ rest.length ≤ sizeLine ∧ ∀ p, H p = Option.none → sp [c, v, V.ref p] (upd H p (.tup rest)) Q E) := by
  intro A outer s H us ws vs zs Q E hr e0 r rz hsp
  obtain ⟨c, rest, v, rfl, rfl, hz, hq⟩ := hsp
  obtain ⟨oc, od, dV, kV, doc, pm, an, cdv, ct, osl, rfl, lk, hcd, hD, _⟩ := F.ex
  have e : dV = .none := by
    rcases hD with ⟨_, e⟩ | ⟨e, _⟩
    · exact e
    · exact absurd rfl e
  subst e
  cases r with
  | cons rc rr =>
  rename_i uc ur
  cases rz with
  | cons rv rn =>
  cases rn
  rename_i uv
  have hn : H s.heap.objs.size = Option.none := e0.hok.fresh (Nat.le_refl _)
  have hl2 : ur.length ≤ sizeLine := by rw [← rr.length]; exact hz
  refine StX.run_bnd lk hcd S hr e0 (G := fun xs H2 => ∃ p, H p = Option.none ∧ xs = [c, v, V.ref p] ∧ H2 = upd H p (.tup rest)) (fun A' Ex Q' h => ?_) fun s2 H2 xs ⟨p, hp, ex, eH⟩ hr' => ?_
  · rw [show ([kx].zip [uv] : List (Str × Value)) = [(kx, uv)] from rfl, hb kV doc pm an cdv ct uc uv ur]
    refine wpAny_bind (wpAny_newTuple (wpAny_pure ?_) hl2)
    have new : ObjOk P w (upd H s.heap.objs.size (.tup rest)) (s.heap.push ({ cls := .type "tuple", data := .seq ur.toArray } : Obj)) s.heap.objs.size (.tup rest) := ⟨hz, ur, rr, ⟨_, Heap.get?_push_size _ rfl, rfl, _, rfl⟩⟩
    have un := StX.un_laid (fs := frs outer) (s := s) (o := ({ cls := .type "tuple", data := .seq ur.toArray } : Obj)) (u := .tup rest) hn
    exact h _ _ [c, v, V.ref s.heap.objs.size] [uc, uv, Value.ref s.heap.objs.size] (StX.env0_laid e0 new) un rfl (fun e s' => hCX outer s H _ _ E e s' un (fun b o q => Heap.get?_push_of_some _ q) rfl) (.cons rc (.cons rv (.cons rfl .nil))) rfl ⟨_, hn, rfl, rfl⟩
  · subst ex eH
    exact hbody cdv A outer s2 _ _ Q E hr' (hq p hp)
theorem fnS_star0 (F : FunD K x qual params body scope [] [(kx, dv)] f fd) (S : FnScope N [p1, kx, pv] scope) (hCX : StX.CXUp CX)
    (hb : ∀ (D : Addr) (doc pm : Value) (an : Option Addr) (cdv ct : Value) (c v : Value) (rest : List Value), ∃ (β γ : Type) (k1 : Option Value → Sem β) (k2 : β → Sem γ) (k3 : γ → Sem (List (Str × Value))) (a : β),
      bindArgs (PySem.W.fnOf x qual params body scope .none (.ref D) doc pm an cdv ct) ⟨c :: rest, []⟩ = ((nsGet D kx >>= k1) >>= k2) >>= k3 ∧ k1 (some v) = pure a ∧ (k2 a >>= k3) = (newTuple rest >>= fun t => pure [(p1, c), (kx, v), (pv, t)]))
    (hbody : ∀ (cdv : Value) (A : Around) (outer : List Env) (s : Shared) (H : Hp) (vs : List V) (Q : VK) (E : XK), Room k (A.deeper (envOfC qual scope s.heap.objs.size f cdv)) → sp vs H Q E →
      ∃ t, PSs (cxOf CX P w K mg base N qual scope f cdv A outer s H E) body t ∧ t { nx := fun _ H' => Q .non H', rt := Q } (start N vs) H) :
    FnS P w K mg base CX (k + 1) f [] (fun vs zs H Q E => ∃ c rest, vs = c :: rest ∧ zs = [] ∧ rest.length ≤ sizeLine ∧ ∀ p, H p = Option.none → sp [c, dv, V.ref p] (upd H p (.tup rest)) Q E) := by
  intro A outer s H us ws vs zs Q E hr e0 r rz hsp
  obtain ⟨c, rest, rfl, rfl, hz, hq⟩ := hsp
  obtain ⟨oc, od, dV, kV, doc, pm, an, cdv, ct, osl, rfl, lk, hcd, hD, hK⟩ := F.ex
  have e : dV = .none := by
    rcases hD with ⟨_, e⟩ | ⟨e, _⟩
    · exact e
    · exact absurd rfl e
  subst e
  rcases hK with e | ⟨D, rfl, hq0⟩
  · cases e
  obtain ⟨uv, hns, rv⟩ := hq0 (kx, dv) (List.mem_singleton.mpr rfl)
  cases rz
  cases r with
  | cons rc rr =>
  rename_i uc ur
  have hn : H s.heap.objs.size = Option.none := e0.hok.fresh (Nat.le_refl _)
  have hl2 : ur.length ≤ sizeLine := by rw [← rr.length]; exact hz
  have KX : K.In s.heap := e0.mod.kin.keeps fun b o e => (e0.bs b o e).1
  refine StX.run_bnd lk hcd S hr e0 (G := fun xs H2 => ∃ p, H p = Option.none ∧ xs = [c, dv, V.ref p] ∧ H2 = upd H p (.tup rest)) (fun A' Ex Q' h => ?_) fun s2 H2 xs ⟨p, hp, ex, eH⟩ hr' => ?_
  · obtain ⟨β, γ, k1, k2, k3, a, e1, e2, e3⟩ := hb D doc pm an cdv ct uc uv ur
    rw [show (([] : List Str).zip ([] : List Value)) = [] from rfl, e1, bind_assoc]
    refine wpAny_bind (wpAny_bind ((PySem.W.looks_nsIn KX hns).here ?_))
    rw [e2]
    refine wpAny_pure ?_
    rw [e3]
    refine wpAny_bind (wpAny_newTuple (wpAny_pure ?_) hl2)
    have new : ObjOk P w (upd H s.heap.objs.size (.tup rest)) (s.heap.push ({ cls := .type "tuple", data := .seq ur.toArray } : Obj)) s.heap.objs.size (.tup rest) := ⟨hz, ur, rr, ⟨_, Heap.get?_push_size _ rfl, rfl, _, rfl⟩⟩
    have un := StX.un_laid (fs := frs outer) (s := s) (o := ({ cls := .type "tuple", data := .seq ur.toArray } : Obj)) (u := .tup rest) hn
    exact h _ _ [c, dv, V.ref s.heap.objs.size] [uc, uv, Value.ref s.heap.objs.size] (StX.env0_laid e0 new) un rfl (fun e s' => hCX outer s H _ _ E e s' un (fun b o q => Heap.get?_push_of_some _ q) rfl) (.cons rc (.cons rv (.cons rfl .nil))) rfl ⟨_, hn, rfl, rfl⟩
  · subst ex eH
    exact hbody cdv A outer s2 _ _ Q E hr' (hq p hp)
end
end L2

set_option maxRecDepth 100000
set_option maxHeartbeats 4000000
namespace K01
open PySem PySem.Spec PyProof.Rows L2
section
variable {w : World} {K : PySem.W.Frag} {mg : Str → Option Value} {base : Heap}
theorem len_rep (xs : List Int) (k : Nat) : (List.replicate k xs).flatten.length = k * xs.length := by
  induction k with
  | zero => simp
  | succ n ih => rw [List.replicate_succ, List.flatten_cons, List.length_append, ih, Nat.succ_mul, Nat.add_comm]
theorem map_rep (xs : List Int) (k : Nat) : (List.replicate k (xs.map V.int)).flatten = ((List.replicate k xs).flatten).map V.int := by
  induction k with
  | zero => rfl
  | succ n ih => rw [List.replicate_succ, List.replicate_succ, List.flatten_cons, List.flatten_cons, List.map_append, ih]
def repI (xs : List Int) (k : Int) : List Int := (List.replicate k.toNat xs).flatten
/-- n * times of a run -/
structure Mulr (K : PySem.W.Frag) (xs : List Int) (k : Int) (H : Hp) (Q : VK) (E : XK) : Prop where
  neg : k < 0 → Rs (c_BadNumber K) (xB 0 k) H E
  long : 0 ≤ k → 60 < (xs.length : Int) * k → Rs (c_TooLong K) (xT (xs.length * k)) H E
  good : 0 ≤ k → (xs.length : Int) * k ≤ 60 → Mkr K (repI xs k) H Q E
theorem Mulr.same {xs : List Int} {k : Int} {H H' : Hp} {Q : VK} {E : XK} (h : Mulr K xs k H Q E) (s : Same H H') : Mulr K xs k H' Q E := ⟨fun c => (h.neg c).same s, fun c d => (h.long c d).same s, fun c d => (h.good c d).same s⟩
def spMul (K : PySem.W.Frag) : Sp := fun vs H Q E => ∃ (a : Addr) (xs : List Int) (k : Int), vs = [.ref a, .int k] ∧ IsW K H a xs ∧ xs.length ≤ 60 ∧ Mulr K xs k H Q E
theorem ok_Wants_mul (T : Tx K mg) : Ok PG w K mg base (L2.CX PG w) 6 (a_Wants_mul K) p_Wants_mul (spMul K) := by
  refine Ok.of 5 T.f_Wants_mul sc_Wants_mul bi_Wants_mul (by decide) (fun vs H Q E h => ?_) (fun cdv A outer s H vs Q E hr h => ?_)
  · obtain ⟨_, _, _, rfl, _⟩ := h
    rfl
  · obtain ⟨a, xs, k, rfl, ⟨dx, t, ha, ht⟩, l1, m⟩ := h
    have nd := sc_Wants_mul.nd
    obtain ⟨u1, cv1⟩ := T.vMOST
    refine ⟨_, pss_cons (ps_expr (pc (ok_check_not_negative T) (hr.mono (by decide)) T.g_check_not_negative px (pa_cons (pv 1) pa_nil)))
      (pss_cons (ps_set (i := 2) nd rfl (.inl rfl) (pe_op op_mul (pe_callB call_len_seq (by rfl) T.m_len PySem.boot_len (pa_cons (pe_fld (pv 0) rfl) pa_nil)) (pv 1)))
      (pss_cons (ps_expr (pc (ok_check_count T) (hr.mono (by decide)) T.g_check_count px (pa_cons (pv 2) (pa_cons (ClX.pe_cval (pgC T.gWants)) pa_nil))))
      (pss_cons (ps_if (pt_cmpR op_eq (pv 2) pe_int (nomark _)) (pss_one (ps_ret (pmk (ok_Wants_init T) T.kWants hr T.gWants px (pa_cons (pe_tup pa_nil) pa_nil)))) pss_nil)
      (pss_one (ps_ret (pmk (ok_Wants_init T) T.kWants hr T.gWants px (pa_cons (pe_op op_repW (pe_fld (pv 0) rfl) (pv 1)) pa_nil))))))), ?_⟩
    refine ⟨_, rfl, k, rfl, m.neg, fun c => ?_⟩
    have k0 : 0 ≤ k := by omega
    refine ⟨_, rfl, a, _, dx, _, _, rfl, ha, T.cWants, T.nWants, rfl, t, _, rfl, .inr ht, _, rfl, _, _, rfl, rfl, .inl ⟨by omega, by rw [List.length_map]; omega⟩, ?_⟩
    refine ⟨_, rfl, _, _, _, _, rfl, T.rWants, cv1, _, _, rfl, fun c => ?_, fun c => ?_⟩
    · rw [List.length_map] at c ⊢
      exact m.long k0 c
    · rw [List.length_map] at c
      have g := m.good k0 (by omega)
      refine ⟨_, rfl, rfl, _, rfl, ?_⟩
      refine ite2 (fun c' => ?_) (fun c' => ?_)
      · refine ⟨Nat.zero_le _, fun t' ht' => ?_⟩
        have e0 : (xs.length : Int) * k = 0 := by
          have := of_decide_eq_true c'
          rw [List.length_map] at this
          simpa using this
        have er : repI xs k = [] := by
          unfold repI
          refine List.eq_nil_of_length_eq_zero ?_
          rw [len_rep]
          have : ((k.toNat * xs.length : Nat) : Int) = 0 := by rw [Int.natCast_mul, Int.toNat_of_nonneg k0, Int.mul_comm]; exact e0
          omega
        rw [er] at g
        exact mk_wants (ns := []) (.inr (SqT.of upd_same)) (g.same (.new ht'))
      · have e0 : ¬ (xs.length : Int) * k = 0 := by
          intro z
          apply c'
          rw [List.length_map]
          show decide (V.int ((xs.length : Int) * k) = V.int 0) = true
          rw [z]
          rfl
        have hk : k ≤ 60 := by
          have x1 : 1 ≤ (xs.length : Int) := by
            have : xs.length ≠ 0 := fun z => e0 (by rw [z]; simp)
            omega
          have : 1 * k ≤ (xs.length : Int) * k := Int.mul_le_mul_of_nonneg_right x1 k0
          omega
        refine ⟨_, rfl, a, _, dx, _, _, rfl, ha, T.cWants, T.nWants, rfl, _, rfl, t, k, _, rfl, rfl, ht, by omega, by omega, by rw [List.length_map]; omega, fun H' p sm hp => ?_⟩
        rw [map_rep] at hp
        exact mk_wants (.inr hp) (g.same sm)
theorem ok_Wants_rmul (T : Tx K mg) : Ok PG w K mg base (L2.CX PG w) 7 (a_Wants_rmul K) p_Wants_rmul (spMul K) := by
  refine Ok.of 6 T.f_Wants_rmul sc_Wants_rmul bi_Wants_rmul (by decide) (fun vs H Q E h => ?_) (fun cdv A outer s H vs Q E hr h => ?_)
  · obtain ⟨_, _, _, rfl, _⟩ := h
    rfl
  · obtain ⟨a, xs, k, rfl, ⟨dx, t, ha, ht⟩, l1, m⟩ := h
    refine ⟨_, pss_one (ps_ret (pe_op (oOwnI (ok_Wants_mul T) T.wmul hr px) (pv 0) (pv 1))), ?_⟩
    exact ⟨_, rfl, _, rfl, a, dx, _, k, rfl, rfl, ha, a, xs, k, rfl, ⟨dx, t, ha, ht⟩, l1, m⟩
theorem cut_drop (xs : List Int) (k : Int) (h : 0 ≤ k) : cutV (xs.map V.int) (some k) none = (xs.drop k.toNat).map V.int := by
  unfold cutV
  have e1 : HT.sIx (xs.map V.int).length 0 (some k) = min k.toNat xs.length := by
    show (if k < 0 then _ else min k.toNat (xs.map V.int).length) = _
    rw [if_neg (by omega), List.length_map]
  have e2 : HT.sIx (xs.map V.int).length (xs.map V.int).length none = xs.length := List.length_map ..
  rw [e1, e2, List.map_drop]
  by_cases c : k.toNat ≤ xs.length
  · rw [Nat.min_eq_left c, List.take_of_length_le (by rw [List.length_drop, List.length_map]; exact Nat.le_refl _)]
  · rw [Nat.min_eq_right (by omega), List.drop_of_length_le (by rw [List.length_map]; exact Nat.le_refl _), List.drop_of_length_le (by rw [List.length_map]; omega), List.take_nil]
def spShl (K : PySem.W.Frag) : Sp := fun vs H Q E => ∃ (a : Addr) (xs : List Int) (k : Int), vs = [.ref a, .int k] ∧ IsW K H a xs ∧ (k < 0 → Rs (c_BadNumber K) (xB 0 k) H E) ∧ (0 ≤ k → Mkr K (xs.drop k.toNat) H Q E)
theorem ok_Wants_lshift (T : Tx K mg) : Ok PG w K mg base (L2.CX PG w) 6 (a_Wants_lshift K) p_Wants_lshift (spShl K) := by
  refine Ok.of 5 T.f_Wants_lshift sc_Wants_lshift bi_Wants_lshift (by decide) (fun vs H Q E h => ?_) (fun cdv A outer s H vs Q E hr h => ?_)
  · obtain ⟨_, _, _, rfl, _⟩ := h
    rfl
  · obtain ⟨a, xs, k, rfl, ⟨dx, t, ha, ht⟩, m1, m2⟩ := h
    refine ⟨_, pss_cons (ps_expr (pc (ok_check_not_negative T) (hr.mono (by decide)) T.g_check_not_negative px (pa_cons (pv 1) pa_nil)))
      (pss_one (ps_ret (pmk (ok_Wants_init T) T.kWants hr T.gWants px (pa_cons (pe_slice sl_tupW (pe_fld (pv 0) rfl) (po_some (pv 1)) po_none) pa_nil)))), ?_⟩
    refine ⟨_, rfl, k, rfl, m1, fun c => ?_⟩
    have k0 : 0 ≤ k := by omega
    refine ⟨_, rfl, a, _, dx, _, _, rfl, ha, T.cWants, T.nWants, rfl, _, rfl, k, rfl, t, _, rfl, ht, fun H' p sm hp => ?_⟩
    rw [cut_drop xs k k0] at hp
    exact mk_wants (.inr hp) ((m2 k0).same sm)
structure Shr (K : PySem.W.Frag) (xs : List Int) (k : Int) (H : Hp) (Q : VK) (E : XK) : Prop where
  neg : k < 0 → Rs (c_BadNumber K) (xB 0 k) H E
  long : 0 ≤ k → 60 < (xs.length : Int) + k → Rs (c_TooLong K) (xT (xs.length + k)) H E
  good : 0 ≤ k → (xs.length : Int) + k ≤ 60 → Mkr K (List.replicate k.toNat 0 ++ xs) H Q E
def spShr (K : PySem.W.Frag) : Sp := fun vs H Q E => ∃ (a : Addr) (xs : List Int) (k : Int), vs = [.ref a, .int k] ∧ IsW K H a xs ∧ Shr K xs k H Q E
theorem zeros (k : Nat) : (List.replicate k ([V.int 0])).flatten = (List.replicate k (0 : Int)).map V.int := by
  induction k with
  | zero => rfl
  | succ n ih => rw [List.replicate_succ, List.replicate_succ, List.flatten_cons, List.map_cons, ih]; rfl
theorem ok_Wants_rshift (T : Tx K mg) : Ok PG w K mg base (L2.CX PG w) 6 (a_Wants_rshift K) p_Wants_rshift (spShr K) := by
  refine Ok.of 5 T.f_Wants_rshift sc_Wants_rshift bi_Wants_rshift (by decide) (fun vs H Q E h => ?_) (fun cdv A outer s H vs Q E hr h => ?_)
  · obtain ⟨_, _, _, rfl, _⟩ := h
    rfl
  · obtain ⟨a, xs, k, rfl, ⟨dx, t, ha, ht⟩, m⟩ := h
    obtain ⟨u1, cv1⟩ := T.vMOST
    refine ⟨_, pss_cons (ps_expr (pc (ok_check_not_negative T) (hr.mono (by decide)) T.g_check_not_negative px (pa_cons (pv 1) pa_nil)))
      (pss_cons (ps_expr (pc (ok_check_count T) (hr.mono (by decide)) T.g_check_count px (pa_cons (pe_op op_add (pe_callB call_len_seq (by rfl) T.m_len PySem.boot_len (pa_cons (pe_fld (pv 0) rfl) pa_nil)) (pv 1)) (pa_cons (ClX.pe_cval (pgC T.gWants)) pa_nil))))
      (pss_one (ps_ret (pmk (ok_Wants_init T) T.kWants hr T.gWants px (pa_cons (pe_op op_catW (pe_op op_repW (pe_tup (pa_cons pe_int pa_nil)) (pv 1)) (pe_fld (pv 0) rfl)) pa_nil))))), ?_⟩
    refine ⟨_, rfl, k, rfl, m.neg, fun c => ?_⟩
    have k0 : 0 ≤ k := by omega
    refine ⟨_, rfl, a, _, dx, _, _, rfl, ha, T.cWants, T.nWants, rfl, t, _, rfl, .inr ht, _, rfl, _, _, rfl, rfl, ?_⟩
    refine ⟨_, _, _, _, rfl, T.rWants, cv1, _, _, rfl, fun c => ?_, fun c => ?_⟩
    · rw [List.length_map] at c ⊢
      exact m.long k0 c
    · rw [List.length_map] at c
      have g := m.good k0 (by omega)
      refine ⟨by show 1 ≤ sizeLine; decide, fun z hz => ?_⟩
      have s1 : Same H (upd H z (.tup [.int 0])) := .new hz
      refine ⟨_, rfl, z, k, _, rfl, rfl, SqT.of upd_same, by omega, by omega, by decide, fun H' p sm hp => ?_⟩
      have s2 := s1.trans sm
      refine ⟨_, rfl, a, _, dx, _, _, rfl, s2 _ _ ha, T.cWants, T.nWants, rfl, p, t, _, _, rfl, rfl, hp, s2.seqT ht, ?_, fun H2 q s3 hq => ?_⟩
      · rw [zeros, List.length_map, List.length_map, List.length_replicate, sizeLine_eq]; omega
      · rw [zeros, ← List.map_append] at hq
        exact mk_wants (.inr hq) (g.same (s2.trans s3))
def spRev (K : PySem.W.Frag) : Sp := fun vs H Q E => ∃ (a : Addr) (xs : List Int), vs = [.ref a] ∧ IsW K H a xs ∧ Mkr K xs.reverse H Q E
theorem ok_Wants_neg (T : Tx K mg) : Ok PG w K mg base (L2.CX PG w) 6 (a_Wants_neg K) p_Wants_neg (spRev K) := by
  refine Ok.of 5 T.f_Wants_neg sc_Wants_neg bi_Wants_neg (by decide) (fun vs H Q E h => ?_) (fun cdv A outer s H vs Q E hr h => ?_)
  · obtain ⟨_, _, rfl, _⟩ := h
    rfl
  · obtain ⟨a, xs, rfl, ⟨dx, t, ha, ht⟩, m⟩ := h
    refine ⟨_, pss_one (ps_ret (pmk (ok_Wants_init T) T.kWants hr T.gWants px (pa_cons (pe_revT (pe_fld (pv 0) rfl)) pa_nil))), ?_⟩
    refine ⟨_, rfl, a, _, dx, _, _, rfl, ha, T.cWants, T.nWants, rfl, t, _, rfl, ht, fun p hp => ?_⟩
    rw [← List.map_reverse]
    exact mk_wants (.inr (SqT.of upd_same)) (m.same (.new hp))
def spAbs (K : PySem.W.Frag) : Sp := fun vs H Q E => ∃ (a : Addr) (xs : List Int), vs = [.ref a] ∧ IsW K H a xs ∧ Q (.int xs.sum) H
theorem ok_Wants_abs (T : Tx K mg) : Ok PG w K mg base CX0 2 (a_Wants_abs K) p_Wants_abs (spAbs K) := by
  refine Ok.of 1 T.f_Wants_abs sc_Wants_abs bi_Wants_abs (by decide) (fun vs H Q E h => ?_) (fun cdv A outer s H vs Q E hr h => ?_)
  · obtain ⟨_, _, rfl, _⟩ := h
    rfl
  · obtain ⟨a, xs, rfl, ⟨dx, t, ha, ht⟩, m⟩ := h
    refine ⟨_, pss_one (ps_ret (pe_callB (cr_sumA rfl) (by rfl) T.m_sum (by decide +kernel) (pa_cons (pe_fld (pv 0) rfl) pa_nil))), ?_⟩
    exact ⟨_, rfl, a, _, dx, _, _, rfl, ha, T.cWants, T.nWants, rfl, t, xs, rfl, .inr ht, m⟩
theorem it_Wants (T : Tx K mg) : OwnIt K mg (c_Wants K) (a_Wants_iter K) "numbers" := by
  obtain ⟨fd, F⟩ := T.f_Wants_iter
  exact ownIt_of T.cWants T.nWants T.witer.1 T.witer.2 T.m_iter F ⟨_, _, _, _, _, rfl, fun env h => by obtain ⟨⟩ := env; cases h; rfl⟩ ⟨rfl, rfl, by decide +kernel, rfl, rfl, rfl⟩ fun s fd v h1 h2 h3 => .of_eq (by obtain ⟨⟩ := fd; cases h1; cases h2; cases h3; rfl)
end
end K01

set_option maxRecDepth 100000
set_option maxHeartbeats 4000000
namespace K01
open PySem PySem.Spec PyProof.Rows L2
section
variable {w : World} {K : PySem.W.Frag} {mg : Str → Option Value} {base : Heap}
theorem w200 {m : Int} (h0 : 0 ≤ m) (h : m < 2 ^ 190) : m.natAbs < 2 ^ 200 := by
  have : m.natAbs < 2 ^ 190 := by omega
  exact Nat.lt_trans this (by decide)
def spAny (_K : PySem.W.Frag) : Sp := fun vs H Q _ => ∃ (p : Addr) (st : List V), vs = [.ref p] ∧ H p = some (.lst st) ∧ PoolOk st ∧ ∀ v st', PoolOk st' → Q (.int v) (upd H p (.lst st'))
theorem ok_law_any (T : Tx K mg) : Ok PG w K mg base CX0 4 (a_law_any K) p_law_any (spAny K) := by
  refine Ok.of 3 T.f_law_any sc_law_any bi_law_any (by decide) (fun vs H Q E h => ?_) (fun cdv A outer s H vs Q E hr h => ?_)
  · obtain ⟨_, _, rfl, _⟩ := h
    rfl
  · obtain ⟨p, st, rfl, hp, ok, q⟩ := h
    refine ⟨_, pss_one (ps_ret (pe_op op_sub (pe_op op_pow pe_int pe_int) (pc (ok_law_draw T) (hr.mono (by decide)) T.g_law_draw pass0 (pa_cons (pv 0) (pa_cons (pe_op op_add (pe_op op_mul pe_int (pe_op op_pow pe_int pe_int)) pe_int) pa_nil))))), ?_⟩
    refine ⟨_, _, rfl, rfl, ⟨by decide, by decide, by decide⟩, _, rfl, _, _, rfl, rfl, ⟨by decide, by decide, by decide⟩, _, _, rfl, rfl, .inl ⟨by decide, by decide⟩, _, _, rfl, rfl, p, st, _, rfl, by decide, by decide, hp, ok, fun v st' v0 v1 ok' => ?_⟩
    exact ⟨_, _, rfl, rfl, q _ _ ok'⟩
/-- a list of numbers comes, the pool turned -/
def spRun (_K : PySem.W.Frag) : Sp := fun vs H Q _ => ∃ (p : Addr) (st : List V), vs = [.ref p] ∧ H p = some (.lst st) ∧ PoolOk st ∧
  ∀ (H' : Hp) (l : Addr) (ns : List Int) (st' : List V), But p H H' → H' p = some (.lst st') → PoolOk st' → H l = none → H' l = some (.lst (ns.map V.int)) → ns.length ≤ 60 → (∀ x ∈ ns, 0 ≤ x ∧ x ≤ 30) → Q (.ref l) H'
theorem ok_law_run_drawn (T : Tx K mg) : Ok PG w K mg base CX0 6 (a_law_run_drawn K) p_law_run_drawn (spRun K) := by
  refine Ok.of 5 T.f_law_run_drawn sc_law_run_drawn bi_law_run_drawn (by decide) (fun vs H Q E h => ?_) (fun cdv A outer s H vs Q E hr h => ?_)
  · obtain ⟨_, _, rfl, _⟩ := h
    rfl
  · obtain ⟨p, st, rfl, hp, ok, q⟩ := h
    have nd := sc_law_run_drawn.nd
    refine ⟨_, pss_cons (ps_set (i := 1) nd rfl (.inl rfl) (pc (ok_law_draw T) (hr.mono (by decide)) T.g_law_draw pass0 (pa_cons (pv 0) (pa_cons pe_int pa_nil))))
      (pss_cons (ps_if (pt_cmpR op_eq (pc (ok_law_draw T) (hr.mono (by decide)) T.g_law_draw pass0 (pa_cons (pv 0) (pa_cons pe_int pa_nil))) pe_int (nomark _)) (pss_one (ps_set (i := 1) nd rfl (.inl rfl) (pc (ok_law_draw T) (hr.mono (by decide)) T.g_law_draw pass0 (pa_cons (pv 0) (pa_cons pe_int pa_nil))))) pss_nil)
      (pss_one (ps_ret (pc (ok_law_wants T) (hr.mono (by decide)) T.g_law_wants pass0 (pa_cons (pv 0) (pa_cons (pv 1) (pa_cons pe_int pa_nil))))))), ?_⟩
    refine ⟨_, rfl, p, st, 9, rfl, by decide, by decide, hp, ok, fun v st1 v0 v1 ok1 => ?_⟩
    refine ⟨_, rfl, p, st1, 4, rfl, by decide, by decide, upd_same, ok1, fun u st2 u0 u1 ok2 => ?_⟩
    refine ⟨rfl, _, rfl, ?_⟩
    rw [upd_upd]
    refine ite2 (fun c => ?_) (fun c => ?_)
    · refine ⟨_, rfl, p, st2, 61, rfl, by decide, by decide, upd_same, ok2, fun z st3 z0 z1 ok3 => ?_⟩
      rw [upd_upd]
      refine ⟨_, rfl, _, rfl, p, st3, z, 30, rfl, z0, by omega, by decide, by decide, upd_same, ok3, fun H' l ns st' bt hp' ok' hl hl' hn hb => ?_⟩
      exact q H' l ns st' (But.set.trans bt) hp' ok' (by
        by_cases e : l = p
        · rw [e, upd_same] at hl; cases hl
        · rwa [upd_ne e] at hl) hl' (by omega) hb
    · refine ⟨_, rfl, _, rfl, p, st2, v, 30, rfl, v0, by omega, by decide, by decide, upd_same, ok2, fun H' l ns st' bt hp' ok' hl hl' hn hb => ?_⟩
      exact q H' l ns st' (But.set.trans bt) hp' ok' (by
        by_cases e : l = p
        · rw [e, upd_same] at hl; cases hl
        · rwa [upd_ne e] at hl) hl' (by omega) hb
def spMany (_K : PySem.W.Frag) : Sp := fun vs H Q _ => ∃ (p : Addr) (st : List V) (n : Int), vs = [.ref p, .int n] ∧ 0 ≤ n ∧ n ≤ 60 ∧ H p = some (.lst st) ∧ PoolOk st ∧ ∀ (v : Int) (H' : Hp) (st' : List V), But p H H' → H' p = some (.lst st') → PoolOk st' → Q (.int v) H'
theorem ok_law_many (T : Tx K mg) : Ok PG w K mg base CX0 6 (a_law_many K) p_law_many (spMany K) := by
  refine Ok.of 5 T.f_law_many sc_law_many bi_law_many (by decide) (fun vs H Q E h => ?_) (fun cdv A outer s H vs Q E hr h => ?_)
  · obtain ⟨_, _, _, rfl, _⟩ := h
    rfl
  · obtain ⟨p, st, n, rfl, n0, n1, hp, ok, q⟩ := h
    have nd := sc_law_many.nd
    refine ⟨_, pss_cons (ps_set (i := 2) nd rfl (.inl rfl) (pc (ok_law_draw T) (hr.mono (by decide)) T.g_law_draw pass0 (pa_cons (pv 0) (pa_cons pe_int pa_nil))))
      (pss_cons (ps_if (pt_cmpR op_lt (pv 2) pe_int (nomark _)) (pss_one (ps_ret (pe_ix ix_list (pe_lst (pa_cons pe_int (pa_cons pe_int (pa_cons (pe_un un_neg pe_int) (pa_cons pe_int (pa_cons pe_int (pa_cons pe_int (pa_cons pe_int (pa_cons (pe_op op_pow pe_int pe_int) pa_nil))))))))) (pv 2) (fun _ _ => rfl)))) pss_nil)
      (pss_cons (ps_if (pt_cmpR op_lt (pv 2) pe_int (nomark _)) (pss_one (ps_ret (pe_op op_sub (pe_op op_add (pe_op op_fdiv pe_int (pe_callB (call_max2 rfl) (by rfl) T.m_max (by decide +kernel) (pa_cons pe_int (pa_cons (pv 1) pa_nil)))) (pv 2)) pe_int))) pss_nil)
      (pss_cons (ps_if (pt_cmpR op_lt (pv 2) pe_int (nomark _)) (pss_one (ps_ret (pe_op op_sub (pe_op op_add (pe_op op_sub pe_int (pv 1)) (pv 2)) pe_int))) pss_nil)
      (pss_cons (ps_if (pt_cmpR op_lt (pv 2) pe_int (nomark _)) (pss_one (ps_ret (pe_op op_sub (pe_op op_add (pv 1) (pv 2)) pe_int))) pss_nil)
      (pss_one (ps_ret (pc (ok_law_any T) (hr.mono (by decide)) T.g_law_any pass0 (pa_cons (pv 0) pa_nil)))))))), ?_⟩
    refine ⟨_, rfl, p, st, 16, rfl, by decide, by decide, hp, ok, fun v st1 v0 v1 ok1 => ?_⟩
    have fin : ∀ x : Int, Q (.int x) (upd H p (.lst st1)) := fun x => q x _ _ But.set upd_same ok1
    refine ⟨_, rfl, _, _, rfl, rfl, _, rfl, ite2 (fun c => ?_) (fun c => ?_)⟩
    · have hv : v < 8 := of_decide_eq_true c
      refine ⟨1, rfl, _, _, rfl, rfl, ⟨by decide, by decide, by decide⟩, by show 8 ≤ sizeLine; decide, fun l hl => ?_⟩
      have hpl : p ≠ l := fun z => by rw [← z, upd_same] at hl; cases hl
      have fin2 : ∀ x : Int, ∀ o, Q (.int x) (upd (upd H p (.lst st1)) l o) := fun x o => q x _ st1 (But.set.trans (.of (.new hl))) (by rw [upd_ne hpl, upd_same]) ok1
      have hc : v = 0 ∨ v = 1 ∨ v = 2 ∨ v = 3 ∨ v = 4 ∨ v = 5 ∨ v = 6 ∨ v = 7 := by omega
      rcases hc with rfl | rfl | rfl | rfl | rfl | rfl | rfl | rfl <;> exact ⟨_, rfl, l, _, _, _, rfl, rfl, SqL.of upd_same, rfl, fin2 _ _⟩
    · refine ⟨_, rfl, _, _, rfl, rfl, _, rfl, ite2 (fun c => ?_) (fun c => ?_)⟩
      · refine ⟨_, rfl, 1, n, rfl, _, _, rfl, rfl, ?_, _, rfl, _, _, rfl, rfl, _, _, rfl, rfl, fin _⟩
        show CDiv 60 (if n > 1 then n else 1)
        split <;> exact ⟨by omega, by omega⟩
      · refine ⟨_, rfl, _, _, rfl, rfl, _, rfl, ite2 (fun c => ?_) (fun c => ?_)⟩
        · exact ⟨_, rfl, _, _, rfl, rfl, _, rfl, _, _, rfl, rfl, _, _, rfl, rfl, fin _⟩
        · refine ⟨_, rfl, _, _, rfl, rfl, _, rfl, ite2 (fun c => ?_) (fun c => ?_)⟩
          · exact ⟨_, rfl, _, rfl, _, _, rfl, rfl, _, _, rfl, rfl, fin _⟩
          · refine ⟨_, rfl, p, st1, rfl, upd_same, ok1, fun v' st' ok' => ?_⟩
            rw [upd_upd]
            exact q _ _ _ But.set upd_same ok'
end
end K01

set_option maxRecDepth 100000
set_option maxHeartbeats 4000000
namespace L2
open PySem PySem.Spec PyProof.Rows
/-- cls(e, ..), cls a local name that holds the class at C -/
def tMakeL (i : Nat) (C : Addr) (sp : Sp) (E : XK) (t : TA) : TE := fun σ H Q => σ[i]? = some (some (.ref C)) ∧ tMake C sp [] E t σ H Q
section
variable {X : Cx} {CX : CXT} {k i : Nat} {f C : Addr} {ps : List Str} {sp : Sp} {E : XK} {x : Str} {p pos : Pos} {e : Expr} {es : List Expr} {t : TA}
theorem pmkL (O : Ok X.prog X.w X.K X.mg X.base CX k f ps sp) (M : Mk X.K C f) (hr : Room (k + 1) X.A) (hN : X.N[i]? = some x) (hv : Vis X.env.scope x) (hx : Passes CX X E) (ha : PA X (e :: es) t) (hdb : (x == ("__debug__" : Str)) = false := by decide)  (hcd : (x == ("__classdict__" : Str)) = false := by decide)
    (he : starEach (e :: es) X.env = (false, eval e X.env) :: starEach es X.env := by rfl) (hpl : (backTo pos (starEach es X.env)).any (·.1) = false := by rfl) :
    PE X (.Call (.Name x p) (e :: es) [] pos) (tMakeL i C sp E t) := by
  obtain ⟨fd, F, hb, _⟩ := O.ex
  refine ⟨fun pins s σ H Q I h => ?_⟩
  obtain ⟨hs, h⟩ := h
  refine wpAny_Call_Name_kw (thn ((pe_var (pos := p) hN hv hdb hcd).run pins s σ H (fun v H1 => v = .ref C ∧ H1 = H) I ⟨.ref C, hs, rfl, rfl⟩) fun u s1 ⟨v, H1, I1, r1, q1⟩ => ?_)
  obtain ⟨rfl, rfl⟩ := q1
  cases r1
  refine PySem.W.callWith_K (h₀ := X.base) I.ok.mod.kin M.kp (thn (ha.run pos pins s1 σ _ _ I1 h) fun us s2 ⟨vs, H2, I2, r, q⟩ => ⟨I2.kIn, ?_⟩) he hpl
  exact run_make M F hr hb .nil hx I2 r q
end
end L2

set_option maxRecDepth 100000
set_option maxHeartbeats 4000000
namespace K01
open PySem PySem.Spec PyProof.Rows L2
section
variable {w : World} {K : PySem.W.Frag} {mg : Str → Option Value} {base : Heap}
/-- cls(numbers) * times -/
structure Ofr (K : PySem.W.Frag) (ns : List Int) (k : Int) (H : Hp) (Q : VK) (E : XK) : Prop where
  len : ns.length ≤ 60
  bad_ : ∀ i n, bad 30 0 ns = some (i, n) → Rs (c_BadNumber K) (xB (i : Nat) n) H E
  good : bad 30 0 ns = none → Mulr K ns k H Q E
theorem Ofr.same {ns : List Int} {k : Int} {H H' : Hp} {Q : VK} {E : XK} (h : Ofr K ns k H Q E) (s : Same H H') : Ofr K ns k H' Q E := ⟨h.len, fun i n e => (h.bad_ i n e).same s, fun e => (h.good e).same s⟩
def spOf0 (K : PySem.W.Frag) : Sp := fun vs H Q E => ∃ (k : Int) (p : Addr) (ns : List Int), vs = [.ref (c_Wants K), .int k, .ref p] ∧ SqT K H p (ns.map V.int) ∧ Ofr K ns k H Q E
theorem body_of (T : Tx K mg) (cdv : Value) (A : Around) (outer : List Env) (s : Shared) (H : Hp) (vs : List V) (Q : VK) (E : XK) (hr : Room 6 (A.deeper (envOfC "Wants.of" (defScope s_Wants_of) s.heap.objs.size (a_Wants_of K) cdv))) (h : spOf0 K vs H Q E) :
    ∃ t, PSs (cxOf (L2.CX PG w) PG w K mg base n_Wants_of "Wants.of" (defScope s_Wants_of) (a_Wants_of K) cdv A outer s H E) (defBody s_Wants_of) t ∧ t { nx := fun _ H' => Q .non H', rt := Q } (start n_Wants_of vs) H := by
  obtain ⟨k, p, ns, rfl, hp, m⟩ := h
  refine ⟨_, pss_one (ps_ret (pe_op (oOwnI (ok_Wants_mul T) T.wmul hr px) (pmkL (i := 0) (ok_Wants_init T) T.kWants (hr.mono (by decide)) rfl (.inl rfl) px (pa_cons (pv 2) pa_nil)) (pv 1))), ?_⟩
  refine ⟨rfl, _, rfl, ?_⟩
  refine mk_wants (Q := fun x H1 => tVar 1 (L2.start n_Wants_of [V.ref (c_Wants K), V.int k, V.ref p]) H1 fun y H2 => rOwnOpI (c_Wants K) (spMul K) E x y H2 Q) (.inr hp) ⟨fun c => absurd m.len (by omega), fun c i n e => m.bad_ i n e, fun c e H' q sm hq => ?_⟩
  obtain ⟨dx, t, h1, h2⟩ := hq
  exact ⟨_, rfl, q, dx, _, k, rfl, rfl, h1, q, ns, k, rfl, ⟨dx, t, h1, h2⟩, m.len, (m.good e).same sm⟩
def spOf1 (K : PySem.W.Frag) : SpS := fun vs zs H Q E => ∃ (k : Int) (ns : List Int), vs = .ref (c_Wants K) :: ns.map V.int ∧ zs = [.int k] ∧ Ofr K ns k H Q E
def spOfN (K : PySem.W.Frag) : SpS := fun vs zs H Q E => ∃ (ns : List Int), vs = .ref (c_Wants K) :: ns.map V.int ∧ zs = [] ∧ Ofr K ns 1 H Q E
theorem sL {n : Nat} (h : n ≤ 60) : n ≤ sizeLine := by rw [sizeLine_eq]; omega
theorem ok_Wants_of1 (T : Tx K mg) : FnS PG w K mg base (L2.CX PG w) 7 (a_Wants_of K) ["times"] (spOf1 K) := by
  obtain ⟨fd, F⟩ := T.f_Wants_of
  intro A outer s H us ws vs zs Q E hr e0 r rz hsp
  refine fnS_star1 (sp := spOf0 K) (k := 6) F sc_Wants_of StX.cxUp (fun kV doc pm an cdv ct c v rest => (match rest with | [] => rfl | _ :: _ => rfl)) (fun cdv A outer s H vs Q E hr h => body_of T cdv A outer s H vs Q E hr h) A outer s H us ws vs zs Q E hr e0 r rz ?_
  obtain ⟨k, ns, rfl, rfl, m⟩ := hsp
  exact ⟨_, _, _, rfl, rfl, by rw [List.length_map]; exact sL m.len, fun p hp => ⟨k, p, ns, rfl, SqT.of upd_same, m.same (.new hp)⟩⟩
theorem ok_Wants_ofN (T : Tx K mg) : FnS PG w K mg base (L2.CX PG w) 7 (a_Wants_of K) [] (spOfN K) := by
  obtain ⟨fd, F⟩ := T.f_Wants_of
  intro A outer s H us ws vs zs Q E hr e0 r rz hsp
  refine fnS_star0 (sp := spOf0 K) (k := 6) F sc_Wants_of StX.cxUp (fun D doc pm an cdv ct c v rest => (match rest with | [] => ⟨_, _, _, _, _, _, rfl, rfl, rfl⟩ | _ :: _ => ⟨_, _, _, _, _, _, rfl, rfl, rfl⟩)) (fun cdv A outer s H vs Q E hr h => body_of T cdv A outer s H vs Q E hr h) A outer s H us ws vs zs Q E hr e0 r rz ?_
  obtain ⟨ns, rfl, rfl, m⟩ := hsp
  exact ⟨_, _, rfl, rfl, by rw [List.length_map]; exact sL m.len, fun p hp => ⟨1, p, ns, rfl, SqT.of upd_same, m.same (.new hp)⟩⟩
end
end K01

set_option maxRecDepth 100000
set_option maxHeartbeats 4000000
namespace K01
open PySem PySem.Spec PyProof.Rows L2
/-- what is due -/
inductive Due where
  | run (ns : List Int)
  | long (n : Int)
  | bad (i n : Int)
def IsD (K : PySem.W.Frag) (H : Hp) (d : Addr) : Due → Prop
  | .run ns => ∃ t, SqT K H d [.str "run", .ref t] ∧ SqT K H t (ns.map V.int) ∧ ns.length ≤ 60
  | .long n => SqT K H d [.str "TooLong", .int n, .bl true, .bl false]
  | .bad i n => SqT K H d [.str "BadNumber", .int i, .int n, .bl true, .bl false]
theorem IsD.same {K : PySem.W.Frag} {H H' : Hp} {d : Addr} {D : Due} (h : IsD K H d D) (s : Same H H') : IsD K H' d D := by
  cases D with
  | run ns => obtain ⟨t, a, b, c⟩ := h; exact ⟨t, s.seqT a, s.seqT b, c⟩
  | long n => exact s.seqT h
  | bad i n => exact s.seqT h
def dueRun (xs : List Int) : Due := if xs.length > 60 then .long xs.length else .run xs
def dueTimes (xs : List Int) (k : Int) : Due := if k < 0 then .bad 0 k else if (xs.length : Int) * k > 60 then .long (xs.length * k) else .run (repI xs k)
def dueOf (xs : List Int) (k : Int) : Due := match bad 30 0 xs with
  | some (i, n) => .bad (i : Nat) n
  | none => dueTimes xs k
section
variable {w : World} {K : PySem.W.Frag} {mg : Str → Option Value} {base : Heap}
def Gets (K : PySem.W.Frag) (D : Due) (H : Hp) (Q : VK) : Prop := ∀ H' d, Same H H' → IsD K H' d D → Q (.ref d) H'
theorem Gets.same {D : Due} {H H' : Hp} {Q : VK} (g : Gets K D H Q) (s : Same H H') : Gets K D H' Q := fun H2 d s2 h => g H2 d (s.trans s2) h
def spDueRun (K : PySem.W.Frag) : Sp := fun vs H Q _ => ∃ (a : Addr) (xs : List Int), vs = [.ref a] ∧ SqL K H a (xs.map V.int) ∧ Gets K (dueRun xs) H Q
/-- tuple(list) -/
theorem ok_law_due_run (T : Tx K mg) : Ok PG w K mg base CX0 2 (a_law_due_run K) p_law_due_run (spDueRun K) := by
  refine Ok.of 1 T.f_law_due_run sc_law_due_run bi_law_due_run (by decide) (fun vs H Q E h => ?_) (fun cdv A outer s H vs Q E hr h => ?_)
  · obtain ⟨_, _, rfl, _⟩ := h
    rfl
  · obtain ⟨a, xs, rfl, ha, q⟩ := h
    refine ⟨_, pss_cons (ps_if (pt_cmpR op_gt (pe_callB call_len_seq (by rfl) T.m_len PySem.boot_len (pa_cons (pv 0) pa_nil)) pe_int (nomark _)) (pss_one (ps_ret (pe_tup (pa_cons pe_str (pa_cons (pe_callB call_len_seq (by rfl) T.m_len PySem.boot_len (pa_cons (pv 0) pa_nil)) (pa_cons pe_bl (pa_cons pe_bl pa_nil))))))) pss_nil)
      (pss_one (ps_ret (pe_tup (pa_cons pe_str (pa_cons (pe_callTy call_tuple_of (by rfl) T.m_tuple (by decide +kernel) (pa_cons (pv 0) pa_nil)) pa_nil))))), ?_⟩
    refine ⟨_, rfl, a, _, rfl, .inl ha, _, _, rfl, rfl, _, rfl, ite2 (fun c => ?_) (fun c => ?_)⟩
    · rw [List.length_map] at c
      have c' : xs.length > 60 := by have := of_decide_eq_true c; omega
      unfold dueRun at q
      rw [if_pos c'] at q
      refine ⟨_, rfl, a, _, rfl, .inl ha, by show 4 ≤ sizeLine; decide, fun d hd => q _ d (.new hd) ?_⟩
      rw [List.length_map]
      exact SqT.of upd_same
    · rw [List.length_map] at c
      have c' : ¬ xs.length > 60 := fun z => c (decide_eq_true (by show ((xs.length : Nat) : Int) > 60; omega))
      unfold dueRun at q
      rw [if_neg c'] at q
      refine ⟨_, rfl, a, _, rfl, .inl ⟨ha, fun t ht => ⟨by show 2 ≤ sizeLine; decide, fun d hd => q _ d ((Same.new ht).new' hd) ⟨t, SqT.of upd_same, (Same.new hd).seqT (SqT.of upd_same), by omega⟩⟩⟩⟩
def spDueTimes (K : PySem.W.Frag) : Sp := fun vs H Q _ => ∃ (a : Addr) (xs : List Int) (k : Int), vs = [.ref a, .int k] ∧ H a = some (.lst (xs.map V.int)) ∧ xs.length ≤ 60 ∧ Gets K (dueTimes xs k) H Q
theorem ok_law_due_times (T : Tx K mg) : Ok PG w K mg base CX0 2 (a_law_due_times K) p_law_due_times (spDueTimes K) := by
  refine Ok.of 1 T.f_law_due_times sc_law_due_times bi_law_due_times (by decide) (fun vs H Q E h => ?_) (fun cdv A outer s H vs Q E hr h => ?_)
  · obtain ⟨_, _, _, rfl, _⟩ := h
    rfl
  · obtain ⟨a, xs, k, rfl, ha, l1, q⟩ := h
    refine ⟨_, pss_cons (ps_if (pt_cmpR op_lt (pv 1) pe_int (nomark _)) (pss_one (ps_ret (pe_tup (pa_cons pe_str (pa_cons pe_int (pa_cons (pv 1) (pa_cons pe_bl (pa_cons pe_bl pa_nil)))))))) pss_nil)
      (pss_cons (ps_if (pt_cmpR op_gt (pe_op op_mul (pe_callB call_len_seq (by rfl) T.m_len PySem.boot_len (pa_cons (pv 0) pa_nil)) (pv 1)) pe_int (nomark _)) (pss_one (ps_ret (pe_tup (pa_cons pe_str (pa_cons (pe_op op_mul (pe_callB call_len_seq (by rfl) T.m_len PySem.boot_len (pa_cons (pv 0) pa_nil)) (pv 1)) (pa_cons pe_bl (pa_cons pe_bl pa_nil))))))) pss_nil)
      (pss_cons (ps_if (pt_cmpR op_eq (pe_callB call_len_seq (by rfl) T.m_len PySem.boot_len (pa_cons (pv 0) pa_nil)) pe_int (nomark _)) (pss_one (ps_ret (pe_tup (pa_cons pe_str (pa_cons (pe_tup pa_nil) pa_nil))))) pss_nil)
      (pss_one (ps_ret (pe_tup (pa_cons pe_str (pa_cons (pe_callTy call_tuple_of (by rfl) T.m_tuple (by decide +kernel) (pa_cons (pe_op op_rep (pv 0) (pv 1)) pa_nil)) pa_nil))))))), ?_⟩
    refine ⟨_, rfl, _, _, rfl, rfl, _, rfl, ite2 (fun c => ?_) (fun c => ?_)⟩
    · unfold dueTimes at q
      rw [if_pos (of_decide_eq_true c)] at q
      exact ⟨_, rfl, by show 5 ≤ sizeLine; decide, fun d hd => q _ d (.new hd) (SqT.of upd_same)⟩
    · have k0 : ¬ k < 0 := fun z => c (decide_eq_true z)
      unfold dueTimes at q
      rw [if_neg k0] at q
      have hmul : CMul ((xs.map V.int).length : Nat) k := .inl ⟨by omega, by rw [List.length_map]; omega⟩
      refine ⟨_, rfl, a, _, rfl, .inl (SqL.of ha), _, rfl, _, _, rfl, rfl, hmul, _, _, rfl, rfl, _, rfl, ite2 (fun c => ?_) (fun c => ?_)⟩
      · have c' : (xs.length : Int) * k > 60 := by
          have := of_decide_eq_true c
          rwa [List.length_map] at this
        rw [if_pos c'] at q
        refine ⟨_, rfl, a, _, rfl, .inl (SqL.of ha), _, rfl, _, _, rfl, rfl, hmul, by show 4 ≤ sizeLine; decide, fun d hd => q _ d (.new hd) ?_⟩
        rw [List.length_map]
        exact SqT.of upd_same
      · have c' : ¬ (xs.length : Int) * k > 60 := fun z => c (decide_eq_true (by rw [List.length_map]; exact z))
        rw [if_neg c'] at q
        refine ⟨_, rfl, a, _, rfl, .inl (SqL.of ha), rfl, _, rfl, ite2 (fun c => ?_) (fun c => ?_)⟩
        · have e0 : xs = [] := by
            have := of_decide_eq_true c
            rw [List.length_map] at this
            exact List.eq_nil_of_length_eq_zero (by simpa using this)
          subst e0
          have er : repI [] k = [] := rep_nil _
          rw [er] at q
          exact ⟨Nat.zero_le _, fun t ht => ⟨by show 2 ≤ sizeLine; decide, fun d hd => q _ d ((Same.new ht).new' hd) ⟨t, SqT.of upd_same, (Same.new hd).seqT (SqT.of upd_same), Nat.zero_le _⟩⟩⟩
        · have x1 : 1 ≤ (xs.length : Int) := by
            have : xs.length ≠ 0 := fun z => c (by rw [List.length_map, z]; rfl)
            omega
          have hk : k ≤ 60 := by
            have : 1 * k ≤ (xs.length : Int) * k := Int.mul_le_mul_of_nonneg_right x1 (by omega)
            omega
          have hz : xs.length * k.toNat ≤ 60 := by
            have : ((xs.length * k.toNat : Nat) : Int) ≤ 60 := by rw [Int.natCast_mul, Int.toNat_of_nonneg (by omega)]; omega
            omega
          refine ⟨_, rfl, _, rfl, a, k, _, rfl, rfl, ha, by omega, by omega, by rw [List.length_map, sizeLine_eq]; omega, fun r hr' => ?_⟩
          refine ⟨r, _, rfl, .inl ⟨SqL.of upd_same, fun t ht => ⟨by show 2 ≤ sizeLine; decide, fun d hd => q _ d (((Same.new hr').new' ht).new' hd) ⟨t, SqT.of upd_same, ?_, ?_⟩⟩⟩⟩
          · rw [show (repI xs k).map V.int = (List.replicate k.toNat (xs.map V.int)).flatten from (map_rep xs k.toNat).symm]
            exact (Same.new hd).seqT (SqT.of upd_same)
          · unfold repI
            rw [len_rep, Nat.mul_comm]
            exact hz
theorem bad_from {g : Int} : ∀ {i : Nat} {ns : List Int} {j : Nat} {n : Int}, bad g i ns = some (j, n) → i ≤ j
  | _, [], _, _, h => by cases h
  | i, m :: ns, j, n, h => by
    rw [bad] at h
    split at h
    · exact Nat.le_of_succ_le (bad_from h)
    · cases h; exact Nat.le_refl _
def spDueOf (K : PySem.W.Frag) : Sp := fun vs H Q _ => ∃ (a : Addr) (xs : List Int) (k : Int), vs = [.ref a, .int k] ∧ H a = some (.lst (xs.map V.int)) ∧ xs.length ≤ 60 ∧ Gets K (dueOf xs k) H Q
theorem ok_law_due_of (T : Tx K mg) : Ok PG w K mg base CX0 4 (a_law_due_of K) p_law_due_of (spDueOf K) := by
  refine Ok.of 3 T.f_law_due_of sc_law_due_of bi_law_due_of (by decide) (fun vs H Q E h => ?_) (fun cdv A outer s H vs Q E hr h => ?_)
  · obtain ⟨_, _, _, rfl, _⟩ := h
    rfl
  · obtain ⟨a, xs, k, rfl, ha, l1, q⟩ := h
    have nd := sc_law_due_of.nd
    refine ⟨_, pss_cons (ps_for (passX rfl) rfl (pi_range1 rfl T.m_range (pa_cons (pe_callB call_len_seq (by rfl) T.m_len PySem.boot_len (pa_cons (pv 0) pa_nil)) pa_nil)) (pg_name (i := 2) nd rfl (.inl rfl))
        (pss_one (ps_if (pt_not (pt_chain op_le op_le pe_int (pe_ix ix_list (pv 0) (pv 2) (fun _ _ => rfl)) pe_int)) (pss_one (ps_ret (pe_tup (pa_cons pe_str (pa_cons (pv 2) (pa_cons (pe_ix ix_list (pv 0) (pv 2) (fun _ _ => rfl)) (pa_cons pe_bl (pa_cons pe_bl pa_nil)))))))) pss_nil)))
      (pss_one (ps_ret (pc (ok_law_due_times T) (hr.mono (by decide)) T.g_law_due_times pass0 (pa_cons (pv 0) (pa_cons (pv 1) pa_nil))))), ?_⟩
    refine ⟨_, rfl, a, _, rfl, .inl (SqL.of ha), _, rfl, by omega, by rw [List.length_map]; omega, ?_⟩
    refine for_range (lo := 0) (n := (xs.map V.int).length) (fun i σ H' => H' = H ∧ σ.length = 3 ∧ σ[0]? = some (some (.ref a)) ∧ σ[1]? = some (some (.int k)) ∧ bad 30 (0 + i) (xs.drop i) = bad 30 0 xs) ⟨rfl, rfl, rfl, rfl, rfl⟩ ?_ ?_
    · rintro i σ H' hi' ⟨rfl, hl3, z0, z1, hb⟩
      have hi : i < xs.length := by rwa [List.length_map] at hi'
      have hx : xs[i]? = some xs[i] := List.getElem?_eq_getElem hi
      have hx' : (xs.map V.int)[i]? = some (.int xs[i]) := by rw [List.getElem?_map, hx]; rfl
      have w0 : (σ.set 2 (some (.int (0 + (i : Nat)))))[0]? = some (some (.ref a)) := by rw [List.getElem?_set_ne (by decide)]; exact z0
      have w1 : (σ.set 2 (some (.int (0 + (i : Nat)))))[1]? = some (some (.int k)) := by rw [List.getElem?_set_ne (by decide)]; exact z1
      have w2 : (σ.set 2 (some (.int (0 + (i : Nat)))))[2]? = some (some (.int (i : Nat))) := by rw [List.getElem?_set_self (by omega), Int.zero_add]
      obtain ⟨b1, b2⟩ := bad_step hb hx
      have err : ¬ (0 ≤ xs[i] ∧ xs[i] ≤ 30) → ∀ d, H' d = none → Q (.ref d) (upd H' d (.tup [.str "BadNumber", .int (i : Nat), .int xs[i], .bl true, .bl false])) := fun c d hd => by
        have e := b2 c
        rw [Nat.zero_add] at e
        unfold dueOf at q
        rw [e] at q
        exact q _ d (.new hd) (SqT.of upd_same)
      refine ⟨_, w0, _, w2, a, _, _, _, rfl, rfl, SqL.of ha, atI_nat hx', _, _, rfl, rfl, _, rfl, ite2 (fun c => ?_) (fun c => ?_)⟩
      · refine ⟨_, _, rfl, rfl, _, rfl, ite2 (fun c' => ?_) (fun c' => ?_)⟩
        · exact ⟨_, w2, _, w0, _, w2, a, _, _, _, rfl, rfl, SqL.of ha, atI_nat hx', by show 5 ≤ sizeLine; decide, fun d hd => err (fun z => by simp [z.2] at c') d hd⟩
        · exact ⟨rfl, by simp [hl3], w0, w1, b1 ⟨of_decide_eq_true c, by simpa using c'⟩⟩
      · exact ⟨_, rfl, iteT ⟨_, w2, _, w0, _, w2, a, _, _, _, rfl, rfl, SqL.of ha, atI_nat hx', by show 5 ≤ sizeLine; decide, fun d hd => err (fun z => by simp [z.1] at c) d hd⟩⟩
    · rintro σ H' ⟨rfl, hl3, z0, z1, hb⟩
      rw [List.length_map] at hb
      unfold dueOf at q
      rw [bad_end (k := 0) hb] at q
      exact ⟨_, z0, _, z1, a, xs, k, rfl, ha, l1, q⟩
end
end K01

set_option maxRecDepth 100000
set_option maxHeartbeats 8000000
namespace K01
open PySem PySem.Spec PyProof.Rows L2
def dueWay (way : Nat) (xs ys sv : List Int) (k : Int) : Due :=
  match way with
  | 0 => dueRun (xs ++ ys)
  | 1 => dueTimes xs k
  | 2 => dueTimes xs k
  | 3 => if k < 0 then .bad 0 k else .run (xs.drop k.toNat)
  | 4 => if k < 0 then .bad 0 k else if (xs.length : Int) + k > 60 then .long (xs.length + k) else .run (List.replicate k.toNat 0 ++ xs)
  | 5 => .run xs.reverse
  | 6 => dueOf sv k
  | 7 => dueOf [] k
  | 8 => dueOf (sv.take 1) 1
  | 9 => .run []
  | 10 => dueRun (xs ++ xs)
  | _ => dueOf (sv.take 3) 1
theorem cut_take (xs : List Int) (k : Nat) : cutV (xs.map V.int) none (some (k : Int)) = (xs.take k).map V.int := by
  unfold cutV
  have e1 : HT.sIx (xs.map V.int).length 0 none = 0 := rfl
  have e2 : HT.sIx (xs.map V.int).length (xs.map V.int).length (some (k : Int)) = min k xs.length := by
    show (if (k : Int) < 0 then ((k : Int) + ((xs.map V.int).length : Nat)).toNat else min (k : Int).toNat (xs.map V.int).length) = _
    rw [if_neg (by omega), List.length_map, Int.toNat_natCast]
  rw [e1, e2, List.drop_zero, Nat.sub_zero, List.map_take]
  by_cases c : k ≤ xs.length
  · rw [Nat.min_eq_left c]
  · rw [Nat.min_eq_right (by omega), List.take_of_length_le (by rw [List.length_map]; exact Nat.le_refl _), List.take_of_length_le (by rw [List.length_map]; omega)]
section
variable {w : World} {K : PySem.W.Frag} {mg : Str → Option Value} {base : Heap}
def spDue (K : PySem.W.Frag) : Sp := fun vs H Q _ => ∃ (way : Nat) (a b c : Addr) (xs ys sv : List Int) (k : Int), vs = [.int (way : Nat), .ref a, .ref b, .int k, .ref c] ∧ way < 12 ∧ H a = some (.lst (xs.map V.int)) ∧ H b = some (.lst (ys.map V.int)) ∧ H c = some (.lst (sv.map V.int)) ∧
  xs.length ≤ 60 ∧ ys.length ≤ 60 ∧ sv.length = 7 ∧ Gets K (dueWay way xs ys sv k) H Q
theorem ok_law_due (T : Tx K mg) : Ok PG w K mg base CX0 6 (a_law_due K) p_law_due (spDue K) := by
  refine Ok.of 5 T.f_law_due sc_law_due bi_law_due (by decide) (fun vs H Q E h => ?_) (fun cdv A outer s H vs Q E hr h => ?_)
  · obtain ⟨_, _, _, _, _, _, _, _, rfl, _⟩ := h
    rfl
  · obtain ⟨way, a, b, c, xs, ys, sv, k, rfl, hw, ha, hb, hc, l1, l2, l3, q⟩ := h
    refine ⟨_, pss_cons (ps_if (pt_cmpR op_eq (pv 0) pe_int (nomark _)) (pss_one (ps_ret (pc (ok_law_due_run T) (hr.mono (by decide)) T.g_law_due_run pass0 (pa_cons (pe_op op_cat (pv 1) (pv 2)) pa_nil)))) pss_nil)
      (pss_cons (ps_if (pt_cmpR op_eq (pv 0) pe_int (nomark _)) (pss_one (ps_ret (pc (ok_law_due_run T) (hr.mono (by decide)) T.g_law_due_run pass0 (pa_cons (pe_op op_cat (pv 1) (pv 1)) pa_nil)))) pss_nil)
      (pss_cons (ps_if (PW.pt (pw_or (pt_cmpR op_eq (pv 0) pe_int (nomark _)) (pw_or1 (pt_cmpR op_eq (pv 0) pe_int (nomark _))))) (pss_one (ps_ret (pc (ok_law_due_times T) (hr.mono (by decide)) T.g_law_due_times pass0 (pa_cons (pv 1) (pa_cons (pv 3) pa_nil))))) pss_nil)
      (pss_cons (ps_if (pt_cmpR op_eq (pv 0) pe_int (nomark _)) (pss_one (ps_ret (pe_tup (pa_cons pe_str (pa_cons (pe_callTy call_tuple_of (by rfl) T.m_tuple (by decide +kernel) (pa_cons (pe_revL (pv 1)) pa_nil)) pa_nil))))) pss_nil)
      (pss_cons (ps_if (pt_cmpR op_eq (pv 0) pe_int (nomark _)) (pss_one (ps_ret (pc (ok_law_due_of T) (hr.mono (by decide)) T.g_law_due_of pass0 (pa_cons (pv 4) (pa_cons (pv 3) pa_nil))))) pss_nil)
      (pss_cons (ps_if (pt_cmpR op_eq (pv 0) pe_int (nomark _)) (pss_one (ps_ret (pc (ok_law_due_of T) (hr.mono (by decide)) T.g_law_due_of pass0 (pa_cons (pe_lst pa_nil) (pa_cons (pv 3) pa_nil))))) pss_nil)
      (pss_cons (ps_if (pt_cmpR op_eq (pv 0) pe_int (nomark _)) (pss_one (ps_ret (pc (ok_law_due_of T) (hr.mono (by decide)) T.g_law_due_of pass0 (pa_cons (pe_slice sl_list (pv 4) po_none (po_some pe_int)) (pa_cons pe_int pa_nil))))) pss_nil)
      (pss_cons (ps_if (pt_cmpR op_eq (pv 0) pe_int (nomark _)) (pss_one (ps_ret (pe_tup (pa_cons pe_str (pa_cons (pe_tup pa_nil) pa_nil))))) pss_nil)
      (pss_cons (ps_if (pt_cmpR op_eq (pv 0) pe_int (nomark _)) (pss_one (ps_ret (pc (ok_law_due_of T) (hr.mono (by decide)) T.g_law_due_of pass0 (pa_cons (pe_slice sl_list (pv 4) po_none (po_some pe_int)) (pa_cons pe_int pa_nil))))) pss_nil)
      (pss_cons (ps_if (pt_cmpR op_lt (pv 3) pe_int (nomark _)) (pss_one (ps_ret (pe_tup (pa_cons pe_str (pa_cons pe_int (pa_cons (pv 3) (pa_cons pe_bl (pa_cons pe_bl pa_nil)))))))) pss_nil)
      (pss_cons (ps_if (pt_cmpR op_eq (pv 0) pe_int (nomark _)) (pss_one (ps_ret (pe_tup (pa_cons pe_str (pa_cons (pe_callTy call_tuple_of (by rfl) T.m_tuple (by decide +kernel) (pa_cons (pe_slice sl_list (pv 1) (po_some (pe_callB (call_min2 rfl) (by rfl) T.m_min (by decide +kernel) (pa_cons (pv 3) (pa_cons (pe_callB call_len_seq (by rfl) T.m_len PySem.boot_len (pa_cons (pv 1) pa_nil)) pa_nil)))) po_none) pa_nil)) pa_nil))))) pss_nil)
      (pss_cons (ps_if (pt_cmpR op_gt (pe_op op_add (pe_callB call_len_seq (by rfl) T.m_len PySem.boot_len (pa_cons (pv 1) pa_nil)) (pv 3)) pe_int (nomark _)) (pss_one (ps_ret (pe_tup (pa_cons pe_str (pa_cons (pe_op op_add (pe_callB call_len_seq (by rfl) T.m_len PySem.boot_len (pa_cons (pv 1) pa_nil)) (pv 3)) (pa_cons pe_bl (pa_cons pe_bl pa_nil))))))) pss_nil)
      (pss_one (ps_ret (pe_tup (pa_cons pe_str (pa_cons (pe_callTy call_tuple_of (by rfl) T.m_tuple (by decide +kernel) (pa_cons (pe_op op_cat (pe_op op_rep (pe_lst (pa_cons pe_int pa_nil)) (pv 3)) (pv 1)) pa_nil)) pa_nil)))))))))))))))), ?_⟩
    have two : 2 ≤ sizeLine := by decide
    have hway : way = 0 ∨ way = 1 ∨ way = 2 ∨ way = 3 ∨ way = 4 ∨ way = 5 ∨ way = 6 ∨ way = 7 ∨ way = 8 ∨ way = 9 ∨ way = 10 ∨ way = 11 := by omega
    rcases hway with rfl | rfl | rfl | rfl | rfl | rfl | rfl | rfl | rfl | rfl | rfl | rfl
    · refine ⟨_, rfl, rfl, _, rfl, yep (by decide) ?_⟩
      refine ⟨_, rfl, _, rfl, a, b, _, _, rfl, rfl, ha, hb, by rw [List.length_map, List.length_map, sizeLine_eq]; omega, fun p hp => ⟨p, xs ++ ys, rfl, SqL.of (by rw [upd_same, List.map_append]), q.same (.new hp)⟩⟩
    · (iterate 2 (refine ⟨_, rfl, rfl, _, rfl, nope (by decide) ?_⟩)); refine ⟨_, rfl, rfl, _, rfl, yep (by decide) ?_⟩; exact iteT ⟨_, rfl, _, rfl, a, xs, k, rfl, ha, l1, q⟩
    · (iterate 3 (refine ⟨_, rfl, rfl, _, rfl, nope (by decide) ?_⟩)); refine ⟨_, rfl, rfl, _, rfl, yep (by decide) ?_⟩; exact ⟨_, rfl, _, rfl, a, xs, k, rfl, ha, l1, q⟩
    · (iterate 10 (refine ⟨_, rfl, rfl, _, rfl, nope (by decide) ?_⟩))
      refine ⟨_, rfl, _, _, rfl, rfl, _, rfl, ite2 (fun c0 => ?_) (fun c0 => ?_)⟩
      · have q' : Gets K (if k < 0 then .bad 0 k else .run (xs.drop k.toNat)) H Q := q
        rw [if_pos (of_decide_eq_true c0)] at q'
        exact ⟨_, rfl, by show 5 ≤ sizeLine; decide, fun d hd => q' _ d (.new hd) (SqT.of upd_same)⟩
      · have k0 : ¬ k < 0 := fun z => c0 (decide_eq_true z)
        have q' : Gets K (if k < 0 then .bad 0 k else .run (xs.drop k.toNat)) H Q := q
        rw [if_neg k0] at q'
        refine ⟨_, rfl, rfl, _, rfl, yep (by decide) ?_⟩
        have em : ∀ m : Int, m = (if (((xs.map V.int).length : Nat) : Int) < k then (((xs.map V.int).length : Nat) : Int) else k) → 0 ≤ m ∧ xs.drop m.toNat = xs.drop k.toNat := fun m hm => by
          rw [List.length_map] at hm
          by_cases z : (xs.length : Int) < k
          · rw [if_pos z] at hm
            subst hm
            exact ⟨by omega, by rw [List.drop_of_length_le (by omega), List.drop_of_length_le (by omega)]⟩
          · rw [if_neg z] at hm
            subst hm
            exact ⟨by omega, rfl⟩
        obtain ⟨m0, m1⟩ := em _ rfl
        refine ⟨_, rfl, _, rfl, _, rfl, a, _, rfl, .inl (SqL.of ha), k, _, rfl, _, rfl, a, _, rfl, SqL.of ha, fun p hp => ⟨p, _, rfl, .inl ⟨SqL.of upd_same, fun t ht => ⟨two, fun d hd => q' _ d (((Same.new hp).new' ht).new' hd) ⟨t, SqT.of upd_same, ?_, by rw [List.length_drop]; omega⟩⟩⟩⟩⟩
        rw [← m1, ← cut_drop _ _ m0]
        exact (Same.new hd).seqT (SqT.of upd_same)
    · (iterate 10 (refine ⟨_, rfl, rfl, _, rfl, nope (by decide) ?_⟩))
      refine ⟨_, rfl, _, _, rfl, rfl, _, rfl, ite2 (fun c0 => ?_) (fun c0 => ?_)⟩
      · have q' : Gets K (if k < 0 then .bad 0 k else if (xs.length : Int) + k > 60 then .long (xs.length + k) else .run (List.replicate k.toNat 0 ++ xs)) H Q := q
        rw [if_pos (of_decide_eq_true c0)] at q'
        exact ⟨_, rfl, by show 5 ≤ sizeLine; decide, fun d hd => q' _ d (.new hd) (SqT.of upd_same)⟩
      · have k0 : ¬ k < 0 := fun z => c0 (decide_eq_true z)
        have q' : Gets K (if k < 0 then .bad 0 k else if (xs.length : Int) + k > 60 then .long (xs.length + k) else .run (List.replicate k.toNat 0 ++ xs)) H Q := q
        rw [if_neg k0] at q'
        (iterate 1 (refine ⟨_, rfl, rfl, _, rfl, nope (by decide) ?_⟩))
        refine ⟨_, rfl, a, _, rfl, .inl (SqL.of ha), _, rfl, _, _, rfl, rfl, _, _, rfl, rfl, _, rfl, ite2 (fun c1 => ?_) (fun c1 => ?_)⟩
        · have c2 : (xs.length : Int) + k > 60 := by
            have := of_decide_eq_true c1
            rwa [List.length_map] at this
          rw [if_pos c2] at q'
          refine ⟨_, rfl, a, _, rfl, .inl (SqL.of ha), _, rfl, _, _, rfl, rfl, by show 4 ≤ sizeLine; decide, fun d hd => q' _ d (.new hd) ?_⟩
          rw [List.length_map]
          exact SqT.of upd_same
        · have c2 : ¬ (xs.length : Int) + k > 60 := fun z => c1 (decide_eq_true (by rw [List.length_map]; exact z))
          rw [if_neg c2] at q'
          refine ⟨by show 1 ≤ sizeLine; decide, fun l hl => ⟨_, rfl, l, k, _, rfl, rfl, upd_same, by omega, by omega, by show 1 * k.toNat ≤ sizeLine; rw [sizeLine_eq]; omega, fun r hr' => ?_⟩⟩
          have s2 : Same H (upd (upd H l (.lst [.int 0])) r (.lst (List.replicate k.toNat [V.int 0]).flatten)) := (Same.new hl).new' hr'
          refine ⟨_, rfl, r, a, _, _, rfl, rfl, upd_same, s2 _ _ ha, by rw [zeros, List.length_map, List.length_map, List.length_replicate, sizeLine_eq]; omega, fun p hp => ⟨p, _, rfl, .inl ⟨SqL.of upd_same, fun t ht => ⟨two, fun d hd => q' _ d (((s2.trans (.new hp)).new' ht).new' hd) ⟨t, SqT.of upd_same, ?_, by rw [List.length_append, List.length_replicate]; omega⟩⟩⟩⟩⟩
          rw [show (List.replicate k.toNat (0 : Int) ++ xs).map V.int = (List.replicate k.toNat [V.int 0]).flatten ++ xs.map V.int from by rw [List.map_append, zeros]]
          exact (Same.new hd).seqT (SqT.of upd_same)
    · (iterate 4 (refine ⟨_, rfl, rfl, _, rfl, nope (by decide) ?_⟩)); refine ⟨_, rfl, rfl, _, rfl, yep (by decide) ?_⟩
      refine ⟨_, rfl, a, _, rfl, SqL.of ha, fun p hp => ⟨p, _, rfl, .inl ⟨SqL.of upd_same, fun t ht => ⟨two, fun d hd => q _ d (((Same.new hp).new' ht).new' hd) ⟨t, SqT.of upd_same, ?_, by rw [List.length_reverse]; exact l1⟩⟩⟩⟩⟩
      rw [List.map_reverse]
      exact (Same.new hd).seqT (SqT.of upd_same)
    · (iterate 5 (refine ⟨_, rfl, rfl, _, rfl, nope (by decide) ?_⟩)); refine ⟨_, rfl, rfl, _, rfl, yep (by decide) ?_⟩; exact ⟨_, rfl, _, rfl, c, sv, k, rfl, hc, by omega, q⟩
    · (iterate 6 (refine ⟨_, rfl, rfl, _, rfl, nope (by decide) ?_⟩)); refine ⟨_, rfl, rfl, _, rfl, yep (by decide) ?_⟩; exact ⟨Nat.zero_le _, fun p hp => ⟨_, rfl, p, [], k, rfl, upd_same, Nat.zero_le _, q.same (.new hp)⟩⟩
    · (iterate 7 (refine ⟨_, rfl, rfl, _, rfl, nope (by decide) ?_⟩)); refine ⟨_, rfl, rfl, _, rfl, yep (by decide) ?_⟩
      refine ⟨_, rfl, _, rfl, c, _, rfl, SqL.of hc, fun p hp => ⟨p, sv.take 1, 1, rfl, ?_, ?_, q.same (.new hp)⟩⟩
      · rw [upd_same, ← cut_take]; rfl
      · rw [List.length_take]; omega
    · (iterate 8 (refine ⟨_, rfl, rfl, _, rfl, nope (by decide) ?_⟩)); refine ⟨_, rfl, rfl, _, rfl, yep (by decide) ?_⟩
      exact ⟨Nat.zero_le _, fun t ht => ⟨two, fun d hd => q _ d ((Same.new ht).new' hd) ⟨t, SqT.of upd_same, (Same.new hd).seqT (SqT.of upd_same), Nat.zero_le _⟩⟩⟩
    · (iterate 1 (refine ⟨_, rfl, rfl, _, rfl, nope (by decide) ?_⟩)); refine ⟨_, rfl, rfl, _, rfl, yep (by decide) ?_⟩
      refine ⟨_, rfl, _, rfl, a, a, _, _, rfl, rfl, ha, ha, by rw [List.length_map, sizeLine_eq]; omega, fun p hp => ⟨p, xs ++ xs, rfl, SqL.of (by rw [upd_same, List.map_append]), q.same (.new hp)⟩⟩
    · (iterate 9 (refine ⟨_, rfl, rfl, _, rfl, nope (by decide) ?_⟩)); refine ⟨_, rfl, rfl, _, rfl, yep (by decide) ?_⟩
      refine ⟨_, rfl, _, rfl, c, _, rfl, SqL.of hc, fun p hp => ⟨p, sv.take 3, 1, rfl, ?_, ?_, q.same (.new hp)⟩⟩
      · rw [upd_same, ← cut_take]; rfl
      · rw [List.length_take]; omega
end
end K01

set_option maxRecDepth 100000
set_option maxHeartbeats 8000000
namespace K01
open PySem PySem.Spec PyProof.Rows L2
section
variable {w : World} {K : PySem.W.Frag} {mg : Str → Option Value} {base : Heap}
def Out (K : PySem.W.Frag) (D : Due) (H : Hp) (Q : VK) (E : XK) : Prop :=
  match D with
  | .run ns => ∀ H' p, Same H H' → IsW K H' p ns → Q (.ref p) H'
  | .long n => Rs (c_TooLong K) (xT n) H E
  | .bad i n => Rs (c_BadNumber K) (xB i n) H E
theorem Out.same {D : Due} {H H' : Hp} {Q : VK} {E : XK} (o : Out K D H Q E) (s : Same H H') : Out K D H' Q E := by
  cases D with
  | run ns => exact fun H2 p s2 h => o H2 p (s.trans s2) h
  | long n => exact Rs.same o s
  | bad i n => exact Rs.same o s
abbrev InB (xs : List Int) : Prop := ∀ n ∈ xs, 0 ≤ n ∧ n ≤ 30
theorem mkr_run {xs : List Int} {H : Hp} {Q : VK} {E : XK} (b : InB xs) (o : Out K (dueRun xs) H Q E) : Mkr K xs H Q E := by
  unfold dueRun at o
  refine ⟨fun c => ?_, fun c i n e => ?_, fun c e => ?_⟩
  · rw [if_pos c] at o; exact o
  · rw [bad_none.mpr b] at e; cases e
  · rw [if_neg (by omega)] at o; exact o
theorem mkr_of {xs : List Int} {H : Hp} {Q : VK} {E : XK} (b : InB xs) (l : xs.length ≤ 60) (o : Out K (.run xs) H Q E) : Mkr K xs H Q E := by
  refine mkr_run b ?_
  unfold dueRun
  rw [if_neg (by omega)]
  exact o
theorem inB_rep {xs : List Int} {k : Int} (b : InB xs) : InB (repI xs k) := fun n hn => by
  obtain ⟨l, hl, hn⟩ := List.mem_flatten.mp hn
  rw [(List.mem_replicate.mp hl).2] at hn
  exact b n hn
theorem mulr_of {xs : List Int} {k : Int} {H : Hp} {Q : VK} {E : XK} (b : InB xs) (o : Out K (dueTimes xs k) H Q E) : Mulr K xs k H Q E := by
  unfold dueTimes at o
  refine ⟨fun c => ?_, fun c d => ?_, fun c d => ?_⟩
  · rw [if_pos c] at o; exact o
  · rw [if_neg (by omega), if_pos d] at o; exact o
  · rw [if_neg (by omega), if_neg (by omega)] at o
    refine mkr_of (inB_rep b) ?_ o
    unfold repI
    rw [len_rep]
    have : ((k.toNat * xs.length : Nat) : Int) ≤ 60 := by rw [Int.natCast_mul, Int.toNat_of_nonneg c, Int.mul_comm]; exact d
    omega
theorem ofr_of {xs : List Int} {k : Int} {H : Hp} {Q : VK} {E : XK} (l : xs.length ≤ 60) (o : Out K (dueOf xs k) H Q E) : Ofr K xs k H Q E := by
  unfold dueOf at o
  refine ⟨l, fun i n e => ?_, fun e => ?_⟩
  · rw [e] at o; exact o
  · rw [e] at o; exact mulr_of (bad_none.mp e) o
def spWorked (K : PySem.W.Frag) : Sp := fun vs H Q E => ∃ (way : Nat) (a b c : Addr) (xs ys sv : List Int) (k : Int), vs = [.int (way : Nat), .ref a, .ref b, .int k, .ref c] ∧ way < 12 ∧ IsW K H a xs ∧ IsW K H b ys ∧ SqL K H c (sv.map V.int) ∧
  xs.length ≤ 60 ∧ ys.length ≤ 60 ∧ InB xs ∧ InB ys ∧ sv.length = 7 ∧ Out K (dueWay way xs ys sv k) H Q E
theorem ok_law_worked (T : Tx K mg) : Ok PG w K mg base (L2.CX PG w) 9 (a_law_worked K) p_law_worked (spWorked K) := by
  refine Ok.of 8 T.f_law_worked sc_law_worked bi_law_worked (by decide) (fun vs H Q E h => ?_) (fun cdv A outer s H vs Q E hr h => ?_)
  · obtain ⟨_, _, _, _, _, _, _, _, rfl, _⟩ := h
    rfl
  · obtain ⟨way, a, b, c, xs, ys, sv, k, rfl, hw, ha, hb, hc, l1, l2, b1, b2, l3, o⟩ := h
    obtain ⟨p0, cm⟩ := T.ofWants
    have hr7 := hr.mono (show 7 ≤ 8 by decide)
    have hr6 := hr.mono (show 6 ≤ 8 by decide)
    refine ⟨_, pss_cons (ps_if (pt_cmpR op_eq (pv 0) pe_int (nomark _)) (pss_one (ps_ret (pe_op (oOwn (ok_Wants_add T) T.wadd hr6 px) (pv 1) (pv 2)))) pss_nil)
      (pss_cons (ps_if (pt_cmpR op_eq (pv 0) pe_int (nomark _)) (pss_one (ps_ret (pe_op (oOwnI (ok_Wants_mul T) T.wmul hr6 px) (pv 1) (pv 3)))) pss_nil)
      (pss_cons (ps_if (pt_cmpR op_eq (pv 0) pe_int (nomark _)) (pss_one (ps_ret (pe_op (oOwnR (ok_Wants_rmul T) T.wrmul hr7 px) (pv 3) (pv 1)))) pss_nil)
      (pss_cons (ps_if (pt_cmpR op_eq (pv 0) pe_int (nomark _)) (pss_one (ps_ret (pe_op (oOwnI (ok_Wants_lshift T) T.wlshift hr6 px) (pv 1) (pv 3)))) pss_nil)
      (pss_cons (ps_if (pt_cmpR op_eq (pv 0) pe_int (nomark _)) (pss_one (ps_ret (pe_op (oOwnI (ok_Wants_rshift T) T.wrshift hr6 px) (pv 1) (pv 3)))) pss_nil)
      (pss_cons (ps_if (pt_cmpR op_eq (pv 0) pe_int (nomark _)) (pss_one (ps_ret (pe_un (uOwn (ok_Wants_neg T) T.wneg hr6 px) (pv 1)))) pss_nil)
      (pss_cons (ps_if (pt_cmpR op_eq (pv 0) pe_int (nomark _)) (pss_one (ps_ret (pe_cms (pgC T.gWants) T.rWants cm (ok_Wants_of1 T) hr7 px (pa_cons (pe_ix ix_list (pv 4) pe_int (fun _ _ => rfl)) (pa_cons (pe_ix ix_list (pv 4) pe_int (fun _ _ => rfl)) (pa_cons (pe_ix ix_list (pv 4) pe_int (fun _ _ => rfl)) (pa_cons (pe_ix ix_list (pv 4) pe_int (fun _ _ => rfl)) (pa_cons (pe_ix ix_list (pv 4) pe_int (fun _ _ => rfl)) (pa_cons (pe_ix ix_list (pv 4) pe_int (fun _ _ => rfl)) (pa_cons (pe_ix ix_list (pv 4) pe_int (fun _ _ => rfl)) pa_nil))))))) (pk_cons (pv 3) pk_nil)))) pss_nil)
      (pss_cons (ps_if (pt_cmpR op_eq (pv 0) pe_int (nomark _)) (pss_one (ps_ret (pe_cms0 (pgC T.gWants) T.rWants cm (ok_Wants_of1 T) hr7 px (pk_cons (pv 3) pk_nil)))) pss_nil)
      (pss_cons (ps_if (pt_cmpR op_eq (pv 0) pe_int (nomark _)) (pss_one (ps_ret (pe_cms (pgC T.gWants) T.rWants cm (ok_Wants_ofN T) hr7 px (pa_cons (pe_ix ix_list (pv 4) pe_int (fun _ _ => rfl)) pa_nil) pk_nil))) pss_nil)
      (pss_cons (ps_if (pt_cmpR op_eq (pv 0) pe_int (nomark _)) (pss_one (ps_ret (pe_cms0 (pgC T.gWants) T.rWants cm (ok_Wants_ofN T) hr7 px pk_nil))) pss_nil)
      (pss_cons (ps_if (pt_cmpR op_eq (pv 0) pe_int (nomark _)) (pss_one (ps_ret (pe_op (oOwn (ok_Wants_add T) T.wadd hr6 px) (pv 1) (pv 1)))) pss_nil)
      (pss_one (ps_ret (pe_cms (pgC T.gWants) T.rWants cm (ok_Wants_ofN T) hr7 px (pa_cons (pe_ix ix_list (pv 4) pe_int (fun _ _ => rfl)) (pa_cons (pe_ix ix_list (pv 4) pe_int (fun _ _ => rfl)) (pa_cons (pe_ix ix_list (pv 4) pe_int (fun _ _ => rfl)) pa_nil))) pk_nil))))))))))))), ?_⟩
    obtain ⟨dx, t, ha1, ha2⟩ := id ha
    obtain ⟨dy, u, hb1, hb2⟩ := id hb
    have hway : way = 0 ∨ way = 1 ∨ way = 2 ∨ way = 3 ∨ way = 4 ∨ way = 5 ∨ way = 6 ∨ way = 7 ∨ way = 8 ∨ way = 9 ∨ way = 10 ∨ way = 11 := by omega
    have ab : InB (xs ++ ys) := fun n hn => (List.mem_append.mp hn).elim (b1 n) (b2 n)
    have aa : InB (xs ++ xs) := fun n hn => (List.mem_append.mp hn).elim (b1 n) (b1 n)
    obtain ⟨s0, s1, s2, s3, s4, s5, s6, rfl⟩ : ∃ s0 s1 s2 s3 s4 s5 s6, sv = [s0, s1, s2, s3, s4, s5, s6] := by
      match sv, l3 with
      | [s0, s1, s2, s3, s4, s5, s6], _ => exact ⟨s0, s1, s2, s3, s4, s5, s6, rfl⟩
    rcases hway with rfl | rfl | rfl | rfl | rfl | rfl | rfl | rfl | rfl | rfl | rfl | rfl
    · refine ⟨_, rfl, rfl, _, rfl, yep (by decide) ?_⟩; exact ⟨_, rfl, _, rfl, a, dx, _, b, dy, _, rfl, rfl, ha1, hb1, a, b, xs, ys, rfl, ha, hb, l1, l2, mkr_run ab o⟩
    · (iterate 1 (refine ⟨_, rfl, rfl, _, rfl, nope (by decide) ?_⟩)); refine ⟨_, rfl, rfl, _, rfl, yep (by decide) ?_⟩; exact ⟨_, rfl, _, rfl, a, dx, _, k, rfl, rfl, ha1, a, xs, k, rfl, ha, l1, mulr_of b1 o⟩
    · (iterate 2 (refine ⟨_, rfl, rfl, _, rfl, nope (by decide) ?_⟩)); refine ⟨_, rfl, rfl, _, rfl, yep (by decide) ?_⟩; exact ⟨_, rfl, _, rfl, a, dx, _, k, rfl, rfl, ha1, a, xs, k, rfl, ha, l1, mulr_of b1 o⟩
    · (iterate 3 (refine ⟨_, rfl, rfl, _, rfl, nope (by decide) ?_⟩)); refine ⟨_, rfl, rfl, _, rfl, yep (by decide) ?_⟩
      have o' : Out K (if k < 0 then .bad 0 k else .run (xs.drop k.toNat)) H Q E := o
      refine ⟨_, rfl, _, rfl, a, dx, _, k, rfl, rfl, ha1, a, xs, k, rfl, ha, fun c => ?_, fun c => ?_⟩
      · rw [if_pos c] at o'; exact o'
      · rw [if_neg (by omega)] at o'
        exact mkr_of (fun n hn => b1 n (List.mem_of_mem_drop hn)) (by rw [List.length_drop]; omega) o'
    · (iterate 4 (refine ⟨_, rfl, rfl, _, rfl, nope (by decide) ?_⟩)); refine ⟨_, rfl, rfl, _, rfl, yep (by decide) ?_⟩
      have o' : Out K (if k < 0 then .bad 0 k else if (xs.length : Int) + k > 60 then .long (xs.length + k) else .run (List.replicate k.toNat 0 ++ xs)) H Q E := o
      refine ⟨_, rfl, _, rfl, a, dx, _, k, rfl, rfl, ha1, a, xs, k, rfl, ha, ⟨fun c => ?_, fun c d => ?_, fun c d => ?_⟩⟩
      · rw [if_pos c] at o'; exact o'
      · rw [if_neg (by omega), if_pos d] at o'; exact o'
      · rw [if_neg (by omega), if_neg (by omega)] at o'
        refine mkr_of (fun n hn => ?_) (by rw [List.length_append, List.length_replicate]; omega) o'
        rcases List.mem_append.mp hn with hn | hn
        · rw [(List.mem_replicate.mp hn).2]; decide
        · exact b1 n hn
    · (iterate 5 (refine ⟨_, rfl, rfl, _, rfl, nope (by decide) ?_⟩)); refine ⟨_, rfl, rfl, _, rfl, yep (by decide) ?_⟩
      exact ⟨_, rfl, a, dx, _, rfl, ha1, a, xs, rfl, ha, mkr_of (fun n hn => b1 n (List.mem_reverse.mp hn)) (by rw [List.length_reverse]; exact l1) o⟩
    · (iterate 6 (refine ⟨_, rfl, rfl, _, rfl, nope (by decide) ?_⟩)); refine ⟨_, rfl, rfl, _, rfl, yep (by decide) ?_⟩
      exact ⟨rfl, _, rfl, c, _, _, _, rfl, rfl, hc, rfl, _, rfl, c, _, _, _, rfl, rfl, hc, rfl, _, rfl, c, _, _, _, rfl, rfl, hc, rfl, _, rfl, c, _, _, _, rfl, rfl, hc, rfl, _, rfl, c, _, _, _, rfl, rfl, hc, rfl, _, rfl, c, _, _, _, rfl, rfl, hc, rfl, _, rfl, c, _, _, _, rfl, rfl, hc, rfl, _, rfl, k, [s0, s1, s2, s3, s4, s5, s6], rfl, rfl, ofr_of (by show 7 ≤ 60; decide) o⟩
    · (iterate 7 (refine ⟨_, rfl, rfl, _, rfl, nope (by decide) ?_⟩)); refine ⟨_, rfl, rfl, _, rfl, yep (by decide) ?_⟩
      exact ⟨rfl, _, rfl, k, [], rfl, rfl, ofr_of (Nat.zero_le _) o⟩
    · (iterate 8 (refine ⟨_, rfl, rfl, _, rfl, nope (by decide) ?_⟩)); refine ⟨_, rfl, rfl, _, rfl, yep (by decide) ?_⟩
      exact ⟨rfl, _, rfl, c, _, _, _, rfl, rfl, hc, rfl, [s0], rfl, rfl, ofr_of (by show 1 ≤ 60; decide) o⟩
    · (iterate 9 (refine ⟨_, rfl, rfl, _, rfl, nope (by decide) ?_⟩)); refine ⟨_, rfl, rfl, _, rfl, yep (by decide) ?_⟩
      exact ⟨rfl, [], rfl, rfl, ofr_of (Nat.zero_le _) o⟩
    · (iterate 10 (refine ⟨_, rfl, rfl, _, rfl, nope (by decide) ?_⟩)); refine ⟨_, rfl, rfl, _, rfl, yep (by decide) ?_⟩
      exact ⟨_, rfl, _, rfl, a, dx, _, a, dx, _, rfl, rfl, ha1, ha1, a, a, xs, xs, rfl, ha, ha, l1, l1, mkr_run aa o⟩
    · (iterate 11 (refine ⟨_, rfl, rfl, _, rfl, nope (by decide) ?_⟩))
      exact ⟨rfl, _, rfl, c, _, _, _, rfl, rfl, hc, rfl, _, rfl, c, _, _, _, rfl, rfl, hc, rfl, _, rfl, c, _, _, _, rfl, rfl, hc, rfl, [s0, s1, s2], rfl, rfl, ofr_of (by show 3 ≤ 60; decide) o⟩
end
end K01

set_option maxRecDepth 100000
set_option maxHeartbeats 4000000
/-! # calls and own operators in a try's body -/
namespace L2
open PySem PySem.Spec PyProof.Rows
section
variable {X : Cx} {CX : CXT} {k : Nat} {f C : Addr} {ps : List Str} {sp : Sp} {E : St → XK} {x : Str} {p pos : Pos} {e a b : Expr} {es : List Expr} {ta tb : TE} {t : TA} {op : Operator}
theorem pcS (O : Ok X.prog X.w X.K X.mg X.base CX k f ps sp) (hr : Room k X.A) (hm : X.mg x = some (.ref f)) (hx : ∀ σ, PassesAt CX X σ (E σ)) (ha : PA X (e :: es) t) (hg : Gl X x := by rfl) (hdb : (x == ("__debug__" : Str)) = false := by decide)
    (he : starEach (e :: es) X.env = (false, eval e X.env) :: starEach es X.env := by rfl) (hpl : (backTo pos (starEach es X.env)).any (·.1) = false := by rfl) :
    PE X (.Call (.Name x p) (e :: es) [] pos) (tCallS sp E t) := let ⟨fd, a, b, c⟩ := O.ex; pe_callS a hr hg hm c b hx ha hdb he hpl
/-- a op n in a try's body -/
def tOwnIS (C : Addr) (sp : Sp) (E : St → XK) (ta tb : TE) : TE := fun σ H Q => ta σ H fun x H1 => tb σ H1 fun y H2 => rOwnOpI C sp (E σ) x y H2 Q
theorem peOwnIS (O : Ok X.prog X.w X.K X.mg X.base CX k f ps sp) (W : OwnOpT X.K C op f "int") (hr : Room k X.A) (hx : ∀ σ, PassesAt CX X σ (E σ)) (ha : PE X a ta) (hb : PE X b tb) : PE X (.BinOp a op b pos) (tOwnIS C sp E ta tb) := by
  obtain ⟨fd, F, bn, _⟩ := O.ex
  refine ⟨fun pins s σ H Q I h => wpAny_BinOp (binT ha hb I h fun v u s2 x y H2 I2 rx ry q => ?_)⟩
  obtain ⟨a, dx, fs, n, rfl, rfl, ha, hsp⟩ := q
  cases rx
  obtain ⟨t, rfl⟩ := ry
  obtain ⟨od, J⟩ := inst_of I2.hok ha
  obtain ⟨m, hF⟩ := I2.fr
  obtain ⟨rc, h1, h2⟩ := W.rev
  obtain ⟨fo, h3⟩ := W.tf
  obtain ⟨ro, h4⟩ := W.tr
  refine PySem.W.ksp_binT (T := "int") hF I2.ok.mod.kin J rfl W.first W.at_ W.fn h1 h2 h3 h4 W.sub (wpAny_mono (run_fnS F hr bn (hx σ) I2 (us := [.ref a, .int n t]) (vs := [.ref a, .int n]) (.cons rfl (.cons ⟨t, rfl⟩ .nil)) hsp) (fun r s' q => back_of q) fun _ _ z => z)
end
end L2

set_option maxRecDepth 100000
set_option maxHeartbeats 8000000
namespace K01
open PySem PySem.Spec PyProof.Rows L2
section
variable {w : World} {K : PySem.W.Frag} {mg : Str → Option Value} {base : Heap}
/-- what _law_try gives: the word, and what was made -/
def IsTry (K : PySem.W.Frag) (H : Hp) (l : Addr) (D : Due) : Prop := ∃ wd m, H l = some (.lst [.ref wd, m]) ∧
  match D with
  | .run ns => SqT K H wd [.str "run"] ∧ ∃ p, m = .ref p ∧ IsW K H p ns
  | .long n => SqT K H wd [.str "TooLong", .int n, .bl true, .bl false]
  | .bad i n => SqT K H wd [.str "BadNumber", .int i, .int n, .bl true, .bl false]
def spTry (K : PySem.W.Frag) : Sp := fun vs H Q _ => ∃ (way : Nat) (a b c : Addr) (xs ys sv : List Int) (k : Int), vs = [.int (way : Nat), .ref a, .ref b, .int k, .ref c] ∧ way < 12 ∧ IsW K H a xs ∧ IsW K H b ys ∧ SqL K H c (sv.map V.int) ∧
  xs.length ≤ 60 ∧ ys.length ≤ 60 ∧ InB xs ∧ InB ys ∧ sv.length = 7 ∧ ∀ H' l, Same H H' → IsTry K H' l (dueWay way xs ys sv k) → Q (.ref l) H'
theorem ok_law_try (T : Tx K mg) : Ok PG w K mg base CX0 11 (a_law_try K) p_law_try (spTry K) := by
  refine Ok.of 10 T.f_law_try sc_law_try bi_law_try (by decide) (fun vs H Q E h => ?_) (fun cdv A outer s H vs Q E hr h => ?_)
  · obtain ⟨_, _, _, _, _, _, _, _, rfl, _⟩ := h
    rfl
  · obtain ⟨way, a, b, c, xs, ys, sv, k, rfl, hw, ha, hb, hc, l1, l2, b1, b2, l3, q⟩ := h
    have nd := sc_law_try.nd
    refine ⟨_, pss_cons (ps_set (i := 5) nd rfl (.inl rfl) pe_non)
      (pss_cons (ps_set (i := 6) nd rfl (.inl rfl) (pe_tup (pa_cons pe_str pa_nil)))
      (pss_cons (ps_try_any rfl rfl nd takes0
          (fun W pn xe tk _ => pss_one (ps_set (i := 5) nd rfl (.inl rfl) (pcS (ok_law_worked T) (hr.mono (by decide)) T.g_law_worked (fun σ => passAt tk σ) (pa_cons (pv 0) (pa_cons (pv 1) (pa_cons (pv 2) (pa_cons (pv 3) (pa_cons (pv 4) pa_nil))))))))
          (.as (i := 7) ⟨rfl, by decide, .inl T.e_TooLong.gC⟩ rfl rfl
            (fun a oe cls d pn hz hf => pss_one (ps_set (i := 6) nd rfl (.inl rfl) (pe_tup (pa_cons pe_str (pa_cons (pe_xf T.xTooLong.1 T.nTooLong_count hz hf (pv 7))
              (pa_cons (pe_and (pe_callB (call_isD T.xTooLong.2 hz hf) (by rfl) T.m_isinstance (by decide +kernel) (pa_cons (pv 7) (pa_cons (pgC T.gNightsError) pa_nil))) (pe_one (pe_callB (call_isD T.xTooLong.2 hz hf) (by rfl) T.m_isinstance (by decide +kernel) (pa_cons (pv 7) (pa_cons (pe_bltn (v := .ty "ValueError") (by rfl) T.m_ValueError (by decide +kernel) rfl) pa_nil)))))
              (pa_cons (pe_callB (call_isD T.xTooLong.2 hz hf) (by rfl) T.m_isinstance (by decide +kernel) (pa_cons (pv 7) (pa_cons (pgC T.e_BadNumber.gC) pa_nil))) pa_nil)))))))
          (.as (i := 7) ⟨rfl, by decide, .inl T.e_BadNumber.gC⟩ rfl rfl
            (fun a oe cls d pn hz hf => pss_one (ps_set (i := 6) nd rfl (.inl rfl) (pe_tup (pa_cons pe_str (pa_cons (pe_xf T.xBadNumber.1 T.nBadNumber_place hz hf (pv 7)) (pa_cons (pe_xf T.xBadNumber.1 T.nBadNumber_number hz hf (pv 7))
              (pa_cons (pe_and (pe_callB (call_isD T.xBadNumber.2 hz hf) (by rfl) T.m_isinstance (by decide +kernel) (pa_cons (pv 7) (pa_cons (pgC T.gNightsError) pa_nil))) (pe_one (pe_callB (call_isD T.xBadNumber.2 hz hf) (by rfl) T.m_isinstance (by decide +kernel) (pa_cons (pv 7) (pa_cons (pe_bltn (v := .ty "ValueError") (by rfl) T.m_ValueError (by decide +kernel) rfl) pa_nil)))))
              (pa_cons pe_bl pa_nil))))))))
          .nil)))
      (pss_one (ps_ret (pe_lst (pa_cons (pv 6) (pa_cons (pv 5) pa_nil))))))), ?_⟩
    refine ⟨by show 1 ≤ sizeLine; decide, fun wd hwd => ?_⟩
    have s1 : Same H (upd H wd (.tup [.str "run"])) := .new hwd
    have two : 2 ≤ sizeLine := by decide
    refine ⟨_, rfl, _, rfl, _, rfl, _, rfl, _, rfl, way, a, b, c, xs, ys, sv, k, rfl, hw, ha.same s1, hb.same s1, s1.seq hc, l1, l2, b1, b2, l3, ?_⟩
    cases hD : dueWay way xs ys sv k with
    | run ns =>
      rw [hD] at q
      intro H' p sm hp
      refine ⟨_, rfl, _, rfl, two, fun l hl => q _ l ((s1.trans sm).new' hl) ⟨wd, .ref p, upd_same, (Same.new hl).seqT (sm.seqT (SqT.of upd_same)), p, rfl, hp.same (.new hl)⟩⟩
    | long n =>
      rw [hD] at q
      intro H' d sm hd
      have nd1 : wd ≠ d := fun z => by
        have : H' wd = some (.tup [.str "run"]) := sm _ _ upd_same
        rw [z, hd] at this
        cases this
      have s2 : Same H (upd H' d (xT n)) := (s1.trans sm).new' hd
      refine ⟨true, T.mTooLong_TooLong, fun _ e he => ?_, fun z => nomatch z⟩
      refine ⟨_, rfl, rfl, rfl, d, _, _, rfl, upd_same, rfl, ?_⟩
      refine ⟨_, rfl, rfl, _, _, true, d, _, rfl, fun u r => r, rfl, upd_same, T.kTooLong_NightsError, _, rfl, yep rfl ?_⟩
      refine ⟨_, rfl, rfl, _, _, true, d, _, rfl, fun u r => r, rfl, upd_same, T.kTooLong_ValueError, ?_⟩
      refine ⟨_, rfl, rfl, _, _, false, d, _, rfl, fun u r => r, rfl, upd_same, T.kTooLong_BadNumber, ?_⟩
      refine ⟨by show 4 ≤ sizeLine; decide, fun w2 hw2 => ?_⟩
      refine ⟨_, rfl, _, rfl, two, fun l hl => q _ l ((s2.new' hw2).new' hl) ⟨w2, .non, upd_same, (Same.new hl).seqT (SqT.of upd_same)⟩⟩
    | bad i n =>
      rw [hD] at q
      intro H' d sm hd
      have s2 : Same H (upd H' d (xB i n)) := (s1.trans sm).new' hd
      refine ⟨false, T.mBadNumber_TooLong, ⟨fun z => Bool.noConfusion z, fun _ => ⟨true, T.mBadNumber_BadNumber, fun _ e he => ?_, fun z => nomatch z⟩⟩⟩
      refine ⟨_, rfl, rfl, rfl, d, _, _, rfl, upd_same, rfl, ?_⟩
      refine ⟨_, rfl, rfl, rfl, d, _, _, rfl, upd_same, rfl, ?_⟩
      refine ⟨_, rfl, rfl, _, _, true, d, _, rfl, fun u r => r, rfl, upd_same, T.kBadNumber_NightsError, _, rfl, yep rfl ?_⟩
      refine ⟨_, rfl, rfl, _, _, true, d, _, rfl, fun u r => r, rfl, upd_same, T.kBadNumber_ValueError, ?_⟩
      refine ⟨by show 5 ≤ sizeLine; decide, fun w2 hw2 => ?_⟩
      refine ⟨_, rfl, _, rfl, two, fun l hl => q _ l ((s2.new' hw2).new' hl) ⟨w2, .non, upd_same, (Same.new hl).seqT (SqT.of upd_same)⟩⟩
end
end K01

set_option maxRecDepth 100000
set_option maxHeartbeats 8000000
namespace K01
open PySem PySem.Spec PyProof.Rows L2
section
variable {w : World} {K : PySem.W.Frag} {mg : Str → Option Value} {base : Heap}
theorem passF {X : Cx} : Passes (L2.CX X.prog X.w) X (fun _ _ _ => False) := passes_call takes0 (fun _ _ _ _ h => h)
theorem tyW (T : Tx K mg) {H : Hp} {p dx : Addr} {fs : List (Str × V)} (h : H p = some (.ins (c_Wants K) dx fs)) : TyX K H (.ref p) (.ref (c_Wants K)) :=
  .base (.ins h T.cWants T.tWants.ha T.tWants.hn T.tWants.ht T.tWants.hm)
theorem eq_ints {H : Hp} {a b : Addr} {ns : List Int} (h : (SqT K H a (ns.map V.int) ∧ SqT K H b (ns.map V.int)) ∨ (SqL K H a (ns.map V.int) ∧ SqL K H b (ns.map V.int))) (l : ns.length ≤ 60) : Eqd K 1 H (.ref a) (.ref b) :=
  .inr ⟨a, b, _, _, rfl, rfl, h, rfl, by rw [List.length_map]; exact sL l, Eqd.ints⟩
def spHolds (K : PySem.W.Frag) : Sp := fun vs H Q _ => ∃ (p r : Addr) (ns : List Int), vs = [.ref p, .ref r] ∧ IsW K H p ns ∧ SqL K H r (ns.map V.int) ∧ ns.length ≤ 60 ∧ InB ns ∧ ∀ H', Same H H' → Q (.bl true) H'
theorem ok_law_holds (T : Tx K mg) : Ok PG w K mg base CX0 9 (a_law_holds K) p_law_holds (spHolds K) := by
  refine Ok.of 8 T.f_law_holds sc_law_holds bi_law_holds (by decide) (fun vs H Q E h => ?_) (fun cdv A outer s H vs Q E hr h => ?_)
  · obtain ⟨_, _, _, rfl, _⟩ := h
    rfl
  · obtain ⟨p, r, ns, rfl, hp, hrow, l1, b1, q⟩ := h
    obtain ⟨dx, t0, hp1, hp2⟩ := id hp
    have nd := sc_law_holds.nd
    have hr4 := hr.mono (show 4 ≤ 8 by decide)
    refine ⟨_, pss_cons (ps_if (PW.pt (pw_or (pt_not (pt_val (pe_callB call_isi (by rfl) T.m_isinstance (by decide +kernel) (pa_cons (pv 0) (pa_cons (pgC T.gWants) pa_nil)))))
          (pw_or1 (pt_not (pt_val (pc (ok_law_same T 1) hr4 T.g_law_same pass0 (pa_cons (pe_fld (pv 0) rfl) (pa_cons (pe_callTy call_tuple_of (by rfl) T.m_tuple (by decide +kernel) (pa_cons (pv 1) pa_nil)) pa_nil)))))))) (pss_one (ps_ret pe_bl)) pss_nil)
      (pss_cons (ps_if (PW.pt (pw_or (pt_not (pt_val (pc (ok_law_same T 1) hr4 T.g_law_same pass0 (pa_cons (pe_lc (own := [("want", 2)]) (g := gName 2) (tt := tYes) rfl nd (pi_own (it_Wants T) hr (pv 0)) (blkOk_by (N := n_law_holds) (sc := defScope s_law_holds) (by decide +kernel)) (fun _ _ _ _ _ => pg_name (i := 2) nd rfl (Or.inl rfl)) (fun _ _ _ _ _ => pts_nil) (fun _ _ _ _ _ => pv 2)) (pa_cons (pv 1) pa_nil)))))
          (pw_or1 (pt_not (pt_val (pc (ok_law_same T 1) hr4 T.g_law_same pass0 (pa_cons (pe_callB (cAbs (ok_Wants_abs T) T.wabs (hr.mono (by decide)) pass0) (by rfl) T.m_abs (by decide +kernel) (pa_cons (pv 0) pa_nil)) (pa_cons (pe_callB (cr_sumA rfl) (by rfl) T.m_sum (by decide +kernel) (pa_cons (pv 1) pa_nil)) pa_nil)))))))) (pss_one (ps_ret pe_bl)) pss_nil)
      (pss_cons (ps_set (i := 3) nd rfl (.inl rfl) (pe_op (oOwnI (ok_Wants_lshift T) T.wlshift (hr.mono (by decide)) passF) (pv 0) pe_int))
      (pss_one (ps_ret (pe_and (pe_callB call_isi (by rfl) T.m_isinstance (by decide +kernel) (pa_cons (pv 3) (pa_cons (pgC T.gWants) pa_nil)))
          (pe_one (pc (ok_law_same T 1) hr4 T.g_law_same pass0 (pa_cons (pe_fld (pv 3) rfl) (pa_cons (pe_callTy call_tuple_of (by rfl) T.m_tuple (by decide +kernel) (pa_cons (pe_slice sl_list (pv 1) (po_some pe_int) po_none) pa_nil)) pa_nil))))))))), ?_⟩
    refine ⟨_, rfl, _, _, _, _, true, rfl, .own _, tyW T hp1, T.kWants_Wants, _, rfl, nope rfl ?_⟩
    refine ⟨_, rfl, p, _, dx, _, _, rfl, hp1, T.cWants, T.nWants, rfl, _, rfl, r, _, rfl, .inl ⟨hrow, fun t ht => ?_⟩⟩
    have s1 : Same H (upd H t (.tup (ns.map V.int))) := .new ht
    refine ⟨_, _, rfl, eq_ints (.inl ⟨s1.seqT hp2, SqT.of upd_same⟩) l1, _, rfl, nope rfl ?_⟩
    refine ⟨_, rfl, p, dx, _, t0, _, rfl, s1 _ _ hp1, rfl, s1.seqT hp2, fun D hD => ?_⟩
    have s2 : ∀ acc, Same H (upd (upd H t (.tup (ns.map V.int))) D (.lst acc)) := fun acc => s1.new' hD
    refine lc_it (walk_tup (xs := ns.map V.int)) (fun i H' => H' = upd (upd H t (.tup (ns.map V.int))) D (.lst ((ns.map V.int).take i))) rfl (fun i H' _ e => by rw [e]; exact (s2 _).seqT hp2) (fun i x H' H2 hi e y => ?_) (fun H' e => ?_)
    · subst e
      obtain ⟨rfl, hx⟩ := y
      refine ⟨rfl, yesT ?_⟩
      refine ⟨_, rfl, _, upd_same, by rw [List.length_take, sizeLine_eq]; rw [List.length_map] at hi ⊢; omega, ?_⟩
      rw [upd_upd, List.take_succ, hx]
      rfl
    · subst e
      rw [List.take_length]
      refine ⟨_, rfl, _, _, rfl, eq_ints (.inr ⟨SqL.of upd_same, (s2 _).seq hrow⟩) l1, _, rfl, nope rfl ?_⟩
      refine ⟨_, rfl, p, dx, _, rfl, s2 _ _ _ hp1, p, ns, rfl, hp.same (s2 _), _, rfl, r, ns, rfl, .inl ((s2 _).seq hrow), _, _, rfl, .atom (.int _), _, rfl, nope rfl ?_⟩
      have ld : (ns.drop 1).length ≤ 60 := by rw [List.length_drop]; omega
      refine ⟨_, rfl, p, dx, _, 1, rfl, rfl, s2 _ _ _ hp1, p, ns, 1, rfl, hp.same (s2 _), fun c => absurd c (by decide), fun _ => mkr_of (fun n hn => b1 n (List.mem_of_mem_drop hn)) ld (fun H' p' sm hp' => ?_)⟩
      obtain ⟨dy, t1, h1, h2⟩ := hp'
      have s3 := (s2 (ns.map V.int)).trans sm
      refine ⟨_, rfl, _, _, _, _, true, rfl, .own _, tyW T h1, T.kWants_Wants, _, rfl, yep rfl ?_⟩
      refine ⟨_, rfl, p', _, dy, _, _, rfl, h1, T.cWants, T.nWants, rfl, _, rfl, _, rfl, r, _, rfl, s3.seq hrow, fun c hc => ⟨c, _, rfl, .inl ⟨SqL.of upd_same, fun t' ht' => ?_⟩⟩⟩
      refine ⟨_, _, rfl, eq_ints (ns := ns.drop 1) (.inl ⟨(Same.new ht').seqT ((Same.new hc).seqT h2), ?_⟩) ld, q _ ((s3.new' hc).new' ht')⟩
      show SqT K _ t' ((ns.drop (1 : Int).toNat).map V.int)
      rw [← cut_drop ns 1 (by decide)]
      exact SqT.of upd_same
def spBase (K : PySem.W.Frag) : Sp := fun vs H Q _ => ∃ (p : Addr) (ns : List Int), vs = [.ref p] ∧ IsW K H p ns ∧ ∀ H' l, Same H H' → H' l = some (.lst [.bl true, .bl true]) → Q (.ref l) H'
theorem ok_law_base (T : Tx K mg) : Ok PG w K mg base CX0 9 (a_law_base K) p_law_base (spBase K) := by
  refine Ok.of 8 T.f_law_base sc_law_base bi_law_base (by decide) (fun vs H Q E h => ?_) (fun cdv A outer s H vs Q E hr h => ?_)
  · obtain ⟨_, _, rfl, _⟩ := h
    rfl
  · obtain ⟨p, ns, rfl, hp, q⟩ := h
    obtain ⟨dx, t0, hp1, hp2⟩ := id hp
    have nd := sc_law_base.nd
    refine ⟨_, pss_cons (ps_set (i := 1) nd rfl (.inl rfl) (pe_lst pa_nil))
      (pss_cons (ps_try_any rfl rfl nd takes0 (fun W pn xe tk _ => pss_one (ps_set (i := 2) nd rfl (.inl rfl) (peOwnIS (ok_Wants_rshift T) T.wrshift (hr.mono (by decide)) (fun σ => passAt tk σ) (pv 0) pe_int)))
          (.as (i := 3) ⟨rfl, by decide, .inl T.gNightsError⟩ rfl rfl
            (fun a oe cls d pn hz hf => pss_one (ps_expr (show PE _ _ (tBM K _ _ (tVar 1) _) from pe_bm PySem.F.plainAttrs_list PySem.F.slot_list_append PySem.F.type_list_append mt_append (pv 1) (pa_cons (pe_callB (call_isD T.xTooLong.2 hz hf) (by rfl) T.m_isinstance (by decide +kernel) (pa_cons (pv 3) (pa_cons (pgC T.e_TooLong.gC) pa_nil))) pa_nil)))) .nil))
      (pss_cons (ps_try_any rfl rfl nd takes0 (fun W pn xe tk _ => pss_one (ps_set (i := 2) nd rfl (.inl rfl) (peOwnIS (ok_Wants_lshift T) T.wlshift (hr.mono (by decide)) (fun σ => passAt tk σ) (pv 0) (pe_un un_neg pe_int))))
          (.as (i := 3) ⟨rfl, by decide, .inl T.gNightsError⟩ rfl rfl
            (fun a oe cls d pn hz hf => pss_one (ps_expr (show PE _ _ (tBM K _ _ (tVar 1) _) from pe_bm PySem.F.plainAttrs_list PySem.F.slot_list_append PySem.F.type_list_append mt_append (pv 1) (pa_cons (pe_callB (call_isD T.xBadNumber.2 hz hf) (by rfl) T.m_isinstance (by decide +kernel) (pa_cons (pv 3) (pa_cons (pgC T.e_BadNumber.gC) pa_nil))) pa_nil)))) .nil))
      (pss_one (ps_ret (pv 1))))), ?_⟩
    refine ⟨Nat.zero_le _, fun l hl => ?_⟩
    have s1 : ∀ xs, Same H (upd H l (.lst xs)) := fun xs => .new hl
    refine ⟨_, rfl, p, dx, _, 61, rfl, rfl, s1 _ _ _ hp1, p, ns, 61, rfl, hp.same (s1 _), ⟨fun c => absurd c (by decide), fun _ _ => ?_, fun _ c => absurd c (by omega)⟩⟩
    intro H' d sm hd
    have hl' : H' l = some (.lst []) := sm _ _ upd_same
    have ld : l ≠ d := fun z => by rw [z, hd] at hl'; cases hl'
    refine ⟨true, T.mTooLong_NightsError, fun _ e he => ?_, fun z => nomatch z⟩
    refine ⟨_, rfl, .inl ⟨rfl, _, SqL.of (by rw [upd_ne ld]; exact hl')⟩, _, rfl, rfl, _, _, true, d, _, rfl, fun u r => r, rfl, upd_same, T.kTooLong_TooLong, l, _, _, rfl, rfl, by rw [upd_ne ld]; exact hl', by decide, ?_⟩
    have s2 : ∀ xs, Same H (upd (upd H' d (xT (ns.length + 61))) l (.lst xs)) := fun xs b o hb => by
      have nl : b ≠ l := fun z => by rw [z, hl] at hb; cases hb
      rw [upd_ne nl]
      exact (sm.new' hd) _ _ (by rw [upd_ne nl]; exact hb)
    refine ⟨_, rfl, _, rfl, p, dx, _, -1, rfl, rfl, s2 _ _ _ hp1, p, ns, -1, rfl, hp.same (s2 _), fun _ => ?_, fun c => absurd c (by decide)⟩
    intro H2 d2 sm2 hd2
    have hl2 : H2 l = some (.lst [.bl true]) := sm2 _ _ upd_same
    have ld2 : l ≠ d2 := fun z => by rw [z, hd2] at hl2; cases hl2
    refine ⟨true, T.mBadNumber_NightsError, fun _ e he => ?_, fun z => nomatch z⟩
    refine ⟨_, rfl, .inl ⟨rfl, _, SqL.of (by rw [upd_ne ld2]; exact hl2)⟩, _, rfl, rfl, _, _, true, d2, _, rfl, fun u r => r, rfl, upd_same, T.kBadNumber_BadNumber, l, _, _, rfl, rfl, by rw [upd_ne ld2]; exact hl2, by decide, ?_⟩
    refine ⟨_, rfl, q _ l (fun b o hb => ?_) upd_same⟩
    have nl : b ≠ l := fun z => by rw [z, hl] at hb; cases hb
    rw [upd_ne nl]
    exact (sm2.new' hd2) _ _ (s2 _ _ _ hb)
end
end K01

set_option maxRecDepth 100000
set_option maxHeartbeats 8000000
namespace L2
open PySem PySem.Spec PyProof.Rows
theorem But.fresh {p : Addr} {o : HO} {H H' : Hp} (hn : H p = none) (bt : But p (upd H p o) H') : Same H H' := fun b u e => by
  have nb : b ≠ p := fun z => by rw [z, hn] at e; cases e
  exact bt b u nb (by rw [upd_ne nb]; exact e)
theorem But.seqT {K : PySem.W.Frag} {p a : Addr} {H H' : Hp} {xs ps : List V} (s : But p H H') (hp : H p = some (.lst ps)) (h : SqT K H a xs) : SqT K H' a xs := by
  rcases h with (h | ⟨o, h⟩) | h
  · exact .inl (.inl (s _ _ (fun z => by rw [z, hp] at h; cases h) h))
  · exact .inl (.inr ⟨o, s _ _ (fun z => by rw [z, hp] at h; cases h) h⟩)
  · exact .inr h
end L2
namespace K01
open PySem PySem.Spec PyProof.Rows L2
section
variable {K : PySem.W.Frag}
theorem IsW.but {p a : Addr} {H H' : Hp} {ns : List Int} {ps : List V} (h : IsW K H a ns) (s : But p H H') (hp : H p = some (.lst ps)) : IsW K H' a ns := by
  obtain ⟨dx, t, h1, h2⟩ := h
  exact ⟨dx, t, s _ _ (fun z => by rw [z, hp] at h1; cases h1) h1, s.seqT hp h2⟩
/-- what the law's loop finds in the heap -/
structure LawSt (K : PySem.W.Frag) (pl ra wa sv r0 r1 w0 w1 : Addr) (xs ys zs : List Int) (H : Hp) : Prop where
  rows : H ra = some (.lst [.ref r0, .ref r1])
  row0 : H r0 = some (.lst (xs.map V.int))
  row1 : H r1 = some (.lst (ys.map V.int))
  runs : H wa = some (.lst [.ref w0, .ref w1])
  run0 : IsW K H w0 xs
  run1 : IsW K H w1 ys
  seven : H sv = some (.lst (zs.map V.int))
  pool : ∃ st, H pl = some (.lst st) ∧ PoolOk st
  ne : ra ≠ pl ∧ r0 ≠ pl ∧ r1 ≠ pl ∧ wa ≠ pl ∧ sv ≠ pl
  l0 : xs.length ≤ 60
  l1 : ys.length ≤ 60
  l7 : zs.length = 7
  b0 : InB xs
  b1 : InB ys
variable {pl ra wa sv r0 r1 w0 w1 : Addr} {xs ys zs : List Int} {H H' : Hp}
theorem LawSt.same (S : LawSt K pl ra wa sv r0 r1 w0 w1 xs ys zs H) (s : Same H H') : LawSt K pl ra wa sv r0 r1 w0 w1 xs ys zs H' where
  rows := s _ _ S.rows
  row0 := s _ _ S.row0
  row1 := s _ _ S.row1
  runs := s _ _ S.runs
  run0 := S.run0.same s
  run1 := S.run1.same s
  seven := s _ _ S.seven
  pool := let ⟨st, a, b⟩ := S.pool; ⟨st, s _ _ a, b⟩
  ne := S.ne
  l0 := S.l0
  l1 := S.l1
  l7 := S.l7
  b0 := S.b0
  b1 := S.b1
theorem LawSt.but {st : List V} (S : LawSt K pl ra wa sv r0 r1 w0 w1 xs ys zs H) (s : But pl H H') (hp : H' pl = some (.lst st)) (ok : PoolOk st) : LawSt K pl ra wa sv r0 r1 w0 w1 xs ys zs H' := by
  obtain ⟨st0, p0, _⟩ := S.pool
  exact ⟨s _ _ S.ne.1 S.rows, s _ _ S.ne.2.1 S.row0, s _ _ S.ne.2.2.1 S.row1, s _ _ S.ne.2.2.2.1 S.runs, S.run0.but s p0, S.run1.but s p0, s _ _ S.ne.2.2.2.2 S.seven, ⟨st, hp, ok⟩, S.ne, S.l0, S.l1, S.l7, S.b0, S.b1⟩
/-- the side that is on -/
structure Side (K : PySem.W.Frag) (r0 r1 w0 w1 : Addr) (i : Nat) (rA rB wA wB : Addr) (xs ys xA xB : List Int) : Prop where
  rA_ : atI [V.ref r0, V.ref r1] (i : Nat) = some (.ref rA)
  rB_ : atI [V.ref r0, V.ref r1] (1 - ((i : Nat) : Int)) = some (.ref rB)
  wA_ : atI [V.ref w0, V.ref w1] (i : Nat) = some (.ref wA)
  wB_ : atI [V.ref w0, V.ref w1] (1 - ((i : Nat) : Int)) = some (.ref wB)
  st : ∀ {pl ra wa sv : Addr} {zs : List Int} {H : Hp}, LawSt K pl ra wa sv r0 r1 w0 w1 xs ys zs H → H rA = some (.lst (xA.map V.int)) ∧ H rB = some (.lst (xB.map V.int)) ∧ IsW K H wA xA ∧ IsW K H wB xB ∧ xA.length ≤ 60 ∧ xB.length ≤ 60 ∧ InB xA ∧ InB xB
theorem side {i : Nat} (h : i < 2) : ∃ rA rB wA wB xA xB, Side K r0 r1 w0 w1 i rA rB wA wB xs ys xA xB := by
  match i, h with
  | 0, _ => exact ⟨r0, r1, w0, w1, xs, ys, rfl, rfl, rfl, rfl, fun S => ⟨S.row0, S.row1, S.run0, S.run1, S.l0, S.l1, S.b0, S.b1⟩⟩
  | 1, _ => exact ⟨r1, r0, w1, w0, ys, xs, rfl, rfl, rfl, rfl, fun S => ⟨S.row1, S.row0, S.run1, S.run0, S.l1, S.l0, S.b1, S.b0⟩⟩
theorem run_inB {j : Nat} {xs ys zs ns : List Int} {k : Int} (e : dueWay j xs ys zs k = .run ns) (b0 : InB xs) (b1 : InB ys) : InB ns := by
  have tm : ∀ {as : List Int} {k : Int}, dueTimes as k = .run ns → InB as → InB ns := fun {as k} e b => by
    unfold dueTimes at e
    split at e
    · cases e
    · split at e
      · cases e
      · cases e; exact inB_rep b
  have rn : ∀ {as : List Int}, dueRun as = .run ns → InB as → InB ns := fun {as} e b => by
    unfold dueRun at e
    split at e
    · cases e
    · cases e; exact b
  have of : ∀ {as : List Int} {k : Int}, dueOf as k = .run ns → InB ns := fun {as k} e => by
    unfold dueOf at e
    split at e
    · cases e
    · rename_i h
      exact tm e (bad_none.mp h)
  unfold dueWay at e
  split at e
  · exact rn e fun n hn => (List.mem_append.mp hn).elim (b0 n) (b1 n)
  · exact tm e b0
  · exact tm e b0
  · split at e
    · cases e
    · cases e; exact fun n hn => b0 n (List.mem_of_mem_drop hn)
  · split at e
    · cases e
    · split at e
      · cases e
      · cases e
        intro n hn
        rcases List.mem_append.mp hn with hn | hn
        · rw [(List.mem_replicate.mp hn).2]; decide
        · exact b0 n hn
  · cases e; exact fun n hn => b0 n (List.mem_reverse.mp hn)
  · exact of e
  · exact of e
  · exact of e
  · cases e; exact fun n hn => by cases hn
  · exact rn e fun n hn => (List.mem_append.mp hn).elim (b0 n) (b0 n)
  · exact of e
end
end K01

set_option maxRecDepth 100000
set_option maxHeartbeats 16000000
namespace K01
open PySem PySem.Spec PyProof.Rows L2
def forBody : Stmt → List Stmt
  | .For _ _ b _ _ => b
  | _ => []
abbrev loopS (i : Nat) : Stmt := (defBody s_law).getD i (.Pass ⟨0, 0, 0, 0⟩)
abbrev innerB : List Stmt := forBody ((forBody (loopS 5)).getD 0 (.Pass ⟨0, 0, 0, 0⟩))
/-- the law's slots in its loops -/
def Sl (ra wa pl sv : Addr) (i : Int) (σ : L2.St) : Prop := ∃ s0 s5 s7 s8 s9 s10 s11, σ = [s0, some (.ref ra), some (.ref wa), some (.ref pl), some (.ref sv), s5, some (.int i), s7, s8, s9, s10, s11]
section
variable {w : World} {K : PySem.W.Frag} {mg : Str → Option Value} {base : Heap}
theorem eq_row {H : Hp} {a b : Addr} {n m : List Int} (T : Tx K mg) : True := trivial
/-- behind the answers: the runs are as they were -/
theorem step_end (T : Tx K mg) (cdv : Value) (A : Around) (outer : List Env) (s : Shared) (H : Hp) (E : XK) (hr : Room 13 (A.deeper (envOfC "law" (defScope s_law) s.heap.objs.size (a_law K) cdv))) :
    ∃ t, PSs (cxOf CX0 PG w K mg base n_law "law" (defScope s_law) (a_law K) cdv A outer s H E) (innerB.drop 6) t ∧ ∀ (D : Ends) (pl ra wa sv r0 r1 w0 w1 : Addr) (xs ys zs : List Int) (i : Int) (σ : L2.St) (H' : Hp),
      Sl ra wa pl sv i σ → LawSt K pl ra wa sv r0 r1 w0 w1 xs ys zs H' → (∀ H2, LawSt K pl ra wa sv r0 r1 w0 w1 xs ys zs H2 → D.nx σ H2) → t D σ H' := by
  have nd := sc_law.nd
  have hr4 := hr.mono (show 4 ≤ 13 by decide)
  refine ⟨_, (pss_one (ps_if (PW.pt (pw_or (pt_not (pt_val (pc (ok_law_same T 1) hr4 T.g_law_same pass0 (pa_cons (pe_fld (pe_ix ix_list (pv 2) pe_int (fun _ _ => rfl)) rfl) (pa_cons (pe_callTy call_tuple_of (by rfl) T.m_tuple (by decide +kernel) (pa_cons (pe_ix ix_list (pv 1) pe_int (fun _ _ => rfl)) pa_nil)) pa_nil)))))
            (pw_or1 (pt_not (pt_val (pc (ok_law_same T 1) hr4 T.g_law_same pass0 (pa_cons (pe_fld (pe_ix ix_list (pv 2) pe_int (fun _ _ => rfl)) rfl) (pa_cons (pe_callTy call_tuple_of (by rfl) T.m_tuple (by decide +kernel) (pa_cons (pe_ix ix_list (pv 1) pe_int (fun _ _ => rfl)) pa_nil)) pa_nil)))))))) (pss_one (ps_ret pe_bl)) pss_nil)), ?_⟩
  rintro D pl ra wa sv r0 r1 w0 w1 xs ys zs i σ H' ⟨s0, s5, s7, s8, s9, s10, s11, rfl⟩ S nx
  obtain ⟨d0, t0, a0, b0⟩ := S.run0
  refine ⟨_, rfl, wa, _, 0, _, rfl, rfl, SqL.of S.runs, rfl, w0, _, d0, _, _, rfl, a0, T.cWants, T.nWants, rfl, _, rfl, ra, _, 0, _, rfl, rfl, SqL.of S.rows, rfl, r0, _, rfl, .inl ⟨SqL.of S.row0, fun t ht => ?_⟩⟩
  have S1 := S.same (.new (o := .tup (xs.map V.int)) ht)
  obtain ⟨d1, t1, a1, b1⟩ := S1.run1
  refine ⟨_, _, rfl, eq_ints (.inl ⟨(Same.new ht).seqT b0, SqT.of upd_same⟩) S.l0, _, rfl, nope rfl ?_⟩
  refine ⟨_, rfl, wa, _, 1, _, rfl, rfl, SqL.of S1.runs, rfl, w1, _, d1, _, _, rfl, a1, T.cWants, T.nWants, rfl, _, rfl, ra, _, 1, _, rfl, rfl, SqL.of S1.rows, rfl, r1, _, rfl, .inl ⟨SqL.of S1.row1, fun u hu => ?_⟩⟩
  exact ⟨_, _, rfl, eq_ints (.inl ⟨(Same.new hu).seqT b1, SqT.of upd_same⟩) S.l1, _, rfl, nope rfl (nx _ (S1.same (.new hu)))⟩
end
end K01

set_option maxRecDepth 100000
set_option maxHeartbeats 16000000
namespace K01
open PySem PySem.Spec PyProof.Rows L2
section
variable {w : World} {K : PySem.W.Frag} {mg : Str → Option Value} {base : Heap}
theorem step_mid (T : Tx K mg) (cdv : Value) (A : Around) (outer : List Env) (s : Shared) (H : Hp) (E : XK) (hr : Room 13 (A.deeper (envOfC "law" (defScope s_law) s.heap.objs.size (a_law K) cdv))) :
    ∃ t, PSs (cxOf CX0 PG w K mg base n_law "law" (defScope s_law) (a_law K) cdv A outer s H E) (innerB.drop 2) t ∧ ∀ (D : Ends) (pl ra wa sv r0 r1 w0 w1 rA rB wA wB : Addr) (xs ys zs xA xB : List Int) (i j : Nat) (n : Int) (s0 s5 s9 s10 s11 : Option V) (H' : Hp),
      Side K r0 r1 w0 w1 i rA rB wA wB xs ys xA xB → j < 12 → 0 ≤ n → n ≤ 60 → LawSt K pl ra wa sv r0 r1 w0 w1 xs ys zs H' →
      (∀ σ2 H2, (∃ s7, Sl ra wa pl sv (i : Nat) σ2 ∧ s7 = σ2[7]?) → LawSt K pl ra wa sv r0 r1 w0 w1 xs ys zs H2 → D.nx σ2 H2) → t D [s0, some (.ref ra), some (.ref wa), some (.ref pl), some (.ref sv), s5, some (.int (i : Nat)), some (.int (j : Nat)), some (.int n), s9, s10, s11] H' := by
  have nd := sc_law.nd
  have hr11 := hr.mono (show 11 ≤ 13 by decide)
  have hr9 := hr.mono (show 9 ≤ 13 by decide)
  have hr6 := hr.mono (show 6 ≤ 13 by decide)
  have hr4 := hr.mono (show 4 ≤ 13 by decide)
  obtain ⟨te, de, re⟩ := step_end (w := w) (base := base) T cdv A outer s H E hr
  refine ⟨_, pss_cons (ps_set (i := 9) nd rfl (.inl rfl) (pc (ok_law_many T) hr6 T.g_law_many pass0 (pa_cons (pv 3) (pa_cons (pv 8) pa_nil))))
        (pss_cons (ps_set (i := 10) nd rfl (.inl rfl) (pc (ok_law_try T) hr11 T.g_law_try pass0 (pa_cons (pv 7) (pa_cons (pe_ix ix_list (pv 2) (pv 6) (fun _ _ => rfl)) (pa_cons (pe_ix ix_list (pv 2) (pe_op op_sub pe_int (pv 6)) (fun _ _ => rfl)) (pa_cons (pv 9) (pa_cons (pv 4) pa_nil)))))))
        (pss_cons (ps_set (i := 11) nd rfl (.inl rfl) (pc (ok_law_due T) hr6 T.g_law_due pass0 (pa_cons (pv 7) (pa_cons (pe_ix ix_list (pv 1) (pv 6) (fun _ _ => rfl)) (pa_cons (pe_ix ix_list (pv 1) (pe_op op_sub pe_int (pv 6)) (fun _ _ => rfl)) (pa_cons (pv 9) (pa_cons (pv 4) pa_nil)))))))
        (pss_cons (ps_if (pt_cmpR op_eq (pe_ix ix_tup (pv 11) pe_int (fun _ _ => rfl)) pe_str (nomark _))
            (pss_one (ps_if (PW.pt (pw_or (pt_cmpR (op_neD hr.units) (pe_ix ix_list (pv 10) pe_int (fun _ _ => rfl)) (pe_tup (pa_cons pe_str pa_nil)) (nomark _))
              (pw_or1 (pt_not (pt_val (pc (ok_law_holds T) hr9 T.g_law_holds pass0 (pa_cons (pe_ix ix_list (pv 10) pe_int (fun _ _ => rfl)) (pa_cons (pe_callTy call_list_of (by rfl) T.m_list (by decide +kernel) (pa_cons (pe_ix ix_tup (pv 11) pe_int (fun _ _ => rfl)) pa_nil)) pa_nil)))))))) (pss_one (ps_ret pe_bl)) pss_nil))
            (pss_one (ps_if (pt_not (pt_val (pc (ok_law_same T 1) hr4 T.g_law_same pass0 (pa_cons (pe_ix ix_list (pv 10) pe_int (fun _ _ => rfl)) (pa_cons (pv 11) pa_nil))))) (pss_one (ps_ret pe_bl)) pss_nil)))
        de))), ?_⟩
  intro D pl ra wa sv r0 r1 w0 w1 rA rB wA wB xs ys zs xA xB i j n s0 s5 s9 s10 s11 H' W hj n0 n1 S nx
  obtain ⟨st, p0, pok⟩ := S.pool
  refine ⟨_, rfl, _, rfl, pl, st, n, rfl, n0, n1, p0, pok, fun k H1 st1 bt hp1 ok1 => ?_⟩
  have S1 := S.but bt hp1 ok1
  obtain ⟨f1, f2, f3, f4, l1, l2, b1, b2⟩ := W.st S1
  refine ⟨_, rfl, _, rfl, _, rfl, wa, _, _, _, rfl, rfl, SqL.of S1.runs, W.wA_, _, rfl, _, rfl, _, _, rfl, rfl, wa, _, _, _, rfl, rfl, SqL.of S1.runs, W.wB_, _, rfl, _, rfl, ?_⟩
  refine ⟨j, wA, wB, sv, xA, xB, zs, k, rfl, hj, f3, f4, SqL.of S1.seven, l1, l2, b1, b2, S.l7, fun H2 fd sm2 tr => ?_⟩
  have S2 := S1.same sm2
  obtain ⟨g1, g2, g3, g4, _⟩ := W.st S2
  refine ⟨_, rfl, _, rfl, _, rfl, ra, _, _, _, rfl, rfl, SqL.of S2.rows, W.rA_, _, rfl, _, rfl, _, _, rfl, rfl, ra, _, _, _, rfl, rfl, SqL.of S2.rows, W.rB_, _, rfl, _, rfl, ?_⟩
  refine ⟨j, rA, rB, sv, xA, xB, zs, k, rfl, hj, g1, g2, S2.seven, l1, l2, S.l7, fun H3 d sm3 dd => ?_⟩
  have S3 := S2.same sm3
  have fin : ∀ H4, Same H3 H4 → te D [s0, some (.ref ra), some (.ref wa), some (.ref pl), some (.ref sv), s5, some (.int (i : Nat)), some (.int (j : Nat)), some (.int n), some (.int k), some (.ref fd), some (.ref d)] H4 := fun H4 sm4 =>
    re D pl ra wa sv r0 r1 w0 w1 xs ys zs (i : Nat) _ H4 ⟨_, _, _, _, _, _, _, rfl⟩ (S3.same sm4) fun H5 S5 => nx _ H5 ⟨_, ⟨_, _, _, _, _, _, _, rfl⟩, rfl⟩ S5
  obtain ⟨wd, m, hl, hm⟩ := tr
  have hl3 : H3 fd = some (.lst [.ref wd, m]) := sm3 _ _ hl
  cases hD : dueWay j xA xB zs k with
  | run ns =>
    rw [hD] at dd hm
    obtain ⟨hw, p, rfl, hp⟩ := hm
    obtain ⟨t, hd1, hd2, hd3⟩ := dd
    refine ⟨_, rfl, d, _, 0, _, rfl, rfl, hd1, rfl, rfl, _, rfl, yep (by simp) ?_⟩
    refine ⟨_, rfl, fd, _, 0, _, rfl, rfl, SqL.of hl3, rfl, by show 1 ≤ sizeLine; decide, fun u hu => ?_⟩
    have su : Same H3 (upd H3 u (.tup [.str "run"])) := .new hu
    refine ⟨.tuple [.str "run"], .tuple [.str "run"], .tup (su.seqT (sm3.seqT hw)) (.cons (.str _) .nil), .tup (SqT.of upd_same) (.cons (.str _) .nil), by decide +kernel, by decide +kernel, _, rfl, nope (by decide +kernel) ?_⟩
    refine ⟨_, rfl, fd, _, 1, _, rfl, rfl, SqL.of (su _ _ hl3), rfl, _, rfl, d, _, 1, _, rfl, rfl, su.seqT hd1, rfl, t, _, rfl, .inr (su.seqT hd2), fun l hl => ?_⟩
    have sl := su.new' (o := .lst (ns.map V.int)) hl
    exact ⟨p, l, ns, rfl, (hp.same sm3).same sl, SqL.of upd_same, hd3, run_inB hD b1 b2, fun H4 sm4 => ⟨_, rfl, nope rfl (fin H4 (sl.trans sm4))⟩⟩
  | long n' =>
    rw [hD] at dd hm
    refine ⟨_, rfl, d, _, 0, _, rfl, rfl, dd, rfl, rfl, _, rfl, nope (by decide +kernel) ?_⟩
    refine ⟨_, rfl, fd, _, 0, _, rfl, rfl, SqL.of hl3, rfl, _, rfl, _, _, rfl, .inr ⟨wd, d, _, _, rfl, rfl, .inl ⟨sm3.seqT hm, dd⟩, rfl, by show 4 ≤ sizeLine; decide, ?_⟩, _, rfl, nope rfl (fin H3 (.refl _))⟩
    intro e u v h1 h2
    rw [h1] at h2
    cases h2
    match e, h1 with
    | 0, h1 => cases h1; exact .atom (.str _)
    | 1, h1 => cases h1; exact .atom (.int _)
    | 2, h1 => cases h1; exact .atom (.bl _)
    | 3, h1 => cases h1; exact .atom (.bl _)
  | bad i' n' =>
    rw [hD] at dd hm
    refine ⟨_, rfl, d, _, 0, _, rfl, rfl, dd, rfl, rfl, _, rfl, nope (by decide +kernel) ?_⟩
    refine ⟨_, rfl, fd, _, 0, _, rfl, rfl, SqL.of hl3, rfl, _, rfl, _, _, rfl, .inr ⟨wd, d, _, _, rfl, rfl, .inl ⟨sm3.seqT hm, dd⟩, rfl, by show 5 ≤ sizeLine; decide, ?_⟩, _, rfl, nope rfl (fin H3 (.refl _))⟩
    intro e u v h1 h2
    rw [h1] at h2
    cases h2
    match e, h1 with
    | 0, h1 => cases h1; exact .atom (.str _)
    | 1, h1 => cases h1; exact .atom (.int _)
    | 2, h1 => cases h1; exact .atom (.int _)
    | 3, h1 => cases h1; exact .atom (.bl _)
    | 4, h1 => cases h1; exact .atom (.bl _)
end
end K01

set_option maxRecDepth 100000
set_option maxHeartbeats 16000000
namespace K01
open PySem PySem.Spec PyProof.Rows L2
section
variable {w : World} {K : PySem.W.Frag} {mg : Str → Option Value} {base : Heap}
theorem step_all (T : Tx K mg) (cdv : Value) (A : Around) (outer : List Env) (s : Shared) (H : Hp) (E : XK) (hr : Room 13 (A.deeper (envOfC "law" (defScope s_law) s.heap.objs.size (a_law K) cdv))) :
    ∃ t, PSs (cxOf CX0 PG w K mg base n_law "law" (defScope s_law) (a_law K) cdv A outer s H E) innerB t ∧ ∀ (D : Ends) (pl ra wa sv r0 r1 w0 w1 rA rB wA wB : Addr) (xs ys zs xA xB : List Int) (i j : Nat) (s0 s5 s8 s9 s10 s11 : Option V) (H' : Hp),
      Side K r0 r1 w0 w1 i rA rB wA wB xs ys xA xB → j < 12 → LawSt K pl ra wa sv r0 r1 w0 w1 xs ys zs H' →
      (∀ σ2 H2, Sl ra wa pl sv (i : Nat) σ2 → LawSt K pl ra wa sv r0 r1 w0 w1 xs ys zs H2 → D.nx σ2 H2) → t D [s0, some (.ref ra), some (.ref wa), some (.ref pl), some (.ref sv), s5, some (.int (i : Nat)), some (.int (j : Nat)), s8, s9, s10, s11] H' := by
  have nd := sc_law.nd
  obtain ⟨tm, dm, rm⟩ := step_mid (w := w) (base := base) T cdv A outer s H E hr
  refine ⟨_, pss_cons (ps_set (i := 8) nd rfl (.inl rfl) (pe_callB call_len_seq (by rfl) T.m_len PySem.boot_len (pa_cons (pe_ix ix_list (pv 1) (pv 6) (fun _ _ => rfl)) pa_nil)))
        (pss_cons (ps_if (pt_cmpR op_eq (pv 7) pe_int (nomark _)) (pss_one (ps_set (i := 8) nd rfl (.inl rfl) pe_int)) pss_nil) dm), ?_⟩
  intro D pl ra wa sv r0 r1 w0 w1 rA rB wA wB xs ys zs xA xB i j s0 s5 s8 s9 s10 s11 H' W hj S nx
  obtain ⟨f1, f2, f3, f4, l1, l2, b1, b2⟩ := W.st S
  refine ⟨_, rfl, _, rfl, ra, _, _, _, rfl, rfl, SqL.of S.rows, W.rA_, rA, _, rfl, .inl (SqL.of f1), ?_⟩
  refine ⟨_, rfl, rfl, _, rfl, ite2 (fun c => ?_) (fun c => ?_)⟩
  · exact rm D pl ra wa sv r0 r1 w0 w1 rA rB wA wB xs ys zs xA xB i j 7 s0 s5 s9 s10 s11 H' W hj (by decide) (by decide) S fun σ2 H2 ⟨_, h, _⟩ S2 => nx σ2 H2 h S2
  · exact rm D pl ra wa sv r0 r1 w0 w1 rA rB wA wB xs ys zs xA xB i j _ s0 s5 s9 s10 s11 H' W hj (by omega) (by rw [List.length_map]; omega) S fun σ2 H2 ⟨_, h, _⟩ S2 => nx σ2 H2 h S2
theorem law_loops (T : Tx K mg) (cdv : Value) (A : Around) (outer : List Env) (s : Shared) (H : Hp) (E : XK) (hr : Room 13 (A.deeper (envOfC "law" (defScope s_law) s.heap.objs.size (a_law K) cdv))) :
    ∃ t, PSs (cxOf CX0 PG w K mg base n_law "law" (defScope s_law) (a_law K) cdv A outer s H E) ((defBody s_law).drop 5) t ∧ ∀ (D : Ends) (pl ra wa sv r0 r1 w0 w1 : Addr) (xs ys zs : List Int) (s0 s5 s6 s7 s8 s9 s10 s11 : Option V) (H' : Hp),
      LawSt K pl ra wa sv r0 r1 w0 w1 xs ys zs H' → (∀ H2, D.rt (.bl true) H2) → t D [s0, some (.ref ra), some (.ref wa), some (.ref pl), some (.ref sv), s5, s6, s7, s8, s9, s10, s11] H' := by
  have nd := sc_law.nd
  have hr9 := hr.mono (show 9 ≤ 13 by decide)
  have hr4 := hr.mono (show 4 ≤ 13 by decide)
  obtain ⟨ti, di, ri⟩ := step_all (w := w) (base := base) T cdv A outer s H E hr
  refine ⟨_, pss_cons (ps_for (passX rfl) rfl (pi_range1 rfl T.m_range (pa_cons pe_int pa_nil)) (pg_name (i := 6) nd rfl (.inl rfl)) (pss_one (ps_for (passX rfl) rfl (pi_range1 rfl T.m_range (pa_cons pe_int pa_nil)) (pg_name (i := 7) nd rfl (.inl rfl)) di)))
      (pss_cons (ps_for (passX rfl) rfl (pi_range1 rfl T.m_range (pa_cons pe_int pa_nil)) (pg_name (i := 6) nd rfl (.inl rfl))
        (pss_one (ps_if (PW.pt (pw_or (pt_not (pt_val (pc (ok_law_holds T) hr9 T.g_law_holds pass0 (pa_cons (pe_ix ix_list (pv 2) (pv 6) (fun _ _ => rfl)) (pa_cons (pe_ix ix_list (pv 1) (pv 6) (fun _ _ => rfl)) pa_nil)))))
            (pw_or1 (pt_not (pt_val (pc (ok_law_same T 1) hr4 T.g_law_same pass0 (pa_cons (pc (ok_law_base T) hr9 T.g_law_base pass0 (pa_cons (pe_ix ix_list (pv 2) (pv 6) (fun _ _ => rfl)) pa_nil)) (pa_cons (pe_lst (pa_cons pe_bl (pa_cons pe_bl pa_nil))) pa_nil)))))))) (pss_one (ps_ret pe_bl)) pss_nil)))
      (pss_one (ps_ret pe_bl))), ?_⟩
  intro D pl ra wa sv r0 r1 w0 w1 xs ys zs s0 s5 s6 s7 s8 s9 s10 s11 H' S q
  refine ⟨2, rfl, by decide, by decide, ?_⟩
  refine for_range (lo := 0) (n := 2) (fun _ σ H1 => (∃ s6, ∃ s0 s5 s7 s8 s9 s10 s11, σ = [s0, some (.ref ra), some (.ref wa), some (.ref pl), some (.ref sv), s5, s6, s7, s8, s9, s10, s11]) ∧ LawSt K pl ra wa sv r0 r1 w0 w1 xs ys zs H1) ⟨⟨_, _, _, _, _, _, _, _, rfl⟩, S⟩ ?_ ?_
  · rintro i σ H1 hi ⟨⟨s6, s0, s5, s7, s8, s9, s10, s11, rfl⟩, S1⟩
    rw [Int.zero_add]
    obtain ⟨rA, rB, wA, wB, xA, xB, W⟩ := side (K := K) (r0 := r0) (r1 := r1) (w0 := w0) (w1 := w1) (xs := xs) (ys := ys) hi
    refine ⟨12, rfl, by decide, by decide, ?_⟩
    refine for_range (lo := 0) (n := 12) (fun _ σ H2 => Sl ra wa pl sv (i : Nat) σ ∧ LawSt K pl ra wa sv r0 r1 w0 w1 xs ys zs H2) ⟨⟨_, _, _, _, _, _, _, rfl⟩, S1⟩ ?_ ?_
    · rintro j σ H2 hj ⟨⟨s0, s5, s7, s8, s9, s10, s11, rfl⟩, S2⟩
      rw [Int.zero_add]
      exact ri _ pl ra wa sv r0 r1 w0 w1 rA rB wA wB xs ys zs xA xB i j s0 s5 s8 s9 s10 s11 H2 W hj S2 fun σ2 H3 h S3 => ⟨h, S3⟩
    · rintro σ H2 ⟨⟨s0, s5, s7, s8, s9, s10, s11, rfl⟩, S2⟩
      exact ⟨⟨_, _, _, _, _, _, _, _, rfl⟩, S2⟩
  · rintro σ H1 ⟨⟨s6, s0, s5, s7, s8, s9, s10, s11, rfl⟩, S1⟩
    refine ⟨2, rfl, by decide, by decide, ?_⟩
    refine for_range (lo := 0) (n := 2) (fun _ σ H2 => (∃ s6, ∃ s0 s5 s7 s8 s9 s10 s11, σ = [s0, some (.ref ra), some (.ref wa), some (.ref pl), some (.ref sv), s5, s6, s7, s8, s9, s10, s11]) ∧ LawSt K pl ra wa sv r0 r1 w0 w1 xs ys zs H2) ⟨⟨_, _, _, _, _, _, _, _, rfl⟩, S1⟩ ?_ ?_
    · rintro i σ H2 hi ⟨⟨s6, s0, s5, s7, s8, s9, s10, s11, rfl⟩, S2⟩
      rw [Int.zero_add]
      obtain ⟨rA, rB, wA, wB, xA, xB, W⟩ := side (K := K) (r0 := r0) (r1 := r1) (w0 := w0) (w1 := w1) (xs := xs) (ys := ys) hi
      obtain ⟨f1, f2, f3, f4, l1, l2, b1, b2⟩ := W.st S2
      refine ⟨_, rfl, _, rfl, wa, _, _, _, rfl, rfl, SqL.of S2.runs, W.wA_, _, rfl, _, rfl, ra, _, _, _, rfl, rfl, SqL.of S2.rows, W.rA_, ?_⟩
      refine ⟨wA, rA, xA, rfl, f3, SqL.of f1, l1, b1, fun H3 sm => ⟨_, rfl, nope rfl ?_⟩⟩
      have S3 := S2.same sm
      refine ⟨_, rfl, _, rfl, wa, _, _, _, rfl, rfl, SqL.of S3.runs, W.wA_, wA, xA, rfl, f3.same sm, fun H4 l sm4 hl4 => ?_⟩
      refine ⟨by show 2 ≤ sizeLine; decide, fun m hm => ?_⟩
      have s5' := sm4.new' (o := .lst [.bl true, .bl true]) hm
      refine ⟨_, _, rfl, .inr ⟨l, m, _, _, rfl, rfl, .inr ⟨SqL.of ((Same.new hm) _ _ hl4), SqL.of upd_same⟩, rfl, by show 2 ≤ sizeLine; decide, ?_⟩, _, rfl, nope rfl ⟨⟨_, _, _, _, _, _, _, _, rfl⟩, S3.same s5'⟩⟩
      intro e u v h1 h2
      rw [h1] at h2
      cases h2
      match e, h1 with
      | 0, h1 => cases h1; exact .atom (.bl _)
      | 1, h1 => cases h1; exact .atom (.bl _)
    · rintro σ H2 ⟨⟨s6, s0, s5, s7, s8, s9, s10, s11, rfl⟩, S2⟩
      exact q H2
end
end K01

set_option maxRecDepth 100000
set_option maxHeartbeats 16000000
namespace K01
open PySem PySem.Spec PyProof.Rows L2
section
variable {w : World} {K : PySem.W.Frag} {mg : Str → Option Value} {base : Heap}
theorem spInit_mono {vs : List V} {H : Hp} {Q Q' : VK} {E : XK} (h : spInit K vs H Q E) (i : ∀ v H', Q v H' → Q' v H') : spInit K vs H Q' E := by
  obtain ⟨x, a, dx, ns, e, h1, h2, h3, h4, h5⟩ := h
  exact ⟨x, a, dx, ns, e, h1, h2, h3, h4, fun c d H' t s ht => i _ _ (h5 c d H' t s ht)⟩
/-- Wants(e), e in bounds -/
theorem mk_good {H : Hp} {a x dx : Addr} {ns : List Int} {Q : VK} (ha : SqA K H a (ns.map V.int)) (l : ns.length ≤ 60) (b : InB ns) (hx : H x = none) (hdx : H dx = none) (hne : dx ≠ x) (q : ∀ H', Same H H' → IsW K H' x ns → Q .non H') :
    spInit K ([.ref x, .ref a]) (upd (upd H dx (.own x)) x (.ins (c_Wants K) dx [])) Q (fun _ _ _ => False) := by
  refine spInit_mono (mk_wants (Q := fun y H' => ∃ p, y = .ref p ∧ Same H H' ∧ IsW K H' p ns) ha (mkr_of b l fun H' p s h => ⟨p, rfl, s, h⟩) x dx hx hdx hne) fun v H' h => ?_
  obtain ⟨rfl, p, e, s, hw⟩ := h
  cases e
  exact q H' s hw
def spLaw (K : PySem.W.Frag) : Sp := fun vs H Q _ => ∃ (a : Addr) (ns : List Int), vs = [.ref a] ∧ SqL K H a (ns.map V.int) ∧ ∀ H', Q (.bl true) H'
theorem fn_law (T : Tx K mg) {fd : FuncData} (F : FunD K "law" "law" (defArgs s_law) (defBody s_law) (defScope s_law) [] [] (a_law K) fd) : FnOk PG w K mg base CX0 14 (a_law K) fd p_law (spLaw K) := by
  refine F.ok (k := 13) sc_law (fun vs H Q E h => ?_) (fun cdv A outer s H vs Q E hr h => ?_)
  · obtain ⟨_, _, rfl, _⟩ := h
    rfl
  · obtain ⟨a, ns, rfl, hs, q⟩ := h
    have nd := sc_law.nd
    have hr6 := hr.mono (show 6 ≤ 13 by decide)
    have hr4 := hr.mono (show 4 ≤ 13 by decide)
    have hr2 := hr.mono (show 2 ≤ 13 by decide)
    obtain ⟨tl, dl, rl⟩ := law_loops (w := w) (base := base) T cdv A outer s H E hr
    refine ⟨_, pss_cons (ps_set (i := 1) nd rfl (.inl rfl) (pe_lst (pa_cons (pc (ok_law_run_drawn T) hr6 T.g_law_run_drawn pass0 (pa_cons (pc (ok_law_pool T) hr2 T.g_law_pool pass0 (pa_cons (pv 0) (pa_cons pe_int pa_nil))) pa_nil))
          (pa_cons (pc (ok_law_run_drawn T) hr6 T.g_law_run_drawn pass0 (pa_cons (pc (ok_law_pool T) hr2 T.g_law_pool pass0 (pa_cons (pv 0) (pa_cons pe_int pa_nil))) pa_nil)) pa_nil))))
      (pss_cons (ps_set (i := 2) nd rfl (.inl rfl) (pe_lst (pa_cons (pmk (ok_Wants_init T) T.kWants (hr.mono (by decide)) T.gWants passF (pa_cons (pe_callTy call_list_of (by rfl) T.m_list (by decide +kernel) (pa_cons (pe_ix ix_list (pv 1) pe_int (fun _ _ => rfl)) pa_nil)) pa_nil))
          (pa_cons (pmk (ok_Wants_init T) T.kWants (hr.mono (by decide)) T.gWants passF (pa_cons (pe_callTy call_tuple_of (by rfl) T.m_tuple (by decide +kernel) (pa_cons (pe_ix ix_list (pv 1) pe_int (fun _ _ => rfl)) pa_nil)) pa_nil)) pa_nil))))
      (pss_cons (ps_set (i := 3) nd rfl (.inl rfl) (pc (ok_law_pool T) hr2 T.g_law_pool pass0 (pa_cons (pv 0) (pa_cons pe_int pa_nil))))
      (pss_cons (ps_set (i := 4) nd rfl (.inl rfl) (pc (ok_law_wants T) hr4 T.g_law_wants pass0 (pa_cons (pv 3) (pa_cons pe_int (pa_cons pe_int pa_nil)))))
      (pss_cons (ps_if (pt_cmpR op_eq (pc (ok_law_draw T) hr2 T.g_law_draw pass0 (pa_cons (pv 3) (pa_cons pe_int pa_nil))) pe_int (nomark _))
        (pss_cons (ps_set (i := 5) nd rfl (.inl rfl) (pc (ok_law_draw T) hr2 T.g_law_draw pass0 (pa_cons (pv 3) (pa_cons pe_int pa_nil))))
          (pss_one (ps_asg (pc (ok_law_any T) hr4 T.g_law_any pass0 (pa_cons (pv 3) pa_nil)) (pg_sub (pv 4) (pv 5) set_list)))) pss_nil) dl)))), ?_⟩
    have two : 2 ≤ sizeLine := by decide
    refine ⟨_, rfl, a, ns, 0, rfl, hs, fun p0 st0 hp0 ok0 => ⟨p0, st0, rfl, upd_same, ok0, fun H1 r0 xs st1 bt1 hp1 ok1 hr0 hr0' l0 b0 => ?_⟩⟩
    have s1 : Same H H1 := bt1.fresh hp0
    refine ⟨_, rfl, a, ns, 1, rfl, s1.seq hs, fun p1 st2 hp2 ok2 => ⟨p1, st2, rfl, upd_same, ok2, fun H2 r1 ys st3 bt2 hp3 ok3 hr1 hr1' l1 b1 => ?_⟩⟩
    have s2 : Same H1 H2 := bt2.fresh hp2
    refine ⟨two, fun ra hra => ?_⟩
    have s3 : Same H2 (upd H2 ra (.lst [.ref r0, .ref r1])) := .new hra
    refine ⟨_, rfl, ra, _, 0, _, rfl, rfl, SqL.of upd_same, rfl, r0, _, rfl, .inl (s3.seq (SqL.of (s2 _ _ hr0'))), fun c hc => ?_⟩
    intro w0 d0 hw0 hd0 hn0
    refine mk_good (ns := xs) (.inl (SqL.of upd_same)) l0 b0 hw0 hd0 hn0 fun H3 sm3 iw0 => ⟨rfl, ?_⟩
    have s4 : Same (upd H2 ra (.lst [.ref r0, .ref r1])) H3 := (Same.new hc).trans sm3
    have row1 : H3 r1 = some (.lst (ys.map V.int)) := s4 _ _ (s3 _ _ hr1')
    refine ⟨_, rfl, ra, _, 1, _, rfl, rfl, SqL.of (s4 _ _ upd_same), rfl, r1, _, rfl, .inl ⟨SqL.of row1, fun c1 hc1 => ?_⟩⟩
    intro w1 d1 hw1 hd1 hn1
    refine mk_good (ns := ys) (.inr (SqT.of upd_same)) l1 b1 hw1 hd1 hn1 fun H4 sm4 iw1 => ⟨rfl, ?_⟩
    have s5 : Same H3 H4 := (Same.new hc1).trans sm4
    refine ⟨two, fun wa hwa => ?_⟩
    have s6 : Same H4 (upd H4 wa (.lst [.ref w0, .ref w1])) := .new hwa
    have t6 : Same H (upd H4 wa (.lst [.ref w0, .ref w1])) := (((s1.trans s2).trans s3).trans s4).trans (s5.trans s6)
    have g_rows := s6 _ _ (s5 _ _ (s4 ra _ upd_same))
    have g_r0 := s6 _ _ (s5 _ _ (s4 _ _ (s3 _ _ (s2 _ _ hr0'))))
    have g_r1 := s6 _ _ (s5 _ _ row1)
    have g_w0 := (iw0.same s5).same s6
    have g_w1 := iw1.same s6
    refine ⟨_, rfl, a, ns, 2, rfl, t6.seq hs, fun pl st4 hpl ok4 => ?_⟩
    refine ⟨_, rfl, pl, st4, 7, 30, rfl, by decide, by decide, by decide, by decide, upd_same, ok4, fun H7 sv zs st5 bt7 hp7 ok7 hsv hsv' lz bz => ?_⟩
    have s7 : Same (upd H4 wa (.lst [.ref w0, .ref w1])) H7 := bt7.fresh hpl
    have svp : sv ≠ pl := fun z => by rw [z, upd_same] at hsv; cases hsv
    have svn : upd H4 wa (.lst [.ref w0, .ref w1]) sv = none := by rw [upd_ne svp] at hsv; exact hsv
    have mkS : ∀ (H8 : Hp) (st : List V) (zs' : List Int), Same (upd H4 wa (.lst [.ref w0, .ref w1])) H8 → H8 sv = some (.lst (zs'.map V.int)) → zs'.length = 7 → H8 pl = some (.lst st) → PoolOk st → LawSt K pl ra wa sv r0 r1 w0 w1 xs ys zs' H8 := fun H8 st zs' sm e1 e2 e3 e4 =>
      ⟨sm _ _ g_rows, sm _ _ g_r0, sm _ _ g_r1, sm _ _ upd_same, g_w0.same sm, g_w1.same sm, e1, ⟨st, e3, e4⟩, ⟨ne_of_none g_rows hpl, ne_of_none g_r0 hpl, ne_of_none g_r1 hpl, ne_of_none upd_same hpl, svp⟩, l0, l1, e2, b0, b1⟩
    refine ⟨_, rfl, pl, st5, 4, rfl, by decide, by decide, hp7, ok7, fun v st6 v0 v1 ok8 => ?_⟩
    have plS : ∀ st, Same (upd H4 wa (.lst [.ref w0, .ref w1])) (upd H7 pl (.lst st)) := fun st b o hb => by
      rw [upd_ne (fun z => by rw [z, hpl] at hb; cases hb)]
      exact s7 _ _ hb
    refine ⟨rfl, _, rfl, ite2 (fun c => ?_) (fun c => ?_)⟩
    · refine ⟨_, rfl, pl, st6, 7, rfl, by decide, by decide, upd_same, ok8, fun place st7 u0 u1 ok9 => ?_⟩
      rw [upd_upd]
      refine ⟨_, rfl, pl, st7, rfl, upd_same, ok9, fun z st8 ok10 => ?_⟩
      rw [upd_upd]
      have hsv8 : upd H7 pl (.lst st8) sv = some (.lst (zs.map V.int)) := by rw [upd_ne svp]; exact hsv'
      refine ⟨_, rfl, _, rfl, sv, _, place, place.toNat, rfl, rfl, hsv8, ?_, ?_⟩
      · unfold ixN
        rw [if_pos u0, if_pos (by rw [List.length_map, lz]; exact u1)]
      · refine rl _ pl ra wa sv r0 r1 w0 w1 xs ys (zs.set place.toNat z) _ _ _ _ _ _ _ _ _ (mkS _ st8 _ (fun b o hb => ?_) ?_ (by rw [List.length_set]; exact lz) ?_ ok10) q
        · rw [upd_ne (fun e => by rw [e, svn] at hb; cases hb)]
          exact plS st8 _ _ hb
        · rw [upd_same, List.map_set]
        · rw [upd_ne (Ne.symm svp), upd_same]
    · exact rl _ pl ra wa sv r0 r1 w0 w1 xs ys zs _ _ _ _ _ _ _ _ _ (mkS _ st6 _ (plS st6) (by rw [upd_ne svp]; exact hsv') lz upd_same ok8) q
end
end K01

set_option maxRecDepth 100000
set_option maxHeartbeats 0
namespace K01
open PySem PySem.W PySem.Spec PySem.Calls PyProof.Rows L2 He He5 HX
theorem facts {w : World} {K : Frag} {h : Heap} {mg : Str → Option Value} {f : Addr} (X : K.In h) (G : h.Ns mainGlobals mg) (hfa : mg ("law" : Str) = some (.ref f)) (c : SaysX bx fn er "/claim/cut.py" K) :
    ∃ fd : FuncData, (∀ (s : Shared) (v : Value), BindsTo s fd ⟨[v], []⟩ [("script", v)]) ∧ ∀ base : Heap, K.In base → base.Ns mainGlobals mg → FnOk PG w K mg base CX0 14 f fd ["script"] (spLaw K) := by
  have T := tx_of c X G
  obtain ⟨fd, F⟩ := T.f_law
  have e := hfa.symm.trans T.g_law
  cases e
  exact ⟨fd, fun s v => FunD.bindsA (ps := ["script"]) F (fun _ _ _ _ _ _ us hl => match us, hl with | [_], _ => rfl) s [v] rfl, fun base _ _ => fn_law T F⟩
end K01
open PySem PySem.W PySem.Calls PyProof.Rows
theorem PySem.Challenge.cw_nightsoff_k01_wants_operators_holds : PySem.Challenge.rw_nightsoff_k01_wants_operators.Holds := by
  w_on; o_law
  refine HandSHeadRun.head_any (r := OpenLaw.row PySem.Challenge.rw_nightsoff_k01_wants_operators) (q := view (OpenLaw.row PySem.Challenge.rw_nightsoff_k01_wants_operators).prog [30]) (H := K01.hk) (ob := K01.ob) (M := 20000) (loose := K01.names) (d := HandSHeadRun.topDef (OpenLaw.row PySem.Challenge.rw_nightsoff_k01_wants_operators).prog 30) (kwd := []) K01.ob_eq
    (by kernel_rfl) (fun s => by kernel_rfl) K01.run (by kernel_rfl) (by kernel_rfl) (by kernel_rfl) (by rfl) (by first | assumption | decide +kernel) (by decide +kernel) ⟨rfl, rfl, rfl, rfl, rfl, by decide +kernel⟩ ?hw ?hc
  case hw => w_witness2
  case hc =>
    refine L2.walk_ofX (l := PySem.Challenge.rw_nightsoff_k01_wants_operators) (n := 63) (k := 14) (x := "script") (CX := fun _ => L2.CX0) rfl (by decide) (by kernel_rfl) ⟨rfl, by decide, by decide⟩ ?F (fun _ _ _ _ _ z => z)
    intro w mg fa h Y G hmg0
    obtain ⟨K, KX, c⟩ := Y
    have hmg : mg ("law" : PySem.Str) = some (.ref fa) := by
      have e : (HandSHeadRun.topDef (OpenLaw.row PySem.Challenge.rw_nightsoff_k01_wants_operators).prog 30).name = ("law" : PySem.Str) := by kernel_rfl
      rw [← e]
      exact hmg0
    obtain ⟨fd, hb, hF⟩ := K01.facts (w := w) KX G hmg c
    exact ⟨K, fd, K01.spLaw K, KX, hb, fun H a ns hl _ _ hS => ⟨a, ns, rfl, hS, fun _ => rfl⟩, hF⟩
