import PyProof.Rows.All
import Wide.All
import OpenK.AllK
import Wide.FinOn
import KE.KExcSuper
import HandS.ForExc
import HandS.ExcInit
import HandS.TryMany
import HandS.ExcField
import HandS.ExcIs
import HandS.ExcSuper
import HandS.ForMost
import HandS.ClsMeth
import HandS.Star
import HandS.IsInst
import HandS.TupAny
import HandS.TupMul
import HandS.Style
import HandS.Wide
import HandS.Codes
import KE.KOpsOwn
import KE.GoesNew
import KE.GoesMore
import HandS.Iter
import HandS.Walk
import KE.KOwnIter
import KE.KSuperObj
import KE.KTupSum
import KE.KRevSl
import HandS.HeadNt
import HandS.HeadHook3
import HandS.Head2
import HandS.EndBits
import HandS.CallLocal
import HandS.ExcOwn
import HandS.WordsExc
import HandS.Strs
import HandS.MakeKw
import HandS.Property
import HandS.MakeKwOnly
import HandS.SortKw
import KE.DataMinMax
import KE.GoesZip
import HandS.Zip
import PyProof.MeetsIn
import PyProof.Rows.Range3
import PyProof.ListRange
import HandS.Keys
import HandS.NoneIn
import KE.KEqSeq
import PySem.Challenge.RW_nightsoff_k24_bounds
set_option Elab.async false
set_option linter.all false
set_option maxRecDepth 100000
set_option maxHeartbeats 4000000
/-! # Exceptions of the program: every class over NightsError whose __init__ says super().__init__(text) and then stores its parameters. -/
namespace NX
open PySem PySem.W PySem.Calls PyProof.Rows PySem.HandSPX

/-- the stores behind super().__init__: field and parameter -/
inductive Sto : List Stmt → List (Str × Str) → Prop
  | nil : Sto [] []
  | cons {f x : Str} {p1 p2 p3 p4 : Pos} {r : List Stmt} {l : List (Str × Str)} (h : Sto r l) : Sto (.Assign [.Attribute (.Name "self" p1) f p2] (.Name x p3) p4 :: r) ((f, x) :: l)

/-- an exception that is made: its fields, the newest first -/
def Half (h : Heap) (C e : Addr) (d : Option Addr) (fs : List (Str × Value)) : Prop :=
  ∃ t : Addr, h.get? e = some { cls := .ref C, dict := d, data := .fields #[.ref t, .none, .none, .none, .bool false, .none] } ∧
    match d with
    | none => fs = []
    | some dx => dx ≠ e ∧ ∃ m, h.Ns1 dx m ∧ ∀ f, m f = fs.lookup f

structure ClsX (K : Frag) (C : Addr) : Prop where
  cls : ∃ nm q N bs bm sn sub ab col dd k0 k1 k2 k3 k5, K.lookup C = some (excClassObj nm q C N bs bm true sn sub ab col dd k0 k1 k2 k3 k5 "ValueError.__new__") ∧ refsVE bm = true ∧ alongIn K "__init__" bm = some (some (.builtin "ValueError.__init__"))
  sa : findIn K (.ref C) "__setattr__" = some (some (.builtin "object.__setattr__"))
  ve : subIn K (.ref C) (.type "ValueError") = some true

theorem lookup_cons (f g : Str) (y : Value) (fs : List (Str × Value)) : ((f, y) :: fs).lookup g = if g = f then some y else fs.lookup g := by
  by_cases h : g = f
  · subst h
    simp [List.lookup]
  · have e : (g == f) = false := by simpa using h
    rw [if_neg h]
    simp [List.lookup, e]
theorem lookup_mem_keys : ∀ {l : List (Str × Value)} {x : Str} {v : Value}, l.lookup x = some v → x ∈ l.map (·.1)
  | [], _, _, h => by cases h
  | (f, y) :: r, x, v, h => by
    rw [lookup_cons] at h
    by_cases e : x = f
    · rw [e]
      exact List.mem_cons_self ..
    · rw [if_neg e] at h
      exact List.mem_cons_of_mem _ (lookup_mem_keys h)
theorem within_map {fs : List (Str × Value)} {m : Str → Option Value} (r : ∀ f, m f = fs.lookup f) : Within m (fs.map (·.1)) := fun y hy => by
  rw [r y] at hy
  clear r
  induction fs with
  | nil => exact absurd rfl hy
  | cons p l ih =>
    obtain ⟨f, z⟩ := p
    rw [lookup_cons] at hy
    by_cases e : y = f
    · rw [e]
      exact List.mem_cons_self ..
    · rw [if_neg e] at hy
      exact List.mem_cons_of_mem _ (ih hy)

section
variable {prog : Program} {w : World} {A : Around} {E : Value → Shared → Prop} {K : Frag} {C e L : Addr}
/-- one store -/
theorem put_field (T : ClsX K C) {h : Heap} {g : Array GenState} {dr : Drawn} {tk : Nat} {os : OsState} {d : Option Addr} {fs : List (Str × Value)} {f : Str} {v : Value} {Q : Unit → Shared → Prop} (X : K.In h) (I : Half h C e d fs) (hl : fs.length ≤ 900)
    (hno : findIn K (.ref C) f = some none)
    (hq : ∀ h' tk' d', Half h' C e (some d') ((f, v) :: fs) → (∀ b o, b ≠ e → (∀ dx, d = some dx → b ≠ dx) → h.get? b = some o → h'.get? b = some o) → (∀ dx, d = some dx → d' = dx) → (d = none → h.objs.size ≤ d') → Q () ⟨h', g, dr, tk', os⟩) :
    wpAny (model prog w) A (setAttr (.ref e) f v) Q E ⟨h, g, dr, tk, os⟩ := by
  obtain ⟨nm, q, N, bs, bm, sn, sub, ab, col, dd, k0, k1, k2, k3, k5, hC, hbm, _⟩ := T.cls
  have hcl : clsIn K C = some { name := nm, bases := bs, mro := .ref C :: bm, ns := N, qualname := q, hasDict := true, slotNames := sn, subclasses := sub, abstract := ab, collection := col, hasDel := false } := by unfold clsIn; rw [hC] <;> rfl
  obtain ⟨t, ho, hd⟩ := I
  cases d with
  | none =>
    have hfs : fs = [] := hd
    subst hfs
    refine set_plain X (ox := { cls := .ref C, dict := none, data := .fields #[.ref t, .none, .none, .none, .bool false, .none] }) (od := none) ⟨ho, rfl, rfl, trivial⟩ T.sa ?_
    refine exc_osa X ho hcl (show refsVE (.ref C :: bm) = true from hbm) rfl hno (fun h' tk' dx k dn dne hx hn => ?_)
    refine hq h' tk' dx ⟨t, hx, dne, _, hn, fun y => ?_⟩ (fun b o hb _ z => k b o hb z) (fun _ z => nomatch z) fun _ => dn
    rw [lookup_cons]
    rfl
  | some dx =>
    obtain ⟨dne, m, hns, rel⟩ := hd
    have hw := within_map rel
    obtain ⟨oD, _, _, hoD, _, _⟩ := hns.count hw
    refine set_plain X (ox := { cls := .ref C, dict := some dx, data := .fields #[.ref t, .none, .none, .none, .bool false, .none] }) (od := some oD) ⟨ho, rfl, rfl, hoD⟩ T.sa ?_
    refine PySem.OEX.osa_old X ho hns hw (by rw [List.length_map]; omega) hcl (show refsVE (.ref C :: bm) = true from hbm) rfl hno (fun h' tk' k hn => ?_)
    refine hq h' tk' dx ⟨t, k _ _ (Ne.symm dne) ho, dne, _, hn, fun y => ?_⟩ (fun b o _ hb z => k b o (hb dx rfl) z) (fun _ z => Option.some.inj z) fun z => nomatch z
    rw [lookup_cons, rel y]
/-- the stores, one after the other -/
theorem sto_run (T : ClsX K C) {env : Env} {m : Str → Option Value} (hLv : env.locals = L) (hk : env.scope.kind = .function) (hs : env.kindOf "self" = some .local) (hm : m "self" = some (.ref e)) :
    ∀ {r : List Stmt} {l : List (Str × Str)}, Sto r l → (∀ p ∈ l, env.kindOf p.2 = some .local ∧ (m p.2).isSome = true ∧ (p.2 == ("__debug__" : Str)) = false ∧ findIn K (.ref C) p.1 = some none) →
    ∀ {h : Heap} {g : Array GenState} {dr : Drawn} {tk : Nat} {os : OsState} {d : Option Addr} {fs : List (Str × Value)} {Q : Flow → Shared → Prop}, K.In h → K.lookup e = none → (∀ dx, d = some dx → K.lookup dx = none) → Half h C e d fs → L ≠ e → (∀ dx, d = some dx → L ≠ dx) → h.Ns L m → fs.length + l.length ≤ 900 →
      (∀ h' tk' d', Half h' C e d' ((l.map fun p => (p.1, (m p.2).getD .none)).reverse ++ fs) → (∀ b o, b ≠ e → (∀ dx, d = some dx → b ≠ dx) → h.get? b = some o → h'.get? b = some o) → (∀ dx, d = some dx → d' = some dx) →
        (d = none → ∀ dx, d' = some dx → h.objs.size ≤ dx) → Q .next ⟨h', g, dr, tk', os⟩) →
      wpAny (model prog w) A (execs r env) Q E ⟨h, g, dr, tk, os⟩ := by
  intro r l S
  induction S with
  | nil =>
    intro _ h g dr tk os d fs Q _ _ _ I _ _ _ _ hq
    exact wpAny_execs_nil (hq h tk d I (fun _ _ _ _ z => z) (fun _ z => z) fun z dx y => by rw [z] at y; cases y)
  | @cons f x p1 p2 p3 p4 r l hS ih =>
    intro hp h g dr tk os d fs Q X he hde I hLe hLd hn hl hq
    obtain ⟨q1, q2, q3, q4⟩ := hp (f, x) (List.mem_cons_self ..)
    obtain ⟨v, hv⟩ := Option.isSome_iff_exists.mp q2
    subst hLv
    refine wpAny_execs_cons (plainObj_wpAny_Assign_Attribute ?_)
    refine PySem.ESX.ldL (v := v) hn hv (PySem.ESX.ldL (v := .ref e) hn hm ?_ hk hs) hk q1 q3
    refine put_field T X I (by simp only [List.length_cons] at hl; omega) q4 fun h' tk' d' I' k' kd kn => ?_
    have nb : ∀ b o, K.lookup b = some o → b ≠ e ∧ ∀ dx, d = some dx → b ≠ dx := fun b o z => ⟨fun y => (by rw [y, he] at z; cases z), fun dx y w => (by rw [w, hde dx y] at z; cases z)⟩
    have X' : K.In h' := fun b o z => k' b o (nb b o z).1 (nb b o z).2 (X b o z)
    have hLn : env.locals < h.objs.size := hn.lt
    have hLd' : env.locals ≠ d' := by
      cases d with
      | none => exact Nat.ne_of_lt (Nat.lt_of_lt_of_le hLn (kn rfl))
      | some dx => rw [kd dx rfl]; exact hLd dx rfl
    have hn' : h'.Ns env.locals m := by
      obtain ⟨oL, es, ep, hL, rr⟩ := hn
      exact ⟨oL, es, ep, k' _ _ hLe hLd hL, rr⟩
    have he' : K.lookup d' = none := by
      cases d with
      | none =>
        cases z : K.lookup d' with
        | none => rfl
        | some o => exact absurd (Nat.lt_of_lt_of_le (Heap.lt_size (X _ _ z)) (kn rfl)) (Nat.lt_irrefl _)
      | some dx => rw [kd dx rfl]; exact hde dx rfl
    refine ih (fun p hp' => hp p (List.mem_cons_of_mem _ hp')) X' he (fun dx z => by cases z; exact he') I' hLe (fun dx z => by cases z; exact hLd') hn' (by simp only [List.length_cons] at hl ⊢; omega) fun h2 tk2 d2 I2 k2 kd2 _ => ?_
    have ed2 : d2 = some d' := kd2 d' rfl
    refine hq h2 tk2 d2 ?_ (fun b o hb hd z => k2 b o hb (fun dx y => ?_) (k' b o hb hd z)) (fun dx z => ?_) fun z dx y => ?_
    · rw [List.map_cons, List.reverse_cons, List.append_assoc]
      rw [hv]
      exact I2
    · cases y
      cases d with
      | none => exact Nat.ne_of_lt (Nat.lt_of_lt_of_le (Heap.lt_size z) (kn rfl))
      | some dx => rw [kd dx rfl]; exact hd dx rfl
    · rw [ed2, kd dx z]
    · rw [ed2] at y
      cases y
      exact kn z
end

/-- the statement super().__init__(text) -/
def supS (msg : Str) (k : Nat) (q1 q2 q3 q4 q5 q6 : Pos) : Stmt := .Expr (.Call (.Attribute (.Call (.Name "super" q1) [] [] q2) "__init__" q3) [.Constant (.str msg) k q4] [] q5) q6
structure InitX (prog : Program) (K : Frag) (C fI : Addr) (qual : Str) (params : Arguments) (scope : Scope) (body : List Stmt) (ar : Arg) (l : List (Str × Str)) : Prop where
  txt : ∃ msg k q1 q2 q3 q4 q5 q6 r, body = supS msg k q1 q2 q3 q4 q5 q6 :: r ∧ Sto r l ∧ (∀ env : Env, env.scope = scope → interactive env = false) ∧
    ∀ env : Env, env.scope = scope → ∃ pl : Sem Bool, eval (.Call (.Attribute (.Call (.Name "super" q1) [] [] q2) "__init__" q3) [.Constant (.str msg) k q4] [] q5) env = (do
      let ov ← attributeBase (.Call (.Name "super" q1) [] [] q2) "__init__" env (eval (.Call (.Name "super" q1) [] [] q2) env)
      standAt q3.atName
      let (f, first) ← holding [ov] (getMethod ov "__init__" pl)
      callWith q5 f first (backTo q5 (starEach [.Constant (.str msg) k q4] env)) [])
  iC : findIn K (.ref C) "__init__" = some (some (.ref fI))
  tC : typeIn K (.ref fI) = some (.type "function")
  fn : ∃ (oc : Value) (od : Option Addr) (kV doc pm : Value) (an : Option Addr) (cda : Addr) (ct : Value) (osl : Array (Option Value)) (cc : Addr) (cl : Value) (cld : Option Addr) (csl : Array (Option Value)) (ccl : Value) (cdd : Option Addr) (vs : Array Value) (ccs : Array (Option Value)) (file : Str) (tf : Tok),
    K.lookup fI = some ⟨oc, od, .func (ksFn "__init__" qual params body scope .none kV doc pm an (.ref cda) ct cc), osl⟩ ∧ codeIn K (.ref cda) qual = true ∧
    K.lookup cc = some ⟨cl, cld, .cell (some (.ref C)), csl⟩ ∧ K.lookup cda = some ⟨ccl, cdd, .fields vs, ccs⟩ ∧ vs[2]? = some (.str file tf) ∧ ((prog.main.file : Str) == file) = true
  par : (params.posonlyargs ++ params.args).head? = some ar
  arN : ar.arg = "self"
  sup : scope.names.lookup ("super" : Str) = some .globalImplicit
  cls : scope.names.lookup ("__class__" : Str) = some .free
  slf : scope.names.lookup ("self" : Str) = some .local
  loc : ∀ p ∈ l, scope.names.lookup p.2 = some .local ∧ (p.2 == ("__debug__" : Str)) = false ∧ findIn K (.ref C) p.1 = some none
  cell : ∀ x ∈ scope.names, x.2 ≠ .cell
  kind : scope.kind = .function
  co : scope.isCoroutine = false
  gen : scope.isGenerator = false
  top : (prog.main.scope.names.lookup ("super" : Str)).isSome = false
  few : l.length ≤ 900

/-- what stands behind the making of an exception -/
structure Made (h h' : Heap) (C e : Addr) (d : Option Addr) (fs : List (Str × Value)) : Prop where
  keep : ∀ b o, h.get? b = some o → h'.get? b = some o
  new : h.objs.size ≤ e
  obj : Half h' C e d fs
  dct : ∀ dx, d = some dx → h.objs.size ≤ dx

/-- a bound wrapper called with one written text -/
theorem mw_call {M : Model} {A : Around} {E : Value → Shared → Prop} {s : Shared} {u x : Addr} {i : String} {pos : Pos} {env : Env} {msg : Str} {kk : Nat} {q4 : Pos} {Q : Value → Shared → Prop} (hu : s.heap.get? u = some (kxs_mw i x))
    (h : ∀ t, wpAny M A (call (.ref u) [.str msg t]) Q E { s with toks := s.toks + 1 }) :
    wpAny M A (callWith pos (.ref u) [] (backTo pos (starEach [.Constant (.str msg) kk q4] env)) []) Q E s := by
  have he : starEach [.Constant (.str msg) kk q4] env = (false, eval (.Constant (.str msg) kk q4) env) :: starEach [] env := by rfl
  have hpl : (backTo pos (starEach [] env)).any (·.1) = false := by rfl
  rw [he]
  refine kxs_callWith (i := i) (x := x) (by show (false || (backTo pos (starEach [] env)).any (·.1)) = false; rw [hpl]; rfl) (evalArgs_plain ?_)
  show wpAny M A (spliced (backTo pos (starEach [.Constant (.str msg) kk q4] env))) _ E s
  exact spliced_more (Calls.Constant_str (spliced_none ⟨hu, h _⟩))

section
variable {prog : Program} {w : World} {A : Around} {R : Result → Shared → Prop} {K : Frag} {C fI : Addr} {qual : Str} {params : Arguments} {scope : Scope} {body : List Stmt} {ar : Arg} {l : List (Str × Str)} {mg mb : Str → Option Value}
theorem exn_made (T : ClsX K C) (I : InitX prog K C fI qual params scope body ar l) {s : Shared} {us : List Value} {binds : List (Str × Value)} (X : K.In s.heap) (hlim : s.heap.NoLimit) (hG : s.heap.Ns mainGlobals mg) (hB : s.heap.Ns builtinsNs mb) (hsup : mg "super" = none) (hmb : mb "super" = some (.type "super"))
    (ho : nsIn K cStatics "thirdparty.any" = some none)
    (hroom : A.depth + 1 < recursionLimit) (hlen : us.length ≤ sizeLine)
    (hbind : ∀ (s' : Shared) (e : Addr) (fd : FuncData), fd.params = params → fd.scope = scope → fd.defaults = .none → BindsTo s' fd ⟨.ref e :: us, []⟩ (("self", .ref e) :: binds))
    (hin : ∀ p ∈ l, (binds.lookup p.2).isSome = true) (hbl : ∀ y ∈ binds, scope.names.lookup y.1 = some .local) (hnd : (binds.map (·.1)).Nodup ∧ ("self" : Str) ∉ binds.map (·.1))
    (hq : ∀ h' tk e d, Made s.heap h' C e d (l.map fun p => (p.1, (binds.lookup p.2).getD .none)).reverse → R (.ok (.ret (.ref e))) { s with heap := h', toks := tk }) :
    codeAny (model prog w) A (.call (.ref C) ⟨us, []⟩) R s := by
  obtain ⟨nm, q, N, bs, bm, sn, sub, ab, col, dd, k0, k1, k2, k3, k5, hC, hbm, hal⟩ := T.cls
  obtain ⟨msg, kk, q1, q2, q3, q4, q5, q6, r, eb, hS, hint, hev⟩ := I.txt
  obtain ⟨oc, od, kV, doc, pm, an, cda, ct, osl, cc, cl, cld, csl, ccl, cdd, vs, ccs, file, tf, hfn, hcd, hcell, hcda, hvs, hfile⟩ := I.fn
  have hcl : clsIn K C = some { name := nm, bases := bs, mro := .ref C :: bm, ns := N, qualname := q, hasDict := true, slotNames := sn, subclasses := sub, abstract := ab, collection := col, hasDel := false } := by unfold clsIn; rw [hC] <;> rfl
  obtain ⟨hp, g, dr, tk, os⟩ := s
  have k : ∀ b o, hp.get? b = some o → ((hp.push (kdv_tup us)).push (excO C hp.objs.size)).get? b = some o := fun b o e => Heap.get?_push_of_some _ (Heap.get?_push_of_some _ e)
  have hget : ((hp.push (kdv_tup us)).push (excO C hp.objs.size)).get? (hp.objs.size + 1) = some (excO C hp.objs.size) := by heap_get
  have hnx : K.lookup (hp.objs.size + 1) = none := by
    cases e : K.lookup (hp.objs.size + 1) with
    | none => rfl
    | some o =>
      have z : hp.get? (hp.objs.size + 1) = some o := X _ _ e
      exact absurd (Nat.lt_of_succ_lt (Heap.lt_size z)) (Nat.lt_irrefl _)
  refine call_own F.excBase_ValueError (fun X => refsVE_contains X bm hbm) (X _ _ hC) (looks_findIn X I.iC) (fun self => bind_fn X self I.tC) hlen ?_
  refine ks_codeAny_call_defAt (binds := ("self", .ref (hp.objs.size + 1)) :: binds) (body := body) (show A.depth + 1 < recursionLimit from hroom) (k _ _ (X _ _ hfn)) rfl (hlim.keeps k) (codeRec_of (X.keeps k) hcd) rfl (hbind _ _ _ rfl rfl rfl) I.cell ?_ (fun h₀ hns hk₀ => ?_) I.co I.gen I.kind
  · intro x hx
    rcases List.mem_cons.mp hx with rfl | hx
    · exact I.slf
    · exact hbl x hx
  · subst eb
    let env : Env := callEnv (ksFn "__init__" qual params (supS msg kk q1 q2 q3 q4 q5 q6 :: r) scope .none kV doc pm an (.ref cda) ct cc) ((hp.push (kdv_tup us)).push (excO C hp.objs.size)).objs.size fI
    have k₀ : ∀ b o, hp.get? b = some o → h₀.get? b = some o := fun b o z => hk₀ b o (k b o z)
    have X₀ : K.In h₀ := X.keeps k₀
    have hx₀ := hk₀ _ _ hget
    obtain ⟨pl, hpl⟩ := hev env rfl
    refine ks_wpAt_execs_cons (ks_wpAt_Expr_any (ks_wpAt_MethodCall (pl := pl) ?_ hpl) (hint env rfl))
    refine ks_wpAt_super_base (f := fI) (cc := cda) I.sup I.cls (by decide) rfl (X₀ _ _ hfn) rfl I.par rfl (X₀ _ _ hcda) rfl hvs hfile I.top ?_
    refine ks_loadName_global I.kind I.sup (loadGlobal_builtin (hG.keeps k₀) hsup (hB.keeps k₀) hmb ⟨rfl, ?_⟩)
    refine wpAny_loadName_free I.kind I.cls rfl ⟨_, X₀ _ _ hcell, rfl⟩ ?_
    refine wpAny_loadName_local I.kind (show env.kindOf ar.arg = some .local by rw [I.arN]; exact I.slf) hns (v := .ref (hp.objs.size + 1)) (by rw [I.arN, lookup_reverse_of_nodup _ (by rw [List.map_cons]; exact List.nodup_cons.mpr ⟨hnd.2, hnd.1⟩)]; simp [List.lookup]) ?_
    refine ks_wpAny_isType_cls (X₀ _ _ hC) rfl ⟨rfl, ?_⟩
    refine ks_wpAny_call_super (X₀ _ _ hC) rfl hx₀ rfl (fun c z => nomatch z) (looks_mroIn X₀ ?_) (fun h1 e1 k1 => ?_)
    · unfold mroIn
      rw [hcl, Option.bind_some, if_neg (show ¬ (List.isEmpty (Value.ref C :: bm) = true) from Bool.false_ne_true)]
      simp
    · have X₁ : K.In h1 := X₀.keeps k1
      have hx₁ := k1 _ _ hx₀
      have Ity : Looks (model prog w) h1 (typeOf (.ref (hp.objs.size + 1))) (.ref C) := (show InstAt h1 (hp.objs.size + 1) (excO C hp.objs.size) C none from ⟨hx₁, rfl, rfl, trivial⟩).type
      have hxC : hp.objs.size + 1 ≠ C := fun z => by
        have y := X _ _ hC
        rw [← z] at y
        exact absurd (Nat.lt_of_succ_lt (Heap.lt_size y)) (Nat.lt_irrefl _)
      refine kxs_getMethod kxs_ValueError e1 (looks_opaque X₁ ho) ((looks_clsIn X₁ hcl).andThen .now) (l := bm) (by simp [List.dropWhile_cons]) X₁ hal (Ity.andThen (looks_subIn X₁ T.ve)) hxC (by decide) ?_
      refine mw_call (u := h1.objs.size) (x := hp.objs.size + 1) (Heap.get?_push_at rfl rfl) fun t => ?_
      have hw : (h1.push (kxs_mw "ValueError.__init__" (hp.objs.size + 1))).get? h1.objs.size = some (kxs_mw "ValueError.__init__" (hp.objs.size + 1)) := Heap.get?_push_at rfl rfl
      have k2 : ∀ b o, h1.get? b = some o → (h1.push (kxs_mw "ValueError.__init__" (hp.objs.size + 1))).get? b = some o := fun b o z => Heap.get?_push_of_some _ z
      have X₂ : K.In _ := X₁.keeps k2
      refine wpAny_call (codeAny_of_tree ?_)
      show wpAny _ _ (callAny (.ref h1.objs.size) ⟨[.str msg t], []⟩) _ _ _
      simp only [callAny]
      refine wpAny_bind (wpAny_load hw ?_)
      simp only [kxs_mw, show (Value.type "method-wrapper" == Value.type "method" || Value.type "method-wrapper" == Value.type "builtin_function_or_method" || Value.type "method-wrapper" == Value.type "method-wrapper") = true by decide, if_true]
      refine KFB.if_so (by decide) ?_
      refine wpAny_bind (check_bound_init F.excBase_ValueError.toExcCallFacts (X₂ _ _ hC) (k2 _ _ hx₁) rfl ?_)
      refine wpAny_bind (wpAny_pure (wpAny_pure ?_))
      refine ⟨plainId_quiet F.excBase_ValueError.init.plain _, codeAny_builtin F.excBase_ValueError.initEntry ?_⟩
      refine exc_init_tree (cls := .ref C) (t0 := hp.objs.size) (dv := none) (c2 := .none) (c3 := .none) (b4 := .bool false) (k2 _ _ hx₁) (by show 1 ≤ sizeLine; decide) fun h3 k3 e3 _ => ?_
      have kk3 : ∀ b o, b ≠ hp.objs.size + 1 → h₀.get? b = some o → h3.get? b = some o := fun b o hb z => k3 b o hb (k2 b o (k1 b o z))
      have notE : ∀ b o, hp.get? b = some o → b ≠ hp.objs.size + 1 := fun b o z => Nat.ne_of_lt (Nat.lt_of_lt_of_le (Heap.lt_size z) (Nat.le_succ _))
      have k4 : ∀ b o, hp.get? b = some o → h3.get? b = some o := fun b o z => kk3 b o (notE b o z) (k₀ b o z)
      have hL : env.locals ≠ hp.objs.size + 1 := by
        show ((hp.push (kdv_tup us)).push (excO C hp.objs.size)).objs.size ≠ hp.objs.size + 1
        rw [Heap.size_push, Heap.size_push]
        omega
      have hn3 : h3.Ns env.locals fun x => List.lookup x ((("self" : Str), Value.ref (hp.objs.size + 1)) :: binds).reverse := by
        obtain ⟨oL, es, ep, hoL, rr⟩ := hns
        exact ⟨oL, es, ep, kk3 _ _ hL hoL, rr⟩
      have nd : (((("self" : Str), Value.ref (hp.objs.size + 1)) :: binds).map (·.1)).Nodup := by
        rw [List.map_cons]
        exact List.nodup_cons.mpr ⟨hnd.2, hnd.1⟩
      have lk : ∀ x : Str, x ≠ "self" → List.lookup x ((("self" : Str), Value.ref (hp.objs.size + 1)) :: binds).reverse = binds.lookup x := fun x hx => by
        rw [lookup_reverse_of_nodup _ nd, lookup_cons, if_neg hx]
      have pne : ∀ p ∈ l, p.2 ≠ ("self" : Str) := fun p hp' e => by
        have q := hin p hp'
        rw [e] at q
        obtain ⟨v, hv⟩ := Option.isSome_iff_exists.mp q
        have : ("self" : Str) ∈ binds.map (·.1) := by
          exact lookup_mem_keys hv
        exact hnd.2 this
      refine wpAt_of_wpAny (sto_run T (env := env) (d := none) rfl I.kind I.slf (by rw [lookup_reverse_of_nodup _ nd, lookup_cons, if_pos rfl]) hS (fun p hp' => ?_) (X.keeps k4) hnx (fun _ z => nomatch z) ⟨_, e3, rfl⟩ hL (fun _ z => nomatch z) hn3 (by have := I.few; simpa using this) fun h4 tk4 d4 I4 k5 _ kn => ?_)
      · obtain ⟨a1, a2, a3⟩ := I.loc p hp'
        exact ⟨a1, by rw [lk _ (pne p hp')]; exact hin p hp', a2, a3⟩
      · refine ⟨rfl, hq h4 tk4 _ d4 ⟨fun b o z => k5 b o (notE b o z) (fun _ y => nomatch y) (k4 b o z), Nat.le_succ _, ?_, fun dx y => ?_⟩⟩
        · have e5 : (l.map fun p => (p.1, (List.lookup p.2 ((("self" : Str), Value.ref (hp.objs.size + 1)) :: binds).reverse).getD Value.none)) = l.map fun p => (p.1, (binds.lookup p.2).getD Value.none) :=
            List.map_congr_left fun p hp' => by rw [lk _ (pne p hp')]
          rw [e5, List.append_nil] at I4
          exact I4
        · have b : hp.objs.size ≤ h3.objs.size := Nat.le_trans (Nat.le_succ _) (Nat.le_of_lt (Heap.lt_size e3))
          exact Nat.le_trans b (kn rfl dx y)
end
end NX

set_option maxRecDepth 100000
set_option maxHeartbeats 4000000
/-! # Raising them, over the layer -/
namespace L2
open PySem PySem.Spec PyProof.Rows

/-- a class of the program's errors: its parameters ps, what it stores (field, parameter) -/
structure Exn (prog : Program) (K : PySem.W.Frag) (mg : Str → Option Value) (x : Str) (C fI : Addr) (ps : List Str) (l : List (Str × Str)) : Prop where
  cls : NX.ClsX K C
  ini : ∃ qual params scope body ar, NX.InitX prog K C fI qual params scope body ar l ∧ (∀ (s' : Shared) (e : Addr) (fd : FuncData) (us : List Value), us.length = ps.length → fd.params = params → fd.scope = scope → fd.defaults = .none → BindsTo s' fd ⟨.ref e :: us, []⟩ (("self", .ref e) :: ps.zip us)) ∧
    ∀ p ∈ ps, scope.names.lookup p = some .local
  loc : ∀ p ∈ l, p.2 ∈ ps
  nod : ps.Nodup ∧ ("self" : Str) ∉ ps
  gC : mg x = some (.ref C)
  sup : mg "super" = none
  any : PySem.W.nsIn K cStatics "thirdparty.any" = some none
  kC : PySem.W.keepIn K (.ref C) = true
  exC : PySem.W.subIn K (.ref C) (.type "BaseException") = some true
  tyC : PySem.W.typeIn K (.ref C) = some (.type "type")

/-- the fields of an error made with vs -/
def fieldsX (ps : List Str) (l : List (Str × Str)) (vs : List V) : List (Str × V) := (l.map fun p => (p.1, ((ps.zip vs).lookup p.2).getD .non)).reverse

theorem look_zip : ∀ {ps : List Str} {vs : List V} {us : List Value} {x : Str}, Vals vs us → RelO ((ps.zip vs).lookup x) ((ps.zip us).lookup x)
  | [], _, _, _, _ => by simp [RelO]
  | _ :: _, [], _, _, .nil => by simp [RelO]
  | p :: ps, v :: vs, _, x, .cons (b := u) r t => by
    rw [List.zip_cons_cons, List.zip_cons_cons]
    by_cases e : x = p
    · subst e
      simpa [List.lookup, RelO] using r
    · have q : (x == p) = false := by simpa using e
      simp only [List.lookup, q]
      exact look_zip t
theorem look_some : ∀ {ps : List Str} {us : List Value} {x : Str}, x ∈ ps → us.length = ps.length → ((ps.zip us).lookup x).isSome = true
  | [], _, _, h, _ => by cases h
  | p :: ps, [], _, _, h => by cases h
  | p :: ps, u :: us, x, h, hl => by
    rw [List.zip_cons_cons, NX.lookup_cons]
    by_cases e : x = p
    · rw [if_pos e]
      rfl
    · rw [if_neg e]
      exact look_some ((List.mem_cons.mp h).resolve_left e) (by simpa using hl)
theorem map_fst_zip : ∀ {ps : List Str} {us : List Value}, us.length = ps.length → (ps.zip us).map (·.1) = ps
  | [], _, _ => rfl
  | p :: ps, [], h => by cases h
  | p :: ps, u :: us, h => by
    rw [List.zip_cons_cons, List.map_cons, map_fst_zip (by simpa using h)]
theorem relO_fields {ps : List Str} {vs : List V} {us : List Value} (r : Vals vs us) (hl : us.length = ps.length) : ∀ {l : List (Str × Str)}, (∀ p ∈ l, p.2 ∈ ps) → ∀ f, RelO ((fieldsX ps l vs).lookup f) (((l.map fun p => (p.1, ((ps.zip us).lookup p.2).getD Value.none)).reverse).lookup f) := by
  intro l hp f
  have key : ∀ {l : List (Str × Str)}, (∀ p ∈ l, p.2 ∈ ps) → RelO ((l.map fun p => (p.1, ((ps.zip vs).lookup p.2).getD V.non)).lookup f) ((l.map fun p => (p.1, ((ps.zip us).lookup p.2).getD Value.none)).lookup f) := by
    intro l
    induction l with
    | nil => intro _; simp [RelO]
    | cons p r' ih =>
      intro hp
      rw [List.map_cons, List.map_cons]
      by_cases e : f = p.1
      · have q : (f == p.1) = true := by simpa using e
        simp only [List.lookup, q]
        have z := look_zip (ps := ps) (x := p.2) r
        obtain ⟨u, hu⟩ := Option.isSome_iff_exists.mp (look_some (us := us) (hp p (List.mem_cons_self ..)) hl)
        rw [hu] at z ⊢
        cases y : List.lookup p.2 (ps.zip vs) with
        | none => rw [y] at z; exact z.elim
        | some v => rw [y] at z; exact z
      · have q : (f == p.1) = false := by simpa using e
        simp only [List.lookup, q]
        exact ih fun p' h' => hp p' (List.mem_cons_of_mem _ h')
  unfold fieldsX
  rw [← List.map_reverse, ← List.map_reverse]
  exact key fun p h => hp p (List.mem_reverse.mp h)

/-- X(e, ..) -/
def tMkX (C : Addr) (ps : List Str) (l : List (Str × Str)) (ta : TA) : St → Hp → XK → Prop := fun σ H Q => ta σ H fun vs H1 => vs.length = ps.length ∧ ∀ d, H1 d = none → Q (.ref C) (some d) (upd H1 d (.xd (fieldsX ps l vs)))
section
variable {X : Cx} {C fI : Addr} {x : Str} {ps : List Str} {l : List (Str × Str)}
theorem mk_made (T : Exn X.prog X.K X.mg x C fI ps l) (hl0 : l ≠ []) {k : Nat} (hr : Room k X.A) {pins : List (Addr × Obj)} {σ : St} {H1 : Hp} {Q : XK} {s1 : Shared} {vs : List V} {us : List Value} (I1 : Inv X pins σ H1 s1) (r1 : Vals vs us) (hlen : vs.length = ps.length) (hps : ps.length ≤ 900)
    (q1 : ∀ d, H1 d = none → Q (.ref C) (some d) (upd H1 d (.xd (fieldsX ps l vs)))) : wpAny (model X.prog X.w) X.A (call (.ref C) us) (MkP X pins σ Q) X.xe s1 := by
  obtain ⟨qual, params, scope, body, ar, hI, hb, hloc⟩ := T.ini
  have hus : us.length = ps.length := by rw [← r1.length]; exact hlen
  obtain ⟨hG, mb, hB, hbb⟩ : s1.heap.Ns mainGlobals X.mg ∧ ∃ mb : Str → Option Value, s1.heap.Ns builtinsNs mb ∧ ∀ x : Str, x ≠ "__name__" → mb x = bootBuiltins x := by
    obtain ⟨_, h1, ⟨mb, h2, h3⟩, _⟩ := I1.mod
    exact ⟨h1.keeps I1.bk, mb, h2.keeps I1.bk, h3⟩
  refine wpAny_call (NX.exn_made (binds := ps.zip us) T.cls hI I1.kIn I1.nolimit hG hB T.sup ((hbb _ (by decide)).trans (by decide +kernel)) T.any (by have := hr.dp; omega) (by rw [hus]; exact Nat.le_trans hps (by decide)) (fun s' e fd h1 h2 h3 => hb s' e fd us hus h1 h2 h3)
    (fun p hp => look_some (T.loc p hp) hus) (fun y hy => hloc _ (by rw [← map_fst_zip hus]; exact List.mem_map_of_mem hy)) (by rw [map_fst_zip hus]; exact T.nod) fun h' tk' e d M => ?_)
  obtain ⟨hp, g, dr, tk, os⟩ := s1
  obtain ⟨t0, hoe, hdd⟩ := M.obj
  cases d with
  | none => exact absurd (by simpa using hdd) hl0
  | some d =>
    obtain ⟨dne, m, hns, hm⟩ := hdd
    show MkP X pins σ Q (.ref e) ⟨h', g, dr, tk', os⟩
    obtain ⟨G', g1, g2⟩ := restrict h' fun b => decide (b ≠ e)
    have gk : ∀ b, b ≠ e → G'.get? b = h'.get? b := fun b hb => g1 b (decide_eq_true hb)
    have ge : G'.get? e = none := g2 e (by simp)
    have old : ∀ b o, hp.get? b = some o → G'.get? b = some o := fun b o q => (gk b (Nat.ne_of_lt (Nat.lt_of_lt_of_le (Heap.lt_size q) M.new))).trans (M.keep b o q)
    have dbig : hp.objs.size ≤ d := M.dct d rfl
    have ob : ObjOk X.prog X.w (upd H1 d (.xd (fieldsX ps l vs))) G' d (.xd (fieldsX ps l vs)) :=
      ⟨m, hns.at (fun o q => (gk d dne).trans q), fun f => by rw [hm f]; exact relO_fields r1 hus T.loc f⟩
    have J : Inv X pins σ (upd H1 d (.xd (fieldsX ps l vs))) ⟨G', g, dr, tk', os⟩ := I1.laid (t' := tk') old dbig ob
    refine ⟨e, _, _, ⟨G', g, dr, tk', os⟩, _, .ref C, some d, rfl, J, fun b o q => ?_, ge, hoe, ⟨rfl, rfl⟩, rfl, rfl, ?_, rfl, I1.bare, raises_own T.exC T.tyC, q1 d (I1.hok.fresh dbig)⟩
    · by_cases hb : b = e
      · have q' : G'.get? b = some o := q
        rw [hb, ge] at q'; cases q'
      · exact (gk b hb).symm.trans q
    · rw [upd_ne (Ne.symm dne)]
      exact I1.hok.fresh M.new
variable {e : Expr} {es : List Expr} {ta : TA} {p pos pos2 : Pos} {W : WX} {k : Nat}
theorem pmk_x (T : Exn X.prog X.K X.mg x C fI ps l) (hl0 : l ≠ []) (hps : ps.length ≤ 900) (hr : Room k X.A) (hg : Gl X x) (ha : PA X (e :: es) ta) (hdb : (x == ("__debug__" : Str)) = false := by decide)
    (he : starEach (e :: es) X.env = (false, eval e X.env) :: starEach es X.env := by rfl) (hpl : (backTo pos (starEach es X.env)).any (·.1) = false := by rfl) :
    PMk X (.Call (.Name x p) (e :: es) [] pos) (tMkX C ps l ta) := by
  intro pins s σ H Q I h
  refine wpAny_Call_Name_kw (ld_glob I hg T.gC ?_ hdb)
  refine PySem.W.callWith_K (h₀ := X.base) I.ok.mod.kin T.kC (thn (ha.run pos pins s σ H _ I h) fun us s1 hh => ?_) he hpl
  obtain ⟨vs, H1, I1, r1, hlen, q1⟩ := hh
  exact ⟨I1.kIn, mk_made T hl0 hr I1 r1 hlen hps q1⟩
/-- raise X(e, ..) -/
def tRaiseX (C : Addr) (ps : List Str) (l : List (Str × Str)) (W : WX) (ta : TA) : TS := fun _ σ H => tMkX C ps l ta σ H fun cls d H' => W cls d σ H'
theorem ps_raiseX (hc : X.calm = true) (T : Exn X.prog X.K X.mg x C fI ps l) (hl0 : l ≠ []) (hps : ps.length ≤ 900) (hr : Room k X.A) (tk : Takes X W) (hg : Gl X x) (ha : PA X (e :: es) ta) (hdb : (x == ("__debug__" : Str)) = false := by decide)
    (he : starEach (e :: es) X.env = (false, eval e X.env) :: starEach es X.env := by rfl) (hpl : (backTo pos (starEach es X.env)).any (·.1) = false := by rfl) :
    PS X (.Raise (some (.Call (.Name x p) (e :: es) [] pos)) none pos2) (tRaiseX C ps l W ta) := ps_raise hc tk (pmk_x T hl0 hps hr hg ha hdb he hpl)
end
end L2

set_option maxRecDepth 100000
set_option maxHeartbeats 4000000
/-! # Further rules over the layer -/
namespace L2
open PySem PySem.Spec PyProof.Rows
/-- x is True, x is False -/
def rIsTF : R2 := fun x y H Q => ∃ b : Bool, y = .bl b ∧ Q (.bl (decide (x = .bl b))) H
theorem op_isTF {X : Cx} : OpR X (compareOp .Is) rIsTF := by
  intro pins s σ H x y v u Q I rx ry h
  obtain ⟨b, rfl, q⟩ := h
  cases ry
  cases x with
  | non => cases rx; exact wpAny_pure (fin_bl I q (by simp))
  | bl c => cases rx; exact wpAny_pure (fin_bl I q (by cases b <;> cases c <;> rfl))
  | int i => obtain ⟨t, rfl⟩ := rx; exact wpAny_pure (fin_bl I q (by simp))
  | str i => obtain ⟨t, rfl⟩ := rx; exact wpAny_pure (fin_bl I q (by simp))
  | byt i => obtain ⟨t, rfl⟩ := rx; exact wpAny_pure (fin_bl I q (by simp))
  | flt i => obtain ⟨t, rfl⟩ := rx; exact wpAny_pure (fin_bl I q (by simp))
  | ref a => cases rx; exact wpAny_pure (fin_bl I q (by simp))
  | ty n => cases rx; exact wpAny_pure (fin_bl I q (by simp))

/-! ### operators that an own class defines -/
/-- what a class says of its own method for the operator op (forward) -/
structure OwnOp (K : PySem.W.Frag) (C : Addr) (op : Operator) (f : Addr) : Prop where
  first : PySem.W.selfFirst K C = true
  at_ : PySem.W.findIn K (.ref C) (PySem.dunder op.info.2) = some (some (.ref f))
  fn : PySem.W.isFn K (.ref f) = true
/-- .. against a value of the built-in class T -/
structure OwnOpT (K : PySem.W.Frag) (C : Addr) (op : Operator) (f : Addr) (T : String) : Prop extends OwnOp K C op f where
  rev : ∃ rc, PySem.W.findIn K (.ref C) (dunderR op.info.2) = some rc ∧ (rc = none ∨ ∃ g : Addr, rc = some (.ref g))
  tf : ∃ fo, PySem.W.findIn K (.type T) (PySem.dunder op.info.2) = some fo
  tr : ∃ ro, PySem.W.findIn K (.type T) (dunderR op.info.2) = some ro
  sub : PySem.W.subIn K (.type T) (.ref C) = some false
theorem inst_of {P : Program} {w : World} {H : Hp} {h : Heap} {a C dx : Addr} {fs : List (Str × V)} (hok : HOk P w H h) (ha : H a = some (.ins C dx fs)) : ∃ od, PySem.W.InstAt h a (PySem.W.instObj C dx) C (some od) := by
  obtain ⟨mA, J, _⟩ := ins_get hok ha
  obtain ⟨od, J, _⟩ := J.look
  exact ⟨od, J⟩
theorem back_of {X : Cx} {pins : List (Addr × Obj)} {σ : St} {Q : VK} {v : Value} {s' : Shared} (h : EP X pins σ Q v s') : PySem.W.CmpBack (fun v s' => EP X pins σ Q v s') v s' := by
  obtain ⟨x, H, I, r, q⟩ := id h
  cases v <;> first
    | exact h
    | (cases x <;> first | (obtain ⟨t, z⟩ := r; cases z; done) | (cases r; done))
/-- a op b, b of the same class -/
def rOwnOp (C : Addr) (sp : Sp) (E : XK) : R2 := fun x y H Q => ∃ a dx fs b dy gs, x = .ref a ∧ y = .ref b ∧ H a = some (.ins C dx fs) ∧ H b = some (.ins C dy gs) ∧ sp [.ref a, .ref b] H Q E
theorem op_own {X : Cx} {CX : CXT} {op : Operator} {C f : Addr} {fd : FuncData} {ps : List Str} {sp : Sp} {E : XK} {k : Nat} (O : OwnOp X.K C op f) (F : FnOk X.prog X.w X.K X.mg X.base CX k f fd ps sp) (hb : Binds X.K fd ps []) (hr : Room k X.A) (hx : Passes CX X E) :
    OpR X (binaryOp op) (rOwnOp C sp E) := by
  intro pins s σ H x y v u Q I rx ry h
  obtain ⟨a, dx, fs, b, dy, gs, rfl, rfl, ha, hb', hsp⟩ := h
  cases rx
  cases ry
  obtain ⟨od, J⟩ := inst_of I.hok ha
  obtain ⟨od', J'⟩ := inst_of I.hok hb'
  obtain ⟨m, hF⟩ := I.fr
  refine PySem.W.binop_K hF I.ok.mod.kin J J'.type O.first O.at_ O.fn (wpAny_mono (run_fn F hr hb .nil hx I (us := [.ref a, .ref b]) (vs := [.ref a, .ref b]) (.cons rfl (.cons rfl .nil)) hsp) (fun r s' q => back_of q) fun _ _ z => z)
/-- a op n, n a number -/
def rOwnOpI (C : Addr) (sp : Sp) (E : XK) : R2 := fun x y H Q => ∃ a dx fs n, x = .ref a ∧ y = .int n ∧ H a = some (.ins C dx fs) ∧ sp [.ref a, .int n] H Q E
theorem op_ownI {X : Cx} {CX : CXT} {op : Operator} {C f : Addr} {fd : FuncData} {ps : List Str} {sp : Sp} {E : XK} {k : Nat} (O : OwnOpT X.K C op f "int") (F : FnOk X.prog X.w X.K X.mg X.base CX k f fd ps sp) (hb : Binds X.K fd ps []) (hr : Room k X.A) (hx : Passes CX X E) :
    OpR X (binaryOp op) (rOwnOpI C sp E) := by
  intro pins s σ H x y v u Q I rx ry h
  obtain ⟨a, dx, fs, n, rfl, rfl, ha, hsp⟩ := h
  cases rx
  obtain ⟨t, rfl⟩ := ry
  obtain ⟨od, J⟩ := inst_of I.hok ha
  obtain ⟨m, hF⟩ := I.fr
  obtain ⟨rc, h1, h2⟩ := O.rev
  obtain ⟨fo, h3⟩ := O.tf
  obtain ⟨ro, h4⟩ := O.tr
  refine PySem.W.ksp_binT (T := "int") hF I.ok.mod.kin J rfl O.first O.at_ O.fn h1 h2 h3 h4 O.sub (wpAny_mono (run_fn F hr hb .nil hx I (us := [.ref a, .int n t]) (vs := [.ref a, .int n]) (.cons rfl (.cons ⟨t, rfl⟩ .nil)) hsp) (fun r s' q => back_of q) fun _ _ z => z)

/-- -a -/
def rOwnNeg (C : Addr) (sp : Sp) (E : XK) : V → Hp → VK → Prop := fun x H Q => ∃ a dx fs, x = .ref a ∧ H a = some (.ins C dx fs) ∧ sp [.ref a] H Q E
theorem un_own {X : Cx} {CX : CXT} {C f : Addr} {fd : FuncData} {ps : List Str} {sp : Sp} {E : XK} {k : Nat} (hs : PySem.W.findIn X.K (.ref C) "__neg__" = some (some (.ref f))) (hf : PySem.W.isFn X.K (.ref f) = true) (F : FnOk X.prog X.w X.K X.mg X.base CX k f fd ps sp) (hb : Binds X.K fd ps []) (hr : Room k X.A) (hx : Passes CX X E) :
    UnR X (unaryOp .USub) (rOwnNeg C sp E) := by
  intro pins s σ H x v Q I rx h
  obtain ⟨a, dx, fs, rfl, ha, hsp⟩ := h
  cases rx
  obtain ⟨od, J⟩ := inst_of I.hok ha
  obtain ⟨m, hF⟩ := I.fr
  exact PySem.W.ksp_neg hF I.ok.mod.kin J hs hf (run_fn F hr hb .nil hx I (us := [.ref a]) (vs := [.ref a]) (.cons rfl .nil) hsp)
end L2

set_option maxRecDepth 100000
set_option maxHeartbeats 4000000
/-! # enumerate(x), x a list or a tuple -/
namespace EN
open PySem PySem.Builtin
set_option maxHeartbeats 1000000 in
theorem meets1 {v : Value} {o : Obj} {H : Heap → Prop} (B : Begins v o H) :
    Meets (Builtin.«enumerate.__new__» ⟨[.type "enumerate", v], []⟩) (fun _ R s => H s.heap ∧
      R (.ok (.ret (.ref (s.heap.push o).objs.size))) { s with heap := (s.heap.push o).push { cls := .type "enumerate", data := .fields #[.none, .bool false, .ref s.heap.objs.size, rawInt 0, .none, .none] } }) :=
  .of_wp fun prog w A R s h => by
    obtain ⟨hp, g, d, tk, os⟩ := s; obtain ⟨h1, h⟩ := h
    have hsub := sub_enumerate
    have q1 : ∀ {A' : Around} {E : Value → Shared → Prop} {Q : Value → Shared → Prop}, Q (.ref hp.objs.size) ⟨hp.push o, g, d, tk, os⟩ → wpAny (model prog w) A' (pyIter v) Q E ⟨hp, g, d, tk, os⟩ :=
      fun q => B.iter prog w _ _ ⟨hp, g, d, tk, os⟩ _ h1 q
    wp_walk using q1
    refine wpAny_stack_any fun st => wpAny_pure ?_
    split
    · rename_i c _ _ _ _ _
      cases (c == Value.type "enumerate")
      · wp_walk using q1
        exact ⟨_, rfl, h⟩
      · wp_walk using q1
        exact ⟨_, rfl, h⟩
    · wp_walk using q1
      exact ⟨_, rfl, h⟩
section
variable {prog : Program} {w : World} {A : Around} {E : Value → Shared → Prop} {s : Shared}
theorem begins1 {v : Value} {o : Obj} {H : Heap → Prop} {Q : Value → Shared → Prop} (B : Begins v o H) (h1 : H s.heap)
    (h : ∀ h', IsEnum h' (s.heap.objs.size + 1) s.heap.objs.size 0 .none → h'.get? s.heap.objs.size = some o → h'.objs.size = s.heap.objs.size + 2 →
      (∀ b o, s.heap.get? b = some o → h'.get? b = some o) → Q (.ref (s.heap.objs.size + 1)) { s with heap := h' })
    (ht : checkTypeCall "enumerate" ⟨[v], []⟩ = pure ()) (hn : checkBuiltinCall "enumerate.__new__" ⟨[.type "enumerate", v], []⟩ = pure ()) (ha : ∀ obj, argsOk "object.__init__" ⟨[obj, v], []⟩) :
    wpAny (model prog w) A (call (.type "enumerate") [v]) Q E s := by
  refine callType_new F.called_enumerate (by decide) ht hn ha F.entry_enumerate_new (meets1 B) ⟨h1, ?_⟩
  have hz : (s.heap.push o).objs.size = s.heap.objs.size + 1 := Heap.size_push ..
  show _ ∧ _
  rw [hz]
  have he : IsEnum ((s.heap.push o).push { cls := .type "enumerate", data := .fields #[.none, .bool false, .ref s.heap.objs.size, rawInt 0, .none, .none] }) (s.heap.objs.size + 1) s.heap.objs.size 0 .none := by
    have := Heap.get?_push_size (s.heap.push o) (o := { cls := .type "enumerate", data := .fields #[.none, .bool false, .ref s.heap.objs.size, rawInt 0, .none, .none] }) rfl
    rw [hz] at this; exact this
  refine ⟨⟨_, he, rfl⟩, h _ he (Heap.get?_push_of_some _ (Heap.get?_push_size _ B.free)) (by rw [Heap.size_push, hz]) fun b o x => Heap.get?_push_of_some _ (Heap.get?_push_of_some _ x)⟩
end
end EN

namespace L2
open PySem PySem.Spec PyProof.Rows
/-- enumerate over the tuple at a, from k on -/
def IteT (K : PySem.W.Frag) (k : Int) (a : Addr) : It :=
  ⟨fun i H => ∃ (xs : List V) (x : V), SqT K H a xs ∧ xs[i]? = some x, fun i H v H' => ∃ T x, v = .ref T ∧ H T = none ∧ H' = upd H T (.tup [.int (k + (i : Int)), x]) ∧ ∀ xs, SqT K H a xs → xs[i]? = some x, fun i H => ∃ xs : List V, SqT K H a xs ∧ xs.length = i⟩
theorem turn_enumT {P : Program} {w : World} {K : PySem.W.Frag} {elts : List Expr} {kk : Nat} {tpos : Pos} (k : Int) (a e it : Addr) (hei : e ≠ it) :
    Turn P w K (.Tuple elts kk tpos) (IteT K k a) [e, it] e (fun i h => (∃ old, IsEnum h e it (k + ((i : Nat) : Int)) old) ∧ h.IsTupleIter it a i) where
  mem := by simp
  obj := fun i h st b hb => by
    obtain ⟨⟨old, he⟩, ⟨o, ho, hc, hd⟩⟩ := st
    have e' : b = e ∨ b = it := by simpa using hb
    rcases e' with z | z
    · rw [z]; exact ⟨_, he, fun v q => nomatch q⟩
    · rw [z]; exact ⟨o, ho, fun v q => by rw [hd] at q; cases q⟩
  keep := fun i h h' st k => let ⟨⟨old, he⟩, hi⟩ := st; ⟨⟨old, k e (by simp) _ he⟩, hi.at fun o q => k it (by simp) o q⟩
  item := by
    intro X hP hw hK hc i pins s σ H E I hf st hg
    subst hP hw hK
    obtain ⟨⟨old, he⟩, hit⟩ := st
    obtain ⟨xs, x, hq, hx⟩ := hg
    obtain ⟨its, rv, p, hz⟩ := I.tuple hq
    obtain ⟨u, hu, ru⟩ := rv.get hx
    have hel : e < s.heap.objs.size := Heap.lt_size he
    have hil : it < s.heap.objs.size := by obtain ⟨_, q, _⟩ := hit; exact Heap.lt_size q
    have hae : e ≠ a := fun z => by
      obtain ⟨o, ho, hcls, _⟩ := p
      rw [← z, he] at ho
      cases ho
      exact absurd (show Value.type "enumerate" = Value.type "tuple" from hcls) (by decide)
    have hai : a ≠ it := fun z => by
      obtain ⟨o, ho, hcls, _⟩ := p
      obtain ⟨o2, ho2, hc2, _⟩ := hit
      rw [z, ho2] at ho
      cases ho
      rw [hc2] at hcls
      exact absurd hcls (by decide)
    have W := GoesN.enumFrom (prog := X.prog) (w := X.w) (A := X.A) (elts := elts) (x1 := kk) (pos := tpos) k (Draws.tuple (prog := X.prog) (w := X.w) (A := X.A.in1) (I.ok.hd hc) it a hai its.toArray) e hei (by simp [hei, hae]) (by simp)
    have hi : i < its.toArray.size := by
      have := (List.getElem?_eq_some_iff.mp hu).1
      simpa using this
    refine wpAny_mono (W.goes i s _ E hi ⟨⟨old, he⟩, hit, p⟩ fun v h' tk hY st' hk htk => ?_) (fun r s1 hr => hr) fun _ _ z => z
    obtain ⟨T, t, y, rfl, hT, hPy, hTup⟩ := hY
    have ey : y = u := by
      have hu' : its.toArray[i]? = some u := by simpa using hu
      rw [hu'] at hPy
      exact (Option.some.inj hPy).symm
    subst ey
    obtain ⟨⟨old2, he2⟩, hit2, _⟩ := st'
    have new : ObjOk X.prog X.w (upd H T (.tup [.int (k + (i : Int)), x])) h' T (.tup [.int (k + (i : Int)), x]) :=
      ⟨by show 2 ≤ sizeLine; decide, [.int (k + (i : Int)) t, y], .cons ⟨_, rfl⟩ (.cons ru .nil), hTup⟩
    have I1 : Inv X pins σ (upd H T (.tup [.int (k + (i : Int)), x])) { s with heap := h', toks := tk } :=
      I.turnedNew (ch := [e, it]) (fun b ob hb q => hk b ob hb q) hf hT new
    refine ⟨.ref T, _, I1, rfl, ⟨_, x, rfl, I.hok.fresh hT, rfl, fun ys hy => by rw [I.tuple_inj hy hq]; exact hx⟩, ⟨⟨old2, he2⟩, hit2⟩, fun b hb => ?_⟩
    have hb' : b < s.heap.objs.size := by
      have e' : b = e ∨ b = it := by simpa using hb
      rcases e' with z | z
      · rw [z]; exact hel
      · rw [z]; exact hil
    rw [upd_ne (Nat.ne_of_lt (Nat.lt_of_lt_of_le hb' hT))]
    exact (hf b hb).1
  done := by
    intro X hP hw hK hc i pins s σ H E I hf st hg
    subst hP hw hK
    obtain ⟨⟨old, he⟩, hit⟩ := st
    obtain ⟨xs, hq, hx⟩ := hg
    obtain ⟨its, rv, p, hz⟩ := I.tuple hq
    have hai : a ≠ it := fun z => by
      obtain ⟨o, ho, hcls, _⟩ := p
      obtain ⟨o2, ho2, hc2, _⟩ := hit
      rw [z, ho2] at ho
      cases ho
      rw [hc2] at hcls
      exact absurd hcls (by decide)
    have hae : e ≠ a := fun z => by
      obtain ⟨o, ho, hcls, _⟩ := p
      rw [← z, he] at ho
      cases ho
      exact absurd (show Value.type "enumerate" = Value.type "tuple" from hcls) (by decide)
    have W := GoesN.enumFrom (prog := X.prog) (w := X.w) (A := X.A) (elts := elts) (x1 := kk) (pos := tpos) k (Draws.tuple (prog := X.prog) (w := X.w) (A := X.A.in1) (I.ok.hd hc) it a hai its.toArray) e hei (by simp [hei, hae]) (by simp)
    have hl := rv.length
    have hn : its.toArray.size = i := by
      rw [List.size_toArray, ← hl, hx]
    refine wpAny_mono (W.stops s (fun s1 => Inv X pins σ H s1) E (by rw [hn]; exact ⟨⟨old, he⟩, hit, p⟩) fun h' tk hk htk => I.turnedL (t' := tk) (ch := [e, it]) (fun b o hb q => hk b o hb q) hf) (fun r s1 hr => hr) fun _ _ z => z
  self := fun A i s Q E st h => let ⟨⟨_, he⟩, _⟩ := st; wpAny_pyIter_enum he h

theorem walk_enumT {K : PySem.W.Frag} {k : Int} {a : Addr} {xs : List V} : Walk (IteT K k a) xs.length (fun H => SqT K H a xs) (YPair (fun i => some (.int (k + (i : Nat)))) (fun i => xs[i]?)) where
  goes := fun i H hi h => ⟨xs, xs[i], h, List.getElem?_eq_getElem hi⟩
  stops := fun H h => ⟨xs, h, rfl⟩
  yields := fun i H v H' hi h y => by
    obtain ⟨T, x, rfl, hT, rfl, hx⟩ := y
    exact ⟨T, .int (k + (i : Nat)), x, rfl, hT, rfl, rfl, hx xs h⟩
/-- enumerate(x), x a list or a tuple -/
def iEnumA (K : PySem.W.Frag) (ta : TA) : TI := fun σ H R => ta σ H fun vs H1 => ∃ a xs, vs = [.ref a] ∧ ((SqL K H1 a xs ∧ R (Ite K a) H1) ∨ (SqT K H1 a xs ∧ R (IteT K 0 a) H1))
theorem pi_enumA {X : Cx} {e : Expr} {ta : TA} {p pos tpos : Pos} {elts : List Expr} {kk : Nat} (hg : Gl X "enumerate") (hm : X.mg "enumerate" = none) (ha : PA X [e] ta) (hs : starEach [e] X.env = [(false, eval e X.env)] := by rfl) :
    PI X (.Tuple elts kk tpos) (.Call (.Name "enumerate" p) [e] [] pos) (iEnumA X.K ta) := by
  refine ⟨fun pins s σ H R I h => ?_⟩
  refine Call_ (ld_blt I hg hm boot_enumerate (PyProof.Rows.callWith_type1 (thn (ha.run pos pins s σ H _ I h) fun us s1 ⟨vs, H1, I1, r1, q1⟩ => ?_) hs rfl))
  obtain ⟨a, xs, ex, q1⟩ := q1
  subst ex
  cases r1 with
  | cons r rr =>
    cases rr
    cases r
    have fresh2 : ∀ b, b ∈ [s1.heap.objs.size + 1, s1.heap.objs.size] → FpOk X pins H1 b := fun b hb => by
      have e' : b = s1.heap.objs.size + 1 ∨ b = s1.heap.objs.size := by simpa using hb
      have hle : s1.heap.objs.size ≤ b := by
        rcases e' with z | z
        · rw [z]; exact Nat.le_add_right _ _
        · rw [z]; exact Nat.le_refl _
      exact I1.fpOk hle (I1.hok.fresh hle)
    rcases q1 with ⟨hq, q⟩ | ⟨hq, q⟩
    · obtain ⟨its, rv, p', hz⟩ := I1.list hq
      refine call_enumerate_list p'.isList fun h' he hit hsz hk => wpAny_pyIter_enum he ?_
      have I2 : Inv X pins σ H1 { s1 with heap := h' } := I1.kept (t' := s1.toks) hk
      exact ⟨s1.heap.objs.size + 1, [s1.heap.objs.size + 1, s1.heap.objs.size], _, _, H1, rfl, I2, turn_enum a (s1.heap.objs.size + 1) s1.heap.objs.size, ⟨⟨.none, he⟩, hit, Nat.succ_ne_self _⟩, fresh2, q⟩
    · obtain ⟨its, rv, p', hz⟩ := I1.tuple hq
      refine EN.begins1 (begins_tuple a its.toArray) p' (fun h' he hit hsz hk => wpAny_pyIter_enum he ?_) (F.typeCall_enumerate_1 _) (F.newCall_enumerate_1 _) (fun obj => F.args_object_init_2 obj _)
      have I2 : Inv X pins σ H1 { s1 with heap := h' } := I1.kept (t' := s1.toks) hk
      exact ⟨s1.heap.objs.size + 1, [s1.heap.objs.size + 1, s1.heap.objs.size], _, _, H1, rfl, I2, turn_enumT 0 a (s1.heap.objs.size + 1) s1.heap.objs.size (Nat.succ_ne_self _), ⟨⟨.none, he⟩, ⟨_, hit, rfl, rfl⟩⟩, fresh2, q⟩
end L2

set_option maxRecDepth 100000
set_option maxHeartbeats 4000000
/-! # for x in an instance whose __iter__ says: return iter(self.field), the field a tuple -/
namespace L2
open PySem PySem.Spec PyProof.Rows PySem.W
structure OwnIt (K : Frag) (mg : Str → Option Value) (C f : Addr) (fld : Str) : Prop where
  cls : Cls K C
  noA : NoAttr K C fld
  at_ : findIn K (.ref C) "__iter__" = some (some (.ref f))
  fn : isFn K (.ref f) = true
  free : mg "iter" = none
  txt : ∃ qual params scope p1 p2 p3 p4 p5, (∃ (oc : Value) (od : Option Addr) (kV doc pm : Value) (an : Option Addr) (cdv ct : Value) (osl : Array (Option Value)),
      K.lookup f = some ⟨oc, od, .func (fnOf "__iter__" qual params [.Return (some (.Call (.Name "iter" p1) [.Attribute (.Name "self" p2) fld p3] [] p4)) p5] scope .none kV doc pm an cdv ct), osl⟩ ∧ codeIn K cdv qual = true) ∧
    scope.names.lookup ("self" : Str) = some .local ∧ scope.names.lookup ("iter" : Str) = some .globalImplicit ∧ (∀ x ∈ scope.names, x.2 ≠ .cell) ∧ scope.kind = .function ∧ scope.isCoroutine = false ∧ scope.isGenerator = false ∧
    (∀ (s : Shared) (fd : FuncData) (v : Value), fd.params = params → fd.scope = scope → fd.defaults = .none → BindsTo s fd ⟨[v], []⟩ [("self", v)]) ∧
    ∀ env : Env, env.scope = scope → attributeBase (.Name "self" p2) fld env (eval (.Name "self" p2) env) = eval (.Name "self" p2) env
abbrev tupIt (t : Addr) : Obj := { cls := .type "tuple_iterator", data := .fields #[.ref t, .int 0 0] }
theorem call_iter_tup {prog : Program} {w : World} {A : Around} {E : Value → Shared → Prop} {s : Shared} {t : Addr} {items : Array Value} {Q : Value → Shared → Prop} (ht : s.heap.IsTuple t items) (h : Q (.ref s.heap.objs.size) { s with heap := s.heap.push (tupIt t) }) :
    wpAny (model prog w) A (call (.builtin "iter") [.ref t]) Q E s := by
  refine Calls.call_function_entry (by decide +kernel) (by decide +kernel) kdk_entry_iter (kdk_args_iter _) ?_
  unfold Builtin.«iter»
  refine wpAny_bind (m := someArgs "iter" 1 2 _) (wpAny_of_eq (a := [Value.ref t]) (by first | rfl | kernel_rfl!) ?_)
  show wpAny _ _ (pyIter (.ref t) >>= _) _ _ _
  refine wpAny_bind (wpAny_pyIter_tuple ht ?_)
  exact wpAny_pure ⟨_, rfl, h⟩
section
variable {X : Cx} {pins : List (Addr × Obj)} {σ : St} {H : Hp} {s : Shared} {a C dx f t : Addr} {fs : List (Str × V)} {fld : Str} {xs : List V} {k : Nat}
theorem own_iter (O : OwnIt X.K X.mg C f fld) (hr : Room k X.A) (I : Inv X pins σ H s) (ha : H a = some (.ins C dx fs)) (hv : fs.lookup fld = some (.ref t)) (hT : SqT X.K H t xs) {Q : Value → Shared → Prop}
    (hq : ∀ h' tk it, (∀ b o, s.heap.get? b = some o → h'.get? b = some o) → s.heap.objs.size ≤ it → h'.get? it = some (tupIt t) → Q (.ref it) { s with heap := h', toks := tk }) :
    wpAny (model X.prog X.w) X.A (pyIter (.ref a)) Q X.xe s := by
  obtain ⟨qual, params, scope, p1, p2, p3, p4, p5, ⟨oc, od, kV, doc, pm, an, cdv, ct, osl, hfn, hcd⟩, sc1, sc2, sc3, sc4, sc5, sc6, hb, hbase⟩ := O.txt
  obtain ⟨mA, J0, rel, _⟩ := ins_get I.hok ha
  obtain ⟨oda, J, _⟩ := J0.look
  obtain ⟨m, hF⟩ := I.fr
  obtain ⟨its, rv, hTup, _⟩ := I.tuple hT
  obtain ⟨u, hu, ru⟩ := RelO.some_of (v := V.ref t) (o := mA fld) (by rw [← hv]; exact rel fld)
  cases ru
  have hG : s.heap.Ns mainGlobals X.mg := I.mod.glob.keeps I.bk
  obtain ⟨mb, hB, hbb⟩ := I.mod.blt
  have X0 := I.kIn
  have hlim := I.nolimit
  obtain ⟨hp, g, dr, tk, os⟩ := s
  refine owit_iter hF I.ok.mod.kin J O.at_ O.fn (wpAny_call ?_)
  refine ks_codeAny_call_defAt (binds := [("self", .ref a)]) (by have := hr.dp; omega) (X0 _ _ hfn) rfl hlim (codeRec_of X0 hcd) rfl (hb _ _ _ rfl rfl rfl) sc3 (fun y hy => ?_) (fun h₀ hns hk₀ => ?_) sc5 sc6 sc4
  · have e : y = (("self" : Str), Value.ref a) := by simpa using hy
    rw [e]
    exact sc1
  · have X1 : X.K.In h₀ := X0.keeps hk₀
    have J1 : ObjM h₀ a dx C mA := ⟨hk₀ _ _ J0.obj, J0.ns.at fun o q => hk₀ _ o q, J0.ne⟩
    refine wpAt_of_wpAny (wpAny_execs_cons (wpAny_Return_some ?_))
    refine wpAny_Call_Name_kw (Calls.Name_function_global sc4 sc2 (Calls.loadGlobal_builtin (hG.keeps hk₀) O.free ((hB.keeps I.bk).keeps hk₀) ((hbb _ (by decide)).trans (by decide +kernel : bootBuiltins "iter" = some (.builtin "iter"))) ?_) (by decide))
    refine PyProof.Rows.callWith_builtin1 (spliced_more (attr_of (hbase _ rfl) (PySem.ESX.ldL (v := .ref a) hns (by simp [List.lookup]) ?_ sc4 sc1))) (by rfl) (by rfl)
    refine get_map X1 J1 (O.cls.get _) O.cls.hd O.noA hu rfl (spliced_none ?_)
    refine call_iter_tup (show h₀.IsTuple t its.toArray from let ⟨o, h1, h2⟩ := hTup; ⟨o, hk₀ _ o h1, h2⟩) ?_
    have hT1 : (⟨h₀.push (tupIt t), g, dr, tk + 1 + 1, os⟩ : Shared).TypeIs (.ref h₀.objs.size) "tuple_iterator" := ⟨_, Heap.get?_push_at rfl rfl, rfl⟩
    refine wpAny_specialOf (hT1) F.slot_tuple_iterator_next.lookup ?_
    exact hq _ _ _ (fun b o q => Heap.get?_push_of_some _ (hk₀ b o q)) (by
      have := hns.lt
      exact Nat.le_of_lt this) (Heap.get?_push_at rfl rfl)
end
end L2

set_option maxRecDepth 100000
set_option maxHeartbeats 4000000
/-! # Words for lists or tuples, heaps that only grow -/
namespace L2
open PySem PySem.Spec PyProof.Rows
/-- a list or a tuple -/
def SqA (K : PySem.W.Frag) (H : Hp) (a : Addr) (xs : List V) : Prop := SqL K H a xs ∨ SqT K H a xs
theorem Same.seqT {K : PySem.W.Frag} {H H' : Hp} {a : Addr} {xs : List V} (e : Same H H') (h : SqT K H a xs) : SqT K H' a xs := by
  rcases h with (h | ⟨o, h⟩) | h
  · exact .inl (.inl (e _ _ h))
  · exact .inl (.inr ⟨o, e _ _ h⟩)
  · exact .inr h
theorem Same.seqA {K : PySem.W.Frag} {H H' : Hp} {a : Addr} {xs : List V} (e : Same H H') (h : SqA K H a xs) : SqA K H' a xs := h.imp e.seq e.seqT
theorem Same.new {H : Hp} {p : Addr} {o : HO} (h : H p = none) : Same H (upd H p o) := fun b u e => by
  rw [upd_ne (fun z => by rw [z, h] at e; cases e)]
  exact e
theorem Same.new' {H H' : Hp} {p : Addr} {o : HO} (s : Same H H') (h : H' p = none) : Same H (upd H' p o) := s.trans (.new h)
theorem passX {X : Cx} {K : Value → Shared → Prop} {E₁ : Value → Shared → Prop} (hx : X.xe = fun e s' => wpAny (model X.prog X.w) X.A (leaving X.env e) (fun _ s'' => K e s'') E₁ s') : PassesOwn (model X.prog X.w) X.A X.env X.xe := passes_of hx
theorem map_get {α : Type} {f : α → V} {ns : List α} {i : Nat} {y : V} (e : (ns.map f)[i]? = some y) : ∃ n, ns[i]? = some n ∧ y = f n := by
  rw [List.getElem?_map] at e
  cases q : ns[i]? with
  | none => rw [q] at e; cases e
  | some n => rw [q] at e; exact ⟨n, rfl, (Option.some.inj e).symm⟩
theorem enumA_of {K : PySem.W.Frag} {H : Hp} {a : Addr} {xs : List V} {R : It → Hp → Prop} (h : SqA K H a xs) (hR : ∀ (J : It) (G : Hp → Prop), (∀ H', Same H H' → G H') → Walk J xs.length G (YPair (fun i => some (.int (i : Nat))) (fun i => xs[i]?)) → R J H) :
    (SqL K H a xs ∧ R (Ite K a) H) ∨ (SqT K H a xs ∧ R (IteT K 0 a) H) := by
  rcases h with h | h
  · exact .inl ⟨h, hR _ _ (fun _ s => s.seq h) walk_enum⟩
  · exact .inr ⟨h, hR _ _ (fun _ s => s.seqT h) ((walk_enumT (k := 0)).mono (fun _ h => h) fun i H x H' _ _ y => by
      obtain ⟨T', x', y', z⟩ := y
      exact ⟨T', x', y', by simpa using z⟩)⟩
/-- enumerate(x), x a list or a tuple, told by its Walk -/
def iEnumW (K : PySem.W.Frag) (ta : TA) : TI := fun σ H R => ta σ H fun vs H1 => ∃ a xs, vs = [.ref a] ∧ SqA K H1 a xs ∧ ∀ (J : It) (G : Hp → Prop), (∀ H', Same H1 H' → G H') → Walk J xs.length G (YPair (fun i => some (.int (i : Nat))) (fun i => xs[i]?)) → R J H1
theorem pi_enumW {X : Cx} {e : Expr} {ta : TA} {p pos tpos : Pos} {elts : List Expr} {kk : Nat} (hg : Gl X "enumerate") (hm : X.mg "enumerate" = none) (ha : PA X [e] ta) (hs : starEach [e] X.env = [(false, eval e X.env)] := by rfl) :
    PI X (.Tuple elts kk tpos) (.Call (.Name "enumerate" p) [e] [] pos) (iEnumW X.K ta) := by
  refine ⟨fun pins s σ H R I h => ?_⟩
  refine Call_ (ld_blt I hg hm boot_enumerate (PyProof.Rows.callWith_type1 (thn (ha.run pos pins s σ H _ I h) fun us s1 ⟨vs, H1, I1, r1, q1⟩ => ?_) hs rfl))
  obtain ⟨a, xs, ex, q1⟩ := q1
  subst ex
  have q1 := enumA_of q1.1 q1.2
  cases r1 with
  | cons r rr =>
    cases rr
    cases r
    have fresh2 : ∀ b, b ∈ [s1.heap.objs.size + 1, s1.heap.objs.size] → FpOk X pins H1 b := fun b hb => by
      have e' : b = s1.heap.objs.size + 1 ∨ b = s1.heap.objs.size := by simpa using hb
      have hle : s1.heap.objs.size ≤ b := by
        rcases e' with z | z
        · rw [z]; exact Nat.le_add_right _ _
        · rw [z]; exact Nat.le_refl _
      exact I1.fpOk hle (I1.hok.fresh hle)
    rcases q1 with ⟨hq, q⟩ | ⟨hq, q⟩
    · obtain ⟨its, rv, p', hz⟩ := I1.list hq
      refine call_enumerate_list p'.isList fun h' he hit hsz hk => wpAny_pyIter_enum he ?_
      have I2 : Inv X pins σ H1 { s1 with heap := h' } := I1.kept (t' := s1.toks) hk
      exact ⟨s1.heap.objs.size + 1, [s1.heap.objs.size + 1, s1.heap.objs.size], _, _, H1, rfl, I2, turn_enum a (s1.heap.objs.size + 1) s1.heap.objs.size, ⟨⟨.none, he⟩, hit, Nat.succ_ne_self _⟩, fresh2, q⟩
    · obtain ⟨its, rv, p', hz⟩ := I1.tuple hq
      refine EN.begins1 (begins_tuple a its.toArray) p' (fun h' he hit hsz hk => wpAny_pyIter_enum he ?_) (F.typeCall_enumerate_1 _) (F.newCall_enumerate_1 _) (fun obj => F.args_object_init_2 obj _)
      have I2 : Inv X pins σ H1 { s1 with heap := h' } := I1.kept (t' := s1.toks) hk
      exact ⟨s1.heap.objs.size + 1, [s1.heap.objs.size + 1, s1.heap.objs.size], _, _, H1, rfl, I2, turn_enumT 0 a (s1.heap.objs.size + 1) s1.heap.objs.size (Nat.succ_ne_self _), ⟨⟨.none, he⟩, ⟨_, hit, rfl, rfl⟩⟩, fresh2, q⟩
end L2

set_option maxRecDepth 100000
set_option maxHeartbeats 4000000
/-! # Tuples: t * 0, t * 1, t[::-1], sum(t) -/
namespace L2
open PySem PySem.Spec PyProof.Rows
theorem tuple_mulS (l : Addr) (items : Array Value) (n : Nat) (dd : Option Addr) (sl : Array (Option Value)) (x : Int) (u : Tok) (c0 : (decide (x < -(2 ^ 63)) || decide (x ≥ 2 ^ 63)) = false) (c1 : (items.isEmpty || x == 1) = true) :
    Meets (Builtin.«tuple.__mul__» ⟨[.ref l, .int x u], []⟩) (fun _ R s => s.heap.get? l = some { cls := .type "tuple", dict := dd, data := .seq items n, slots := sl } ∧
      R (.ok (.ret (Value.ref l))) s) :=
  .of_wp fun prog w A R s h => by
    obtain ⟨hp, g, d, tk, os⟩ := s
    obtain ⟨hl, h⟩ := h
    have f1 := AutoSeq1.idx_int
    wp_walk using wpAny_loadPart' hl
    repeat (first
      | (refine wpAny_ite_false (decide_eq_false (by rw [c0]; exact Bool.false_ne_true)) ?_; wp_walk using wpAny_loadPart' hl)
      | (refine wpAny_ite_true (decide_eq_true c1) ?_; wp_walk using wpAny_loadPart' hl))
    exact ⟨_, rfl, h⟩
theorem tuple_mul0 (l : Addr) (items : Array Value) (n : Nat) (dd : Option Addr) (sl : Array (Option Value)) (x : Int) (u : Tok) (c0 : (decide (x < -(2 ^ 63)) || decide (x ≥ 2 ^ 63)) = false) (c1 : (items.isEmpty || x == 1) = false) (c2 : (decide (x ≤ 0) || items.isEmpty) = true) :
    Meets (Builtin.«tuple.__mul__» ⟨[.ref l, .int x u], []⟩) (fun _ R s => s.heap.get? l = some { cls := .type "tuple", dict := dd, data := .seq items n, slots := sl } ∧
      R (.ok (.ret (Value.ref s.heap.objs.size))) { s with heap := s.heap.push { cls := Value.type "tuple", data := Data.seq #[] }, toks := s.toks }) :=
  .of_wp fun prog w A R s h => by
    obtain ⟨hp, g, d, tk, os⟩ := s
    obtain ⟨hl, h⟩ := h
    have f1 := AutoSeq1.idx_int
    wp_walk using wpAny_loadPart' hl
    repeat (first
      | (refine wpAny_ite_false (decide_eq_false (by rw [c0]; exact Bool.false_ne_true)) ?_; wp_walk using wpAny_loadPart' hl)
      | (refine wpAny_ite_false (decide_eq_false (by rw [c1]; exact Bool.false_ne_true)) ?_; wp_walk using wpAny_loadPart' hl)
      | (refine wpAny_ite_true (decide_eq_true c2) ?_; wp_walk using wpAny_loadPart' hl))
    exact ⟨_, rfl, h⟩
/-- t * k -/
def rRepW (K : PySem.W.Frag) : R2 := fun x y H Q => ∃ l k xs, x = .ref l ∧ y = .int k ∧ SqT K H l xs ∧ -(2 ^ 62) ≤ k ∧ k ≤ 1000 ∧ xs.length ≤ 1000 ∧ ∀ H' p, Same H H' → SqT K H' p (List.replicate k.toNat xs).flatten → Q (.ref p) H'
theorem rep_one {α : Type} (xs : List α) : (List.replicate (1 : Int).toNat xs).flatten = xs := by simp
theorem rep_nil {α : Type} (k : Nat) : (List.replicate k ([] : List α)).flatten = [] := by simp
section
variable {X : Cx}
theorem op_repW : OpR X (binaryOp .Mult) (rRepW X.K) := by
  intro pins s σ H x y v u Q I rx ry h
  obtain ⟨l, k, xs, rfl, rfl, hT, h1, h2, hz, q⟩ := h
  by_cases h3 : xs ≠ [] ∧ 2 ≤ k
  · exact op_repT pins s σ H _ _ v u Q I rx ry ⟨l, k, xs, rfl, rfl, hT, h3.1, h3.2, h2, hz, fun p hp => q _ p (.new hp) (SqT.of upd_same)⟩
  · cases rx
    obtain ⟨t, rfl⟩ := ry
    obtain ⟨its, r, ⟨⟨cls, dd, data, sl⟩, ho, hc, n, hd⟩, hs⟩ := I.tuple hT
    simp only at hc hd
    subst hc hd
    have hle : its.length = xs.length := r.length.symm
    have c0 : (decide (k < -(2 ^ 63)) || decide (k ≥ 2 ^ 63)) = false := by
      rw [decide_eq_false (by omega), decide_eq_false (by omega)] <;> rfl
    by_cases h4 : xs = [] ∨ k = 1
    · have c1 : (its.toArray.isEmpty || k == 1) = true := by
        rcases h4 with h4 | h4
        · subst h4
          have : its = [] := List.eq_nil_of_length_eq_zero (by simpa using hle)
          subst this
          rfl
        · subst h4
          simp
      refine wpAny_binaryOp_repeat_ref (T := "tuple") (U := "int") (by decide) ⟨_, ho, rfl⟩ (fun s' => typeIs_int s' k t) noFill_tuple_mul F.fills_int_mul F.slot_int_rmul repeat_tuple F.slot_int_index.lookup
        (call_meets F.slot_int_rmul (typeIs_int s k t) F.entry_int_rmul (F.args_int_rmul_2 _ _) (int_rmul_tuple k t l its.toArray n dd sl)
          ⟨ho, rfl, ⟨_, ho, rfl⟩, call_meets F.slot_tuple_mul ⟨_, ho, rfl⟩ F.entry_tuple_mul (F.args_tuple_mul_2 _ _) (tuple_mulS l its.toArray n dd sl k t c0 c1) ⟨ho, ?_⟩⟩)
      refine ⟨.ref l, H, I, rfl, q H l (.refl _) ?_⟩
      rcases h4 with h4 | h4
      · subst h4; rw [rep_nil]; exact hT
      · subst h4; rw [rep_one]; exact hT
    · have h5 : xs ≠ [] ∧ k ≤ 0 := ⟨fun z => h4 (.inl z), by
        have : k ≠ 1 := fun z => h4 (.inr z)
        have : ¬ (2 ≤ k) := fun z => h3 ⟨fun z => h4 (.inl z), z⟩
        omega⟩
      have hi : its.toArray.isEmpty = false := by
        cases its with
        | nil => exact absurd (List.eq_nil_of_length_eq_zero hle.symm) h5.1
        | cons a b => rfl
      have c1 : (its.toArray.isEmpty || k == 1) = false := by
        rw [hi, Bool.false_or]
        exact beq_eq_false_iff_ne.mpr (by omega)
      have c2 : (decide (k ≤ 0) || its.toArray.isEmpty) = true := by rw [decide_eq_true h5.2]; rfl
      have e0 : (List.replicate k.toNat xs).flatten = [] := by
        have : k.toNat = 0 := by omega
        rw [this]; rfl
      refine wpAny_binaryOp_repeat_ref (T := "tuple") (U := "int") (by decide) ⟨_, ho, rfl⟩ (fun s' => typeIs_int s' k t) noFill_tuple_mul F.fills_int_mul F.slot_int_rmul repeat_tuple F.slot_int_index.lookup
        (call_meets F.slot_int_rmul (typeIs_int s k t) F.entry_int_rmul (F.args_int_rmul_2 _ _) (int_rmul_tuple k t l its.toArray n dd sl)
          ⟨ho, rfl, ⟨_, ho, rfl⟩, call_meets F.slot_tuple_mul ⟨_, ho, rfl⟩ F.entry_tuple_mul (F.args_tuple_mul_2 _ _) (tuple_mul0 l its.toArray n dd sl k t c0 c1 c2) ⟨ho, ?_⟩⟩)
      refine ⟨.ref s.heap.objs.size, _, I.laid (t' := s.toks) (o := .tup []) (fun b ob q => Heap.get?_push_of_some _ q) (Nat.le_refl _) ?_, rfl, q _ _ (.new (I.hok.fresh (Nat.le_refl _))) (by rw [e0]; exact SqT.of upd_same)⟩
      exact ⟨Nat.zero_le _, [], .nil, IsTup.new _ _⟩
/-- t + u -/
def rCatW (K : PySem.W.Frag) : R2 := fun x y H Q => ∃ a b xs ys, x = .ref a ∧ y = .ref b ∧ SqT K H a xs ∧ SqT K H b ys ∧ xs.length + ys.length ≤ sizeLine ∧ ∀ H' p, Same H H' → SqT K H' p (xs ++ ys) → Q (.ref p) H'
theorem op_catW : OpR X (binaryOp .Add) (rCatW X.K) := by
  intro pins s σ H x y v u Q I rx ry h
  obtain ⟨a, b, xs, ys, rfl, rfl, ha, hb, hz, q⟩ := h
  exact op_catA pins s σ H _ _ v u Q I rx ry ⟨a, b, xs, ys, rfl, rfl, ha, hb, hz, fun e => q H b (.refl _) (by rw [e]; exact hb), fun _ e => q H a (.refl _) (by rw [e, List.append_nil]; exact ha), fun _ _ p hp => q _ p (.new hp) (SqT.of upd_same)⟩
/-- t[lo:hi] -/
def rSlW (K : PySem.W.Frag) : V → Option Int → Option Int → Hp → VK → Prop := fun x lo hi H Q => ∃ a xs, x = .ref a ∧ SqT K H a xs ∧ ∀ H' p, Same H H' → SqT K H' p (cutV xs lo hi) → Q (.ref p) H'
theorem sl_tupW : SlR X (rSlW X.K) := by
  intro pins s σ H x v vl vu lo hi sl Q I rx hs pl pu h
  obtain ⟨a, xs, rfl, hx, q⟩ := h
  refine sl_tupA pins s σ H _ v vl vu lo hi sl Q I rx hs pl pu ⟨a, xs, rfl, hx, fun e => q H a (.refl _) ?_, fun _ p hp => q _ p (.new hp) (SqT.of upd_same)⟩
  unfold cutV
  rw [e.1, e.2, List.drop_zero, Nat.sub_zero, List.take_length]
  exact hx

/-- sum(t), t a tuple of numbers -/
theorem cr_sumT (hc : X.calm = true) : CallR X (.builtin "sum") (fun vs H Q => ∃ (a : Addr) (ns : List Int), vs = [V.ref a] ∧ SqT X.K H a (ns.map V.int) ∧ Q (.int ns.sum) H) := by
  intro pins s σ H xs us Q I r h
  obtain ⟨a, ns, rfl, hq, q⟩ := h
  cases r with
  | cons r rr =>
  cases rr
  cases r
  obtain ⟨its, rv, hT, hz⟩ := I.tuple hq
  have hi := intsAre_of rv
  obtain ⟨ys, hx⟩ := hi.allInts.items
  have hn : numsOf its.toArray.toList = ns := by rw [show its.toArray.toList = its from rfl, hi.numsOf]
  have hT' : s.heap.IsTuple a its.toArray := let ⟨o, h1, h2, h3⟩ := hT; ⟨o, h1, h2, h3⟩
  rw [hx] at hT' hn
  rw [nums_intItems] at hn
  refine PySem.W.ktm_sumG (I.ok.hd hc) hT' fun h' tk t' hk => ?_
  rw [preSum_eq, List.take_of_length_le (by simp), hn]
  exact ⟨.int ns.sum, H, I.kept (t' := tk) hk, ⟨t', rfl⟩, q⟩
theorem cr_sumA (hc : X.calm = true) : CallR X (.builtin "sum") (fun vs H Q => ∃ (a : Addr) (ns : List Int), vs = [V.ref a] ∧ SqA X.K H a (ns.map V.int) ∧ Q (.int ns.sum) H) := by
  intro pins s σ H xs us Q I r h
  obtain ⟨a, ns, rfl, hq, q⟩ := h
  rcases hq with hq | hq
  · exact cr_sum hc pins s σ H _ us Q I r ⟨a, ns, rfl, hq, q⟩
  · exact cr_sumT hc pins s σ H _ us Q I r ⟨a, ns, rfl, hq, q⟩
/-! ### t[::-1] -/
theorem rev_pick (xs : List Value) : ((List.range xs.length).filterMap fun (m : Nat) => xs.toArray[(((xs.length : Nat) : Int) - 1 + (m : Int) * (-1)).toNat]?) = xs.reverse := by
  have key : ∀ n, n ≤ xs.length → ((List.range n).filterMap fun (m : Nat) => xs.toArray[(((xs.length : Nat) : Int) - 1 + (m : Int) * (-1)).toNat]?) = (xs.reverse).take n := by
    intro n
    induction n with
    | zero => intro _; simp
    | succ n ih =>
      intro hn
      rw [List.range_succ, List.filterMap_append, ih (by omega), List.take_succ]
      congr 1
      have e : (((xs.length : Nat) : Int) - 1 + (n : Int) * (-1)).toNat = xs.length - 1 - n := by omega
      have hlt : n < xs.reverse.length := by rw [List.length_reverse]; omega
      rw [List.filterMap_cons, List.filterMap_nil, e, List.getElem?_reverse (by omega)]
      simp only [List.getElem?_toArray]
      cases q : xs[xs.length - 1 - n]? with
      | none => simp
      | some v => simp
  rw [key xs.length (Nat.le_refl _), List.take_of_length_le (by rw [List.length_reverse]; exact Nat.le_refl _)]
theorem adjust_rev (n : Nat) : Builtin.Slice.sliceAdjust none none (-1) (n : Int) = ((n : Int) - 1, -1) := by
  unfold Builtin.Slice.sliceAdjust
  simp
theorem places_rev (n : Nat) : Builtin.Slice.slicePlaces ((n : Int) - 1) (-1) (-1) = n := by
  unfold Builtin.Slice.slicePlaces
  have h1 : ¬ ((-1 : Int) > 0) := by omega
  simp only [h1, if_false]
  split
  · simp only [Int.neg_neg, Int.ediv_one]; omega
  · simp only [Int.toNat_zero]; omega
theorem sliceApplied_rev {prog : Program} {w : World} {A : Around} {E : Value → Shared → Prop} {s : Shared} {sl : Addr} {vl vu vk : Value} {n : Nat} {Q : Int × Int × Nat → Shared → Prop} (hs : s.heap.IsSliceOf sl vl vu vk) (pl : IsPart vl none) (pu : IsPart vu none) (pk : IsPart vk (some (-1)))
    (h : Q ((n : Int) - 1, -1, n) s) : wpAny (model prog w) A (Builtin.Slice.sliceApplied (.ref sl) (pure (n : Int))) Q E s := by
  obtain ⟨os, hos, hcs, hds⟩ := id hs
  unfold Builtin.Slice.sliceApplied Builtin.Slice.sliceFields
  refine wpAny_bind (wpAny_bind (wpAny_field hos hds (x := vl) rfl (wpAny_bind (wpAny_field hos hds (x := vu) rfl (wpAny_bind (wpAny_field hos hds (x := vk) rfl (wpAny_pure ?_)))))))
  refine wpAny_bind (HT.slicePart_ pk ?_)
  show wpAny _ _ (if ((-1 : Int) == 0) = true then _ else _) _ _ s
  rw [if_neg (by decide)]
  refine wpAny_bind (HT.slicePart_ pl (wpAny_bind (HT.slicePart_ pu (wpAny_bind (wpAny_pure ?_)))))
  show wpAny _ _ (match Builtin.Slice.sliceAdjust none none (-1) (n : Int) with | (lo, hi) => pure (lo, (-1 : Int), Builtin.Slice.slicePlaces lo hi (-1))) _ _ s
  rw [adjust_rev n]
  show wpAny _ _ (pure ((n : Int) - 1, (-1 : Int), Builtin.Slice.slicePlaces ((n : Int) - 1) (-1) (-1))) _ _ s
  rw [places_rev]
  exact wpAny_pure h
theorem getItem_tuple_rev {prog : Program} {w : World} {A : Around} {E : Value → Shared → Prop} {s : Shared} {t sl : Addr} {its : List Value} {vl vu vk : Value} {Q : Value → Shared → Prop} (ht : IsTup s.heap t its.toArray) (hs : s.heap.IsSliceOf sl vl vu vk) (pl : IsPart vl none) (pu : IsPart vu none) (pk : IsPart vk (some (-1)))
    (h : Q (.ref s.heap.objs.size) { s with heap := s.heap.push { cls := .type "tuple", data := .seq its.reverse.toArray } })
    (hsz : its.length ≤ sizeLine) : wpAny (model prog w) A (getItem (.ref t) (.ref sl)) Q E s := by
  have htake : sizeOk (.seq its.reverse.toArray) := by
    show its.reverse.toArray.size ≤ sizeLine
    rw [List.size_toArray, List.length_reverse]
    exact hsz
  obtain ⟨os, hos, hcs, hds⟩ := id hs
  have hTs : s.TypeIs (.ref sl) "slice" := ⟨os, hos, hcs⟩
  unfold getItem
  try with_reducible refine wpAny_holding ?_
  first | refine wpAny_bind (wpAny_pure ?_) | skip
  refine wpAny_bind (wpAny_sequenceKey ht.typeIs (by decide) ?_)
  refine wpAny_bind (wpAny_callSpecial?_slot (name := Str.ofString "__getitem__") ht.typeIs PyProof.Rows.slot_tuple_getitem
    (wpAny_call_entry PyProof.Rows.slot_tuple_getitem ht.typeIs entry_tuple_getitem ?_ (args_tuple_getitem _ _)))
  show wpAny _ _ (Builtin.Tuple.tupleItemsOf (.ref t) >>= _) _ _ s
  refine wpAny_bind (tupleItemsOf_ ht ?_)
  refine wpAny_bind (wpAny_typeOf hTs ?_)
  rw [if_pos (by decide)]
  refine wpAny_bind (sliceApplied_rev hs pl pu pk ?_)
  have hno : ¬ ((((its.toArray.size : Int) - 1) == 0 && (-1 : Int) == 1 && its.toArray.size == its.toArray.size) = true) := by
    intro q
    rw [Bool.and_eq_true, Bool.and_eq_true] at q
    exact absurd q.1.2 (by decide)
  show wpAny _ _ (if (((its.toArray.size : Int) - 1) == 0 && (-1 : Int) == 1 && its.toArray.size == its.toArray.size) = true then _ else _) _ _ s
  rw [if_neg hno]
  have ep := rev_pick its
  rw [← List.size_toArray] at ep
  rw [ep]
  first
    | exact wpAny_bind (m := Builtin.Tuple.tupleExact _) (wpAny_newObj_type (wpAny_pure ⟨_, rfl, wpAny_pure h⟩) htake)
    | exact wpAny_bind (m := Builtin.Tuple.tupleExact _) (wpAny_newObj_type (wpAny_bind (wpAny_pure (wpAny_pure ⟨_, rfl, wpAny_pure h⟩))) htake)
    | exact wpAny_bind (wpAny_bind (m := Builtin.Tuple.tupleExact _) (wpAny_newObj_type (wpAny_pure (wpAny_pure ⟨_, rfl, wpAny_pure h⟩)) htake))
    | exact wpAny_bind (wpAny_bind (m := Builtin.Tuple.tupleExact _) (wpAny_newObj_type (wpAny_pure ⟨_, rfl, wpAny_pure h⟩) htake))
def tRevT (K : PySem.W.Frag) (te : TE) : TE := fun σ H Q => te σ H fun x H1 => ∃ a xs, x = .ref a ∧ SqT K H1 a xs ∧ ∀ p, H1 p = none → Q (.ref p) (upd H1 p (.tup xs.reverse))
theorem pe_revT {e : Expr} {te : TE} {k : Nat} {p1 p2 p3 pos : Pos} (he : PE X e te) : PE X (.Subscript e (.Slice none none (some (.UnaryOp .USub (.Constant (.int 1) k p1) p2)) p3) pos) (tRevT X.K te) := by
  refine ⟨fun pins s σ H Q I h => ?_⟩
  refine Subscript_ (thn (he.run pins s σ H _ I h) fun v s1 ⟨x, H1, I1, r1, q1⟩ => ?_)
  obtain ⟨a, xs, ex, hx, q⟩ := q1
  subst ex
  cases r1
  have hst : PO X (some (.UnaryOp .USub (.Constant (.int 1) k p1) p2)) (tPart (tUn (rU fun i => .int (-i)) (tC (.int 1)))) := po_some (pe_un un_neg pe_int)
  refine wpAny_Slice (thn (po_none.run pins s1 σ H1 (fun o H2 => o = none ∧ H2 = H1) I1 ⟨rfl, rfl⟩) fun vl s2 ⟨l, H2, I2, pl, el, e2⟩ => ?_)
  subst el e2
  refine thn (po_none.run pins s2 σ H2 (fun o H3 => o = none ∧ H3 = H2) I2 ⟨rfl, rfl⟩) fun vu s3 ⟨u, H3, I3, pu, eu, e3⟩ => ?_
  subst eu e3
  refine thn (hst.run pins s3 σ H3 (fun o H4 => o = some (-1) ∧ H4 = H3) I3 ⟨1, rfl, -1, rfl, rfl, rfl⟩) fun vs s4 ⟨o, H4, I4, ps, eo, e4⟩ => ?_
  subst eo e4
  have I5 : Inv X pins σ H4 { s4 with heap := s4.heap.push { cls := .type "slice", data := .fields #[vl, vu, vs] } } := I4.kept (t' := s4.toks) fun b ob q => Heap.get?_push_of_some _ q
  obtain ⟨its, r, ht, hz⟩ := I5.tuple hx
  have hlen := r.length
  show wpAny (model X.prog X.w) X.A (subscriptTail e (.Slice none none (some (.UnaryOp .USub (.Constant (.int 1) k p1) p2)) p3) (.ref a) (.ref s4.heap.objs.size)) (EP X pins σ Q) X.xe { s4 with heap := s4.heap.push { cls := .type "slice", data := .fields #[vl, vu, vs] } }
  refine tail_any (ops := [.ref a, .ref s4.heap.objs.size]) ht.typeIs (PyProof.Rows.slot_tuple_getitem.lookup) ?_ (by with_unfolding_all rfl)
  refine getItem_tuple_rev ht (Heap.IsSliceOf.new _ vl vu vs) pl pu ps ?_ (by omega)
  refine ⟨.ref _, _, I5.laid (t' := s4.toks) (o := .tup xs.reverse) (fun b ob q => Heap.get?_push_of_some _ q) (Nat.le_refl _) ?_, rfl, q _ (I5.hok.fresh (Nat.le_refl _))⟩
  exact ⟨by rw [List.length_reverse]; exact hz, _, r.reverse, IsTup.new _ _⟩
end
end L2

set_option maxRecDepth 100000
set_option maxHeartbeats 4000000
/-! # The head: what the program's top has left, as facts that one kernel run decides; the end of a law -/
namespace HX
open PySem PySem.W PySem.Calls PyProof.Rows He He5
open PySem.HandSPX (refsVE)

def clsXB (K : Frag) (C : Addr) : Bool := (match K.lookup C with
  | some ⟨.type ty, _, .cls cd, sl⟩ => (match cd.mro, sl.toList with
    | .ref C' :: bm, [_, _, _, _, some (.builtin n), _] => decide (ty = "type") && (decide (C' = C) && (decide (n = "ValueError.__new__") && (cd.hasDict && (!cd.hasDel && (refsVE bm && eqO (alongIn K "__init__" bm) (some (some (.builtin "ValueError.__init__"))))))))
    | _, _ => false)
  | _ => false) && (eqO (findIn K (.ref C) "__setattr__") (some (some (.builtin "object.__setattr__"))) && decide (subIn K (.ref C) (.type "ValueError") = some true))
theorem clsXB_ok {K : Frag} {C : Addr} (h : clsXB K C = true) : NX.ClsX K C := by
  obtain ⟨h1, h2⟩ := ba h
  obtain ⟨h2, h3⟩ := ba h2
  refine ⟨?_, eqO_ok h2, of_decide_eq_true h3⟩
  clear h2 h3 h
  split at h1
  · rename_i ty dd cd sl e
    split at h1
    · rename_i C' bm a0 a1 a2 a3 n a5 hm hs
      obtain ⟨k1, h1⟩ := ba h1
      obtain ⟨k2, h1⟩ := ba h1
      obtain ⟨k3, h1⟩ := ba h1
      obtain ⟨k4, h1⟩ := ba h1
      obtain ⟨k5, h1⟩ := ba h1
      obtain ⟨k6, k7⟩ := ba h1
      have e1 := of_decide_eq_true k1
      have e2 := of_decide_eq_true k2
      have e3 := of_decide_eq_true k3
      subst e1 e2 e3
      obtain ⟨nm, bs, mro, ns, qn, hd, sn, sub, ab, col, del⟩ := cd
      dsimp only at hm k4 k5
      subst hm
      have e5 : del = false := by simpa using k5
      subst k4 e5
      have hsl : sl = #[a0, a1, a2, a3, some (.builtin "ValueError.__new__"), a5] := by
        obtain ⟨l⟩ := sl
        simp only at hs
        rw [hs]
      subst hsl
      exact ⟨nm, qn, ns, bs, bm, sn, sub, ab, col, dd, a0, a1, a2, a3, a5, e, k6, eqO_ok k7⟩
    · cases h1
  · cases h1

/-- the text of an error's __init__ -/
structure InitTx (prog : Program) (st : Stmt) (qual : Str) (ps : List Str) (l : List (Str × Str)) : Prop where
  txt : ∃ msg k q1 q2 q3 q4 q5 q6 r, L2.defBody st = NX.supS msg k q1 q2 q3 q4 q5 q6 :: r ∧ NX.Sto r l ∧ (∀ env : Env, env.scope = L2.defScope st → interactive env = false) ∧
    ∀ env : Env, env.scope = L2.defScope st → ∃ pl : Sem Bool, eval (.Call (.Attribute (.Call (.Name "super" q1) [] [] q2) "__init__" q3) [.Constant (.str msg) k q4] [] q5) env = (do
      let ov ← attributeBase (.Call (.Name "super" q1) [] [] q2) "__init__" env (eval (.Call (.Name "super" q1) [] [] q2) env)
      standAt q3.atName
      let (f, first) ← holding [ov] (getMethod ov "__init__" pl)
      callWith q5 f first (backTo q5 (starEach [.Constant (.str msg) k q4] env)) [])
  par : ∃ ar, ((L2.defArgs st).posonlyargs ++ (L2.defArgs st).args).head? = some ar ∧ ar.arg = "self"
  sc : ((L2.defScope st).names.lookup ("super" : Str) = some .globalImplicit ∧ (L2.defScope st).names.lookup ("__class__" : Str) = some .free ∧ (L2.defScope st).names.lookup ("self" : Str) = some .local) ∧ (∀ x ∈ (L2.defScope st).names, x.2 ≠ .cell) ∧
    (L2.defScope st).kind = .function ∧ (L2.defScope st).isCoroutine = false ∧ (L2.defScope st).isGenerator = false
  loc : (∀ p ∈ l, (L2.defScope st).names.lookup p.2 = some .local ∧ (p.2 == ("__debug__" : Str)) = false ∧ p.2 ∈ ps) ∧ ∀ p ∈ ps, (L2.defScope st).names.lookup p = some .local
  nod : ps.Nodup ∧ ("self" : Str) ∉ ps
  bind : ∀ (s' : Shared) (e : Addr) (fd : FuncData) (us : List Value), us.length = ps.length → fd.params = L2.defArgs st → fd.scope = L2.defScope st → fd.defaults = .none → BindsTo s' fd ⟨.ref e :: us, []⟩ (("self", .ref e) :: ps.zip us)
  top : (prog.main.scope.names.lookup ("super" : Str)).isSome = false
  few : l.length ≤ 900

/-- a def with its closure's names -/
abbrev FnQ : Type := Option (Str × Str × Arguments × FuncBody × Scope × Addr × List Str × Addr)
def fnQ (K : Frag) (a : Addr) : FnQ := match K.lookup a with
  | some ⟨_, _, .func fd, _⟩ => some (fd.name, fd.qualname, fd.params, fd.body, fd.scope, fd.globals, fd.closure.map (·.1), fd.builtins)
  | _ => none
/-- an error's class: its name, its __init__'s text, its qualified name -/
structure ErrD where
  x : Str
  st : Stmt
  qual : Str
  fs : List Str
def ErrD.at_ (d : ErrD) (K : Frag) : Addr := ma K (ga K d.x) "__init__"
def ErrD.val (d : ErrD) : FnQ := some (("__init__" : Str), d.qual, L2.defArgs d.st, FuncBody.stmts (L2.defBody d.st), L2.defScope d.st, mainGlobals, [("__class__" : Str)], builtinsNs)
def ErrD.ok (file : Str) (d : ErrD) (K : Frag) : Bool := clsXB K (ga K d.x) && (eqO (findIn K (.ref (ga K d.x)) "__init__") (some (some (.ref (d.at_ K)))) && (decide (typeIn K (.ref (d.at_ K)) = some (.type "function")) && ((match K.lookup (d.at_ K) with
  | some ⟨_, _, .func fd, _⟩ => codeIn K fd.code fd.qualname && ((match fd.closure with
    | [(_, cc)] => (match K.lookup cc with
      | some ⟨_, _, .cell (some (.ref D)), _⟩ => decide (D = ga K d.x)
      | _ => false)
    | _ => false) && ((match fd.code with
    | .ref cda => (match K.lookup cda with
      | some ⟨_, _, .fields vs, _⟩ => (match (vs[2]? : Option Value) with
        | some (.str f _) => f == file
        | _ => false)
      | _ => false)
    | _ => false) && (match fd.defaults with
    | .none => true
    | _ => false)))
  | _ => false) && ((d.fs.all fun f => eqO (findIn K (.ref (ga K d.x)) f) (some none)) && (eqO (nsIn K mainGlobals d.x) (some (some (.ref (ga K d.x)))) && (keepIn K (.ref (ga K d.x)) && (decide (subIn K (.ref (ga K d.x)) (.type "BaseException") = some true) && decide (typeIn K (.ref (ga K d.x)) = some (.type "type")))))))))
theorem errD_ok {prog : Program} {K : Frag} {h : Heap} {mg : Str → Option Value} {d : ErrD} {ps : List Str} {l : List (Str × Str)} (X : K.In h) (G : h.Ns mainGlobals mg) (T : InitTx prog d.st d.qual ps l) (hf : l.map (·.1) = d.fs) (hs : mg "super" = none) (hany : nsIn K cStatics "thirdparty.any" = some none)
    (e : fnQ K (d.at_ K) = d.val) (c : d.ok (prog.main.file : Str) K = true) : L2.Exn prog K mg d.x (ga K d.x) (d.at_ K) ps l := by
  obtain ⟨c1, c⟩ := ba c
  obtain ⟨c2, c⟩ := ba c
  obtain ⟨c3, c⟩ := ba c
  obtain ⟨c4, c⟩ := ba c
  obtain ⟨c5, c⟩ := ba c
  obtain ⟨c6, c⟩ := ba c
  obtain ⟨c7, c⟩ := ba c
  obtain ⟨c8, c9⟩ := ba c
  obtain ⟨ar, hp1, hp2⟩ := T.par
  refine ⟨clsXB_ok c1, ⟨d.qual, L2.defArgs d.st, L2.defScope d.st, L2.defBody d.st, ar, ⟨T.txt, eqO_ok c2, of_decide_eq_true c3, ?_, hp1, hp2, T.sc.1.1, T.sc.1.2.1, T.sc.1.2.2, fun p hp => ⟨(T.loc.1 p hp).1, (T.loc.1 p hp).2.1, ?_⟩, T.sc.2.1, T.sc.2.2.1, T.sc.2.2.2.1, T.sc.2.2.2.2, T.top, T.few⟩, T.bind, T.loc.2⟩,
    fun p hp => (T.loc.1 p hp).2.2, T.nod, mg_of X G (eqO_ok c6), hs, hany, c7, of_decide_eq_true c8, of_decide_eq_true c9⟩
  · unfold fnQ at e
    cases q : K.lookup (d.at_ K) with
    | none =>
      rw [q] at c4
      cases c4
    | some o =>
      obtain ⟨oc, od, dt, osl⟩ := o
      rw [q] at c4 e
      cases dt with
      | func fd =>
        obtain ⟨n1, n2, n3, n4, n5, n6, n7, n8, n9, n10, n11, n12, n13, n14, n15⟩ := fd
        have e2 : (some (n1, n2, n3, n4, n5, n6, n7.map (·.1), n15) : FnQ) = some (("__init__" : Str), d.qual, L2.defArgs d.st, FuncBody.stmts (L2.defBody d.st), L2.defScope d.st, mainGlobals, [("__class__" : Str)], builtinsNs) := e
        simp only [Option.some.injEq, Prod.mk.injEq] at e2
        obtain ⟨h1, h2, h3, h4, h5, h6, h7, h8⟩ := e2
        subst h1 h2 h3 h4 h5 h6 h8
        obtain ⟨k1, k2⟩ := ba c4
        obtain ⟨kA, k3⟩ := ba k2
        obtain ⟨k3, k9⟩ := ba k3
        clear k2 c4
        dsimp only at k1 kA k3 k9
        have ed : n8 = .none := by
          cases n8 <;> first | rfl | cases k9
        subst ed
        split at kA
        · rename_i nn cc
          have en : nn = "__class__" := by simpa using h7
          subst en
          split at kA
          · rename_i cl cld D csl qc
            have eD := of_decide_eq_true kA
            subst eD
            split at k3
            · rename_i cda hcd9
              have hcd8 : n13 = .ref cda := hcd9
              subst hcd8
              split at k3
              · rename_i ccl cdd vs ccs qd
                split at k3
                · rename_i f tf qv
                  have ef : f = prog.main.file := by simpa using k3
                  exact ⟨oc, od, n9, n10, n11, n12, cda, n14, osl, cc, cl, cld, csl, ccl, cdd, vs, ccs, f, tf, rfl, k1, qc, qd, qv, by rw [ef]; simp⟩
                · cases k3
              · cases k3
            · cases k3
          · cases kA
        · cases kA
      | _ => cases c4
  · have := List.all_eq_true.mp c5 p.1 (by rw [← hf]; exact List.mem_map_of_mem hp)
    exact eqO_ok this

/-! ### the Hook -/
abbrev AlX : Type := Bool × List He5.FnW × List FnQ
def obsX (bx : Frag → Bool) (fn : List DefA) (er : List ErrD) (file : Str) (K : Frag) : AlX := (bx K && (fn.all (fun d => d.ok K) && er.all fun d => d.ok file K), fn.map fun d => fnA K (d.at_ K), er.map fun d => fnQ K (d.at_ K))
def valX (fn : List DefA) (er : List ErrD) : AlX := (true, fn.map DefA.val, er.map ErrD.val)
def SaysX (bx : Frag → Bool) (fn : List DefA) (er : List ErrD) (file : Str) (K : Frag) : Prop := obsX bx fn er file K = valX fn er
def obsXG (n : Nat) (bx : Frag → Bool) (fn : List DefA) (er : List ErrD) (file : Str) (g : Addr → Option Obj) : AlX := obsX bx fn er file (frG g (asA g n))
def hookX (n : Nat) (bx : Frag → Bool) (fn : List DefA) (er : List ErrD) (file : Str) : PySem.W.Hook where
  α := AlX
  obs := fun s => obsXG n bx fn er file s.heap.get?
  val := fun _ => valX fn er
  says := fun _ h => ∃ K : Frag, K.In h ∧ SaysX bx fn er file K
  of := fun _ _ e => ⟨_, frG_in, e⟩
  keeps := fun _ _ _ ⟨K, hK, c⟩ k => ⟨K, Frag.In.keeps hK k, c⟩
theorem obsXG_eq {n : Nat} {bx : Frag → Bool} {fn : List DefA} {er : List ErrD} {file : Str} {g : Addr → Option Obj} {s : Shared} (h : ∀ a, g a = s.heap.get? a) : obsXG n bx fn er file g = (hookX n bx fn er file).obs s := by
  have e : g = s.heap.get? := funext h
  rw [e] <;> rfl
section
variable {bx : Frag → Bool} {fn : List DefA} {er : List ErrD} {file : Str} {K : Frag}
theorem SaysX.bool (c : SaysX bx fn er file K) : bx K = true := (ba (show (bx K && (fn.all (fun d => d.ok K) && er.all fun d => d.ok file K)) = true from congrArg (fun z : AlX => z.1) c)).1
theorem SaysX.def_ (c : SaysX bx fn er file K) (i : Nat) {d : DefA} (h : fn[i]? = some d := by rfl) : ∃ fd, L2.FunD K d.name d.qual d.params d.body d.scope (d.dvs K) (d.kws K) (d.at_ K) fd := by
  have c2 := (ba (ba (show (bx K && (fn.all (fun d => d.ok K) && er.all fun d => d.ok file K)) = true from congrArg (fun z : AlX => z.1) c)).2).1
  have e : fn.map (fun d => fnA K (d.at_ K)) = fn.map DefA.val := congrArg (fun z : AlX => z.2.1) c
  have e2 : (fn.map fun d => fnA K (d.at_ K))[i]? = (fn.map DefA.val)[i]? := by rw [e]
  rw [List.getElem?_map, List.getElem?_map, h] at e2
  exact DefA.funD (Option.some.inj e2) (List.all_eq_true.mp c2 d (List.mem_of_getElem? h))
theorem SaysX.err_ (c : SaysX bx fn er file K) (i : Nat) {d : ErrD} (h : er[i]? = some d := by rfl) : fnQ K (d.at_ K) = d.val ∧ d.ok file K = true := by
  have c2 := (ba (ba (show (bx K && (fn.all (fun d => d.ok K) && er.all fun d => d.ok file K)) = true from congrArg (fun z : AlX => z.1) c)).2).2
  have e : er.map (fun d => fnQ K (d.at_ K)) = er.map ErrD.val := congrArg (fun z : AlX => z.2.2) c
  have e2 : (er.map fun d => fnQ K (d.at_ K))[i]? = (er.map ErrD.val)[i]? := by rw [e]
  rw [List.getElem?_map, List.getElem?_map, h] at e2
  exact ⟨Option.some.inj e2, List.all_eq_true.mp c2 d (List.mem_of_getElem? h)⟩
end
end HX

namespace L2
open PySem PySem.Spec PyProof.Rows
/-- the end of a law over a head by facts, the script's bits told -/
theorem walk_ofX {l : PySem.W.OpenLaw} {n k : Nat} {q : Program} {loose : List Str} {XP : (Str → Option Value) → Heap → Prop} {YP : World → Heap → Prop} {d : DefRec} {CX : World → CXT} {x : Str}
    (hn : l.most = some n) (hn2 : n ≤ sizeLine) (hdf : d.params.defaults = []) (hr : Room k callerA)
    (F : ∀ (w : World) (mg : Str → Option Value) (fa : Addr) (h : Heap), YP w h → h.Ns mainGlobals mg → mg d.name = some (.ref fa) →
      ∃ (K : PySem.W.Frag) (fd : FuncData) (sp : Sp), K.In h ∧ (∀ (s : Shared) (u : Value), BindsTo s fd ⟨[u], []⟩ [(x, u)]) ∧
        (∀ (H : Hp) (a : Addr) (ns : List Int), ns.length ≤ n → (∀ z ∈ ns, Builtin.Int.intBits z ≤ 1048576) → Only H → SqL K H a (ns.map V.int) → sp [.ref a] H (fun v _ => v = .bl true) fun _ _ _ => False) ∧
        ∀ base : Heap, K.In base → base.Ns mainGlobals mg → FnOk l.prog w K mg base (CX w) k fa fd [x] sp)
    (hCX : ∀ (w : World) (H : Hp) (s : Shared) (e : Value) (s' : Shared), CX w [] H s (fun _ _ _ => False) e s' → False) :
    PySem.W.WalkO q loose XP YP l.row.toRowW d [] (fun f vs => PySem.call f vs) := by
  refine Att.attach_callB hn hdf fun w s₀ s₁ mg mb fa o pm cd doc a vs ns G Y ho hd hcd hmg hobj hints hlen hbits hg => ?_
  obtain ⟨K, fd, sp, KX, hb, hsp, hF⟩ := F w mg fa _ Y G.T.g hmg
  exact law_call KX G.T.g G.T.b G.T.builtins G.T.nolimit hg hobj hints (Nat.le_trans hlen hn2) hr hF hb (fun H hO hS => hsp H a ns hlen hbits hO hS) fun H e s' => hCX w H s₁ e s'
end L2

set_option maxRecDepth 100000
set_option maxHeartbeats 4000000
/-! # n * obj; facts of classes by one Bool -/
namespace L2
open PySem PySem.Spec PyProof.Rows
theorem int_mul_ins (k : Int) (t : Tok) (l : Addr) (C : Value) (dd : Option Addr) (sl : Array (Option Value)) :
    Meets (Builtin.«int.__mul__» ⟨[.int k t, .ref l], []⟩) (fun _ R s => s.heap.get? l = some { cls := C, dict := dd, data := .plain, slots := sl } ∧ R (.ok (.ret Value.notImplemented)) s) :=
  .of_wp fun prog w A R s h => by obtain ⟨hp, g, d, tk, os⟩ := s; obtain ⟨hl, h⟩ := h; wp_walk using wpAny_loadPart' hl; exact ⟨_, rfl, h⟩
/-- n op a, a of a class with the operator and its reflected one -/
structure OwnR (K : PySem.W.Frag) (C : Addr) (op : Operator) (f : Addr) : Prop where
  first : PySem.W.selfFirst K C = true
  mul : ∃ g, PySem.W.findIn K (.ref C) (PySem.dunder op.info.2) = some (some (.ref g))
  at_ : PySem.W.findIn K (.ref C) (dunderR op.info.2) = some (some (.ref f))
  fn : PySem.W.isFn K (.ref f) = true
  sub : PySem.W.subIn K (.ref C) (.type "int") = some false
def rOwnR (C : Addr) (sp : Sp) (E : XK) : R2 := fun x y H Q => ∃ a dx fs n, x = .int n ∧ y = .ref a ∧ H a = some (.ins C dx fs) ∧ sp [.ref a, .int n] H Q E
section
open PySem.W
theorem ksp_rbin {prog : Program} {w : World} {A : Around} {E : Value → Shared → Prop} {s : Shared} {K : Frag} {x C L f : Addr} {h₀ : Heap} {m : Str → Option Value} {od : Option Obj} {dx : Addr} {k : Int} {t : Tok} {op : Operator} {idl : String} {Q : Value → Shared → Prop}
    (Fr0 : Fr h₀ L s.heap m) (X₀ : K.In h₀) (I : InstAt s.heap x (instObj C dx) C od) (O : OwnR K C op f) (hf : fillsNumberSlot (.type "int") op.info.2 = pure true) (hl : Slot "int" (PySem.dunder op.info.2) idl)
    (hd : ∀ {Q' : Value → Shared → Prop}, Q' .notImplemented s → wpAny (model prog w) A (call (.builtin idl) [.int k t, .ref x]) Q' E s)
    (h : wpAny (model prog w) A (call (.ref f) [.ref x, .int k t]) (PySem.W.CmpBack Q) E s) : wpAny (model prog w) A (binaryOp op (.int k t) (.ref x)) Q E s := by
  have X := X₀.keeps Fr0.keep
  obtain ⟨cd, rest, hcd, hm⟩ := ksp_first O.first
  obtain ⟨g0, hg0⟩ := O.mul
  have one := ksp_try X I O.at_ O.fn h
  have two : ∀ {Q' : Option Value → Shared → Prop}, Q' none s → wpAny (model prog w) A (tryMethod (.int k t) (PySem.dunder op.info.2) (.ref x)) Q' E s := fun {Q'} q =>
    wpAny_tryMethod_declines (typeIs_int s k t) hl (hd ⟨rfl, q⟩)
  have oat := O.at_
  rcases hi : op.info with ⟨sym, nm'⟩
  rw [hi] at hg0 hf two one
  dsimp only at hg0 hf two one
  obtain ⟨hh, gg, d, tt, os⟩ := s
  have L1 : Looks (model prog w) hh (typeOf (.ref x)) (.ref C) := I.type
  have L2 : Looks (model prog w) hh (typeOf (.int k t)) (.type "int") := Looks.of_pure rfl
  have L3 : Looks (model prog w) hh (fillsNumberSlot (.ref C) nm') true := fills_K X hcd hm hg0
  have L4 : Looks (model prog w) hh (fillsNumberSlot (.type "int") nm') true := Looks.of_pure hf
  have L5 : Looks (model prog w) hh (isSubtype (.ref C) (.type "int")) false := looks_subIn X O.sub
  have L7 : Looks (model prog w) hh (numberSlotInPython (.type "int") nm') false := Looks.of_pure rfl
  have hne : (Value.type "int" == Value.ref C) = false := Bool.eq_false_iff.mpr fun q => by cases beq_iff_eq.mp q
  simp only [binaryOp, hi]
  refine wpAny_holding (wpAny_bind ?_)
  unfold binaryOp1
  refine wpAny_bind (L2.at (wpAny_bind (L1.at (wpAny_bind (L4.at ?_)))))
  simp only [hne, Bool.false_eq_true, if_false]
  refine wpAny_bind (L3.at ?_)
  simp only [Bool.and_self, if_true]
  refine wpAny_bind (L5.at ?_)
  simp only [Bool.false_eq_true, if_false, pure_bind, Bool.not_false, Bool.and_self, if_true]
  refine wpAny_bind (L7.at ?_)
  simp only [Bool.false_eq_true, if_false, pure_bind, Bool.not_false, Bool.and_self, if_true]
  refine wpAny_bind (two ?_)
  simp only [Bool.false_eq_true, if_false, pure_bind]
  refine wpAny_bind (wpAny_mono one (fun r s' hr' => ?_) fun _ _ e => e)
  obtain ⟨v, rfl, hq⟩ := hr'
  exact wpAny_bind (wpAny_rule (wpAny_pure (wpAny_pure hq)))
end
section
variable {X : Cx} {CX : CXT} {C f : Addr} {fd : FuncData} {ps : List Str} {sp : Sp} {E : XK} {k : Nat}
theorem op_ownR (O : OwnR X.K C .Mult f) (F0 : FnOk X.prog X.w X.K X.mg X.base CX k f fd ps sp) (hb : Binds X.K fd ps []) (hr : Room k X.A) (hx : Passes CX X E) :
    OpR X (binaryOp .Mult) (rOwnR C sp E) := by
  intro pins s σ H x y v u Q I rx ry h
  obtain ⟨a, dx, fs, n, rfl, rfl, ha, hsp⟩ := h
  obtain ⟨t, rfl⟩ := rx
  cases ry
  obtain ⟨mA, J0, rel, _⟩ := ins_get I.hok ha
  obtain ⟨od, J, _⟩ := J0.look
  obtain ⟨m, hF⟩ := I.fr
  refine ksp_rbin hF I.ok.mod.kin J O F.fills_int_mul F.slot_int_mul (fun q => call_meets F.slot_int_mul (typeIs_int s n t) F.entry_int_mul (F.args_int_mul_2 _ _) (int_mul_ins n t a (.ref C) (some dx) #[]) ⟨J0.obj, q⟩) (wpAny_mono (run_fn F0 hr hb .nil hx I (us := [.ref a, .int n t]) (vs := [.ref a, .int n]) (.cons rfl (.cons ⟨t, rfl⟩ .nil)) hsp) (fun r s' q => back_of q) fun _ _ z => z)
/-- a def called within a built-in's call -/
theorem run_fnA {A : Around} {pins : List (Addr × Obj)} {σ : St} {H : Hp} {s : Shared} {Q : VK} {us : List Value} {vs : List V} (F : FnOk X.prog X.w X.K X.mg X.base CX k f fd ps sp) (hb : Binds X.K fd ps []) (hr : Room k A) (e0 : Env0 X.prog X.w X.K X.mg X.base A X.stack s H) (hx : Passes CX X E)
    (I : Inv X pins σ H s) (r : Vals vs us) (h : sp vs H Q E) : wpAny (model X.prog X.w) A (call (.ref f) us) (EP X pins σ Q) X.xe s := by
  have hl : us.length = ps.length := r.length.symm.trans (F.len _ _ _ _ h)
  have B : BindsTo s fd ⟨us, []⟩ (ps.zip us) := by
    have := hb s us I.kIn (by rw [List.append_nil]; exact hl)
    rwa [List.append_nil] at this
  refine wpAny_call (codeAny_mono (F.run A X.stack s H ⟨us, []⟩ us vs Q E hr e0 B r h) fun r s' hq => ?_)
  cases r with
  | error e => exact hx pins σ H s e s' I hq
  | ok fl =>
    cases fl with
    | ret u => exact I.after hq
    | next => exact False.elim hq
    | brk => exact False.elim hq
    | cont => exact False.elim hq
/-- abs(a), a of a class with __abs__ -/
def rOwnAbs (C : Addr) (sp : Sp) (E : XK) : List V → Hp → VK → Prop := fun xs H Q => ∃ a dx fs, xs = [.ref a] ∧ H a = some (.ins C dx fs) ∧ sp [.ref a] H Q E
theorem call_ownAbs (hs : PySem.W.findIn X.K (.ref C) "__abs__" = some (some (.ref f))) (hf : PySem.W.isFn X.K (.ref f) = true) (F : FnOk X.prog X.w X.K X.mg X.base CX k f fd ps sp) (hb : Binds X.K fd ps []) (hr : Room (k + 1) X.A) (hx : Passes CX X E) :
    CallR X (.builtin "abs") (rOwnAbs C sp E) := by
  intro pins s σ H xs us Q I r h
  obtain ⟨a, dx, fs, rfl, ha, hsp⟩ := h
  cases r with
  | cons r rr =>
  cases rr
  cases r
  obtain ⟨od, J⟩ := inst_of I.hok ha
  refine Calls.call_function_entry kind_abs plain_abs entry_abs (args_abs _) ?_
  unfold Builtin.«abs»
  refine wpAny_bind (m := oneArg "abs" _) (wpAny_of_eq (a := Value.ref a) (by first | rfl | kernel_rfl!) ?_)
  refine wpAny_bind (PySem.W.special_fn I.kIn J hs (beq_iff_eq.mp hf) (wpAny_mono (run_fnA F hb hr.in1 I.env0.in1 hx I (us := [.ref a]) (vs := [.ref a]) (.cons rfl .nil) hsp) (fun v s' q => ?_) fun _ _ z => z))
  exact wpAny_pure ⟨_, rfl, q⟩
/-- len(a), a of a class with __len__ -/
def rOwnLen (C : Addr) (sp : Sp) (E : XK) : List V → Hp → VK → Prop := fun xs H Q => ∃ a dx fs, xs = [.ref a] ∧ H a = some (.ins C dx fs) ∧ sp [.ref a] H (fun v H' => ∃ n : Nat, v = .int n ∧ n ≤ sizeLine ∧ Q v H') E
end
end L2

set_option maxRecDepth 100000
set_option maxHeartbeats 4000000
/-! # Facts of a class by one Bool each; walks over own instances, over lists or tuples -/
namespace FB
open PySem PySem.W PySem.Calls PyProof.Rows He He5 HX
abbrev mT : Value := .type "type"
def creadB (K : Frag) (C : Addr) : Bool := readsIn K C mT && eqO (specialIn K (.ref C) "__getattribute__") (some (some (.builtin "type.__getattribute__")))
theorem cread_ok {K : Frag} {C : Addr} (h : creadB K C = true) : ClX.CRead K C mT := by
  obtain ⟨h1, h2⟩ := ba h
  exact ⟨h1, eqO_ok h2⟩
def cintB (K : Frag) (C : Addr) (f : Str) (i : Int) : Bool := match findCls K (.ref C) mT f with
  | some (.val (.int j _)) => decide (j = i)
  | _ => false
theorem cint_ok {K : Frag} {C : Addr} {f : Str} {i : Int} (h : cintB K C f i = true) : ∃ u, ClX.CVal K C mT f (.int i) u := by
  unfold cintB at h
  split at h
  · rename_i j t e
    have := of_decide_eq_true h
    subst this
    exact ⟨_, e, ⟨t, rfl⟩⟩
  · cases h
def addrO : Option (Option Value) → Bool
  | some none => true
  | some (some (.ref _)) => true
  | _ => false
theorem addrO_ok {o : Option (Option Value)} (h : addrO o = true) : ∃ rc, o = some rc ∧ (rc = none ∨ ∃ g : Addr, rc = some (.ref g)) := by
  cases o with
  | none => cases h
  | some o =>
    cases o with
    | none => exact ⟨_, rfl, .inl rfl⟩
    | some v => cases v <;> first | exact ⟨_, rfl, .inr ⟨_, rfl⟩⟩ | (cases h; done)
def opB (K : Frag) (C : Addr) (op : Operator) (f : Addr) : Bool := selfFirst K C && (eqO (findIn K (.ref C) (PySem.dunder op.info.2)) (some (some (.ref f))) && isFn K (.ref f))
theorem op_ok {K : Frag} {C f : Addr} {op : Operator} (h : opB K C op f = true) : L2.OwnOp K C op f := by
  obtain ⟨h1, h⟩ := ba h
  obtain ⟨h2, h3⟩ := ba h
  exact ⟨h1, eqO_ok h2, h3⟩
def opTB (K : Frag) (C : Addr) (op : Operator) (f : Addr) (T : String) : Bool := opB K C op f && (addrO (findIn K (.ref C) (dunderR op.info.2)) && ((findIn K (.type T) (PySem.dunder op.info.2)).isSome && ((findIn K (.type T) (dunderR op.info.2)).isSome && decide (subIn K (.type T) (.ref C) = some false))))
theorem opT_ok {K : Frag} {C f : Addr} {op : Operator} {T : String} (h : opTB K C op f T = true) : L2.OwnOpT K C op f T := by
  obtain ⟨h1, h⟩ := ba h
  obtain ⟨h2, h⟩ := ba h
  obtain ⟨h3, h⟩ := ba h
  obtain ⟨h4, h5⟩ := ba h
  exact { op_ok h1 with rev := addrO_ok h2, tf := Option.isSome_iff_exists.mp h3, tr := Option.isSome_iff_exists.mp h4, sub := of_decide_eq_true h5 }
def opRB (K : Frag) (C : Addr) (op : Operator) (f : Addr) : Bool := selfFirst K C && ((match findIn K (.ref C) (PySem.dunder op.info.2) with | some (some (.ref _)) => true | _ => false) && (eqO (findIn K (.ref C) (dunderR op.info.2)) (some (some (.ref f))) && (isFn K (.ref f) && decide (subIn K (.ref C) (.type "int") = some false))))
theorem opR_ok {K : Frag} {C f : Addr} {op : Operator} (h : opRB K C op f = true) : L2.OwnR K C op f := by
  obtain ⟨h1, h⟩ := ba h
  obtain ⟨h2, h⟩ := ba h
  obtain ⟨h3, h⟩ := ba h
  obtain ⟨h4, h5⟩ := ba h
  refine ⟨h1, ?_, eqO_ok h3, h4, of_decide_eq_true h5⟩
  split at h2
  · rename_i g e
    exact ⟨g, e⟩
  · cases h2
/-- a special method m of C at f -/
def spB (K : Frag) (C : Addr) (m : Str) (f : Addr) : Bool := eqO (findIn K (.ref C) m) (some (some (.ref f))) && isFn K (.ref f)
theorem sp_ok {K : Frag} {C f : Addr} {m : Str} (h : spB K C m f = true) : findIn K (.ref C) m = some (some (.ref f)) ∧ isFn K (.ref f) = true := by
  obtain ⟨h1, h2⟩ := ba h
  exact ⟨eqO_ok h1, h2⟩
/-- a classmethod m of C, its def at g -/
def cmetB (K : Frag) (C : Addr) (m : Str) (g : Addr) : Bool := match findCls K (.ref C) mT m with
  | some (.get (.builtin n) (.ref p) .none (.ref D)) => decide (n = "classmethod.__get__") && (decide (D = C) && ((match recIn K p "classmethod" with
    | some (.ref g' :: _) => decide (g' = g)
    | _ => false) && fnIn K g))
  | _ => false
theorem cmet_ok {K : Frag} {C g : Addr} {m : Str} (h : cmetB K C m g = true) : ∃ p, ClX.CMet K C mT m p g := by
  unfold cmetB at h
  split at h
  · rename_i n p D e
    obtain ⟨h1, h⟩ := ba h
    obtain ⟨h2, h⟩ := ba h
    obtain ⟨h3, h4⟩ := ba h
    have e1 := of_decide_eq_true h1
    have e2 := of_decide_eq_true h2
    subst e1 e2
    split at h3
    · rename_i g' r er
      have e3 := of_decide_eq_true h3
      subst e3
      exact ⟨p, e, ⟨r, er⟩, h4⟩
    · cases h3
  · cases h
end FB
namespace L2
open PySem PySem.Spec PyProof.Rows PySem.W
/-- the facts of __iter__ from its text -/
theorem ownIt_of {K : Frag} {mg : Str → Option Value} {C f : Addr} {fld qual : Str} {fd : FuncData} {st : Stmt} (c : Cls K C) (n : NoAttr K C fld) (a : findIn K (.ref C) "__iter__" = some (some (.ref f))) (hf : isFn K (.ref f) = true) (hm : mg "iter" = none)
    (F : FunD K "__iter__" qual (defArgs st) (defBody st) (defScope st) [] [] f fd)
    (tx : ∃ p1 p2 p3 p4 p5, defBody st = [.Return (some (.Call (.Name "iter" p1) [.Attribute (.Name "self" p2) fld p3] [] p4)) p5] ∧ ∀ env : Env, env.scope = defScope st → attributeBase (.Name "self" p2) fld env (eval (.Name "self" p2) env) = eval (.Name "self" p2) env)
    (sc : (defScope st).names.lookup ("self" : Str) = some .local ∧ (defScope st).names.lookup ("iter" : Str) = some .globalImplicit ∧ (∀ x ∈ (defScope st).names, x.2 ≠ .cell) ∧ (defScope st).kind = .function ∧ (defScope st).isCoroutine = false ∧ (defScope st).isGenerator = false)
    (hb : ∀ (s : Shared) (fd : FuncData) (v : Value), fd.params = defArgs st → fd.scope = defScope st → fd.defaults = .none → BindsTo s fd ⟨[v], []⟩ [("self", v)]) : OwnIt K mg C f fld := by
  obtain ⟨oc, od, dV, kV, doc, pm, an, cdv, ct, osl, rfl, lk, hcd, hD, _⟩ := F.ex
  obtain ⟨p1, p2, p3, p4, p5, hbody, hbase⟩ := tx
  have e : dV = .none := by
    rcases hD with ⟨_, e⟩ | ⟨e, _⟩
    · exact e
    · exact absurd rfl e
  subst e
  rw [hbody] at lk
  exact ⟨c, n, a, hf, hm, qual, defArgs st, defScope st, p1, p2, p3, p4, p5, ⟨oc, od, kV, doc, pm, an, cdv, ct, osl, lk, hcd⟩, sc.1, sc.2.1, sc.2.2.1, sc.2.2.2.1, sc.2.2.2.2.1, sc.2.2.2.2.2, hb, hbase⟩
section
variable {X : Cx} {tg : Expr}
/-- for x in a, a an own instance whose field is a tuple -/
def iOwn (K : Frag) (C : Addr) (fld : Str) (te : TE) : TI := fun σ H R => te σ H fun x H1 => ∃ a dx fs t xs, x = .ref a ∧ H1 a = some (.ins C dx fs) ∧ fs.lookup fld = some (.ref t) ∧ SqT K H1 t xs ∧ R (Itt K t) H1
theorem pi_own {C f : Addr} {fld : Str} {k : Nat} {e : Expr} {te : TE} (O : OwnIt X.K X.mg C f fld) (hr : Room k X.A) (he : PE X e te) : PI X tg e (iOwn X.K C fld te) := by
  refine ⟨fun pins s σ H R I h => ?_⟩
  refine thn (he.run pins s σ H _ I h) fun v s1 ⟨x, H1, I1, r1, q1⟩ => ?_
  obtain ⟨a, dx, fs, t, xs, ex, ha, hl, hT, q⟩ := q1
  subst ex
  cases r1
  refine own_iter O hr I1 ha hl hT fun h' tk it hk hit ho => ?_
  have I2 : Inv X pins σ H1 { s1 with heap := h', toks := tk } := I1.kept (t' := tk) hk
  refine ⟨it, [it], _, _, H1, rfl, I2, turn_tuple t it, ⟨_, ho, rfl, rfl⟩, fun b hb => ?_, q⟩
  have e : b = it := by simpa using hb
  subst e
  exact I1.fpOk hit (I1.hok.fresh hit)
/-- for x in a, a a list or a tuple -/
def iSeqW (K : Frag) (te : TE) : TI := fun σ H R => te σ H fun x H1 => ∃ a xs, x = .ref a ∧ SqA K H1 a xs ∧ ∀ (J : It) (G : Hp → Prop), (∀ H', Same H1 H' → G H') → Walk J xs.length G (YAt xs) → R J H1
theorem pi_seqW {l : Expr} {tl : TE} (hl : PE X l tl) : PI X tg l (iSeqW X.K tl) := by
  refine ⟨fun pins s σ H R I h => ?_⟩
  refine thn (hl.run pins s σ H _ I h) fun v s1 ⟨x, H1, I1, r1, q1⟩ => ?_
  obtain ⟨a, xs, e, hq, q⟩ := q1
  subst e
  cases r1
  rcases hq with hq | hq
  · obtain ⟨its, rv, p, hz⟩ := I1.list hq
    refine wpAny_pyIter_list p.isList ?_
    refine ⟨s1.heap.objs.size, [s1.heap.objs.size], _, _, H1, rfl, I1.kept (t' := s1.toks) fun b o e => Heap.get?_push_of_some _ e, turn_list a _, ⟨_, Heap.get?_push_size _ rfl, rfl, rfl⟩, fun b hb => ?_, q _ _ (fun _ sm => sm.seq hq) walk_list⟩
    have e : b = s1.heap.objs.size := by simpa using hb
    subst e
    exact I1.fpOk (Nat.le_refl _) (I1.hok.fresh (Nat.le_refl _))
  · obtain ⟨its, rv, p, hz⟩ := I1.tuple hq
    refine wpAny_pyIter_tuple (show s1.heap.IsTuple a its.toArray from p) ?_
    refine ⟨s1.heap.objs.size, [s1.heap.objs.size], _, _, H1, rfl, I1.kept (t' := s1.toks) fun b o e => Heap.get?_push_of_some _ e, turn_tuple a _, ⟨_, Heap.get?_push_size _ rfl, rfl, rfl⟩, fun b hb => ?_, q _ _ (fun _ sm => sm.seqT hq) walk_tup⟩
    have e : b = s1.heap.objs.size := by simpa using hb
    subst e
    exact I1.fpOk (Nat.le_refl _) (I1.hok.fresh (Nat.le_refl _))
end
end L2

set_option maxRecDepth 100000
set_option maxHeartbeats 4000000
/-! # A def that keeps its promise, in one word; calls of it -/
namespace L2
open PySem PySem.Spec PyProof.Rows
structure Ok (P : Program) (w : World) (K : PySem.W.Frag) (mg : Str → Option Value) (base : Heap) (CX : CXT) (k : Nat) (f : Addr) (ps : List Str) (sp : Sp) : Prop where
  ex : ∃ fd, FnOk P w K mg base CX k f fd ps sp ∧ Binds K fd ps [] ∧ PySem.W.keepIn K (.ref f) = true
section
variable {P : Program} {w : World} {K : PySem.W.Frag} {mg : Str → Option Value} {base : Heap} {CX : CXT} {k j : Nat} {f : Addr} {ps : List Str} {sp sp' : Sp}
theorem Ok.mono (O : Ok P w K mg base CX k f ps sp) (h : k ≤ j) : Ok P w K mg base CX j f ps sp := let ⟨fd, a, b, c⟩ := O.ex; ⟨fd, a.mono h, b, c⟩
theorem Ok.imp (O : Ok P w K mg base CX k f ps sp) (h : ∀ vs H Q E, sp' vs H Q E → sp vs H Q E) : Ok P w K mg base CX k f ps sp' := let ⟨fd, a, b, c⟩ := O.ex; ⟨fd, a.imp h, b, c⟩
/-- the proof of a def: its names' number, then its body -/
theorem Ok.of {x qual : Str} {params : Arguments} {body : List Stmt} {scope : Scope} {N : List Str} (n : Nat) (hf : ∃ fd, FunD K x qual params body scope [] [] f fd) (S : FnScope N ps scope) (hb : ∀ {fd : FuncData}, FunD K x qual params body scope [] [] f fd → Binds K fd ps []) (hk : n + 1 ≤ k)
    (len : ∀ vs H Q E, sp vs H Q E → vs.length = ps.length)
    (hbody : ∀ (cdv : Value) (A : Around) (outer : List Env) (s : Shared) (H : Hp) (vs : List V) (Q : VK) (E : XK), Room n (A.deeper (envOfC qual scope s.heap.objs.size f cdv)) → sp vs H Q E →
      ∃ t, PSs (cxOf CX P w K mg base N qual scope f cdv A outer s H E) body t ∧ t { nx := fun _ H' => Q .non H', rt := Q } (start N vs) H) : Ok P w K mg base CX k f ps sp := by
  obtain ⟨fd, F⟩ := hf
  exact ⟨fd, (F.ok S len hbody).mono hk, hb F, F.kp⟩
end
section
variable {X : Cx} {CX : CXT} {k : Nat} {f C : Addr} {ps : List Str} {sp : Sp} {E : XK} {x m : Str} {p pos apos : Pos} {e o : Expr} {es : List Expr} {ta : TE} {t : TA}
theorem pc (O : Ok X.prog X.w X.K X.mg X.base CX k f ps sp) (hr : Room k X.A) (hm : X.mg x = some (.ref f)) (hx : Passes CX X E) (ha : PA X (e :: es) t) (hg : Gl X x := by rfl) (hdb : (x == ("__debug__" : Str)) = false := by decide)
    (he : starEach (e :: es) X.env = (false, eval e X.env) :: starEach es X.env := by rfl) (hpl : (backTo pos (starEach es X.env)).any (·.1) = false := by rfl) :
    PE X (.Call (.Name x p) (e :: es) [] pos) (tCall sp [] E t) := let ⟨fd, a, b, c⟩ := O.ex; pe_call a hr hg hm c b .nil hx ha hdb he hpl
theorem pc0 (O : Ok X.prog X.w X.K X.mg X.base CX k f ps sp) (hr : Room k X.A) (hm : X.mg x = some (.ref f)) (hx : Passes CX X E) (hg : Gl X x := by rfl) (hdb : (x == ("__debug__" : Str)) = false := by decide) :
    PE X (.Call (.Name x p) [] [] pos) (tCall sp [] E tNil) := let ⟨fd, a, b, c⟩ := O.ex; pe_call0 a hr hg hm c b .nil hx hdb
theorem pmk (O : Ok X.prog X.w X.K X.mg X.base CX k f ps sp) (M : Mk X.K C f) (hr : Room (k + 1) X.A) (hm : X.mg x = some (.ref C)) (hx : Passes CX X E) (ha : PA X (e :: es) t) (hg : Gl X x := by rfl) (hdb : (x == ("__debug__" : Str)) = false := by decide)
    (he : starEach (e :: es) X.env = (false, eval e X.env) :: starEach es X.env := by rfl) (hpl : (backTo pos (starEach es X.env)).any (·.1) = false := by rfl) :
    PE X (.Call (.Name x p) (e :: es) [] pos) (tMake C sp [] E t) := let ⟨fd, a, b, c⟩ := O.ex; pe_make M a hr hg hm b .nil hx ha hdb he hpl
theorem pmeth {pl : Sem Bool} (O : Ok X.prog X.w X.K X.mg X.base CX k f ps sp) (he : PE X o ta) (c : Cls X.K C) (hm : Meth X.K C m f) (hr : Room k X.A) (hx : Passes CX X E) (ha : PA X (e :: es) t)
    (hst : starEach (e :: es) X.env = (false, eval e X.env) :: starEach es X.env := by rfl) (hpl : (backTo pos (starEach es X.env)).any (·.1) = false := by rfl)
    (ht : eval (.Call (.Attribute o m apos) (e :: es) [] pos) X.env = (do
      let ov ← eval o X.env
      standAt apos.atName
      let (f, first) ← holding [ov] (getMethod ov m pl)
      callWith pos f first (backTo pos (starEach (e :: es) X.env)) (backToKw pos (keywordEach [] X.env))) := by rfl) :
    PE X (.Call (.Attribute o m apos) (e :: es) [] pos) (tMeth C m sp [] E ta t) := let ⟨fd, a, b, d⟩ := O.ex; pe_meth (pl := pl) he c hm a hr b .nil hx ha hst hpl ht
theorem pmeth0 {pl : Sem Bool} (O : Ok X.prog X.w X.K X.mg X.base CX k f ps sp) (he : PE X o ta) (c : Cls X.K C) (hm : Meth X.K C m f) (hr : Room k X.A) (hx : Passes CX X E)
    (ht : eval (.Call (.Attribute o m apos) [] [] pos) X.env = (do
      let ov ← eval o X.env
      standAt apos.atName
      let (f, first) ← holding [ov] (getMethod ov m pl)
      callWith pos f first (backTo pos (starEach [] X.env)) (backToKw pos (keywordEach [] X.env))) := by rfl) :
    PE X (.Call (.Attribute o m apos) [] [] pos) (tMeth C m sp [] E ta tNil) := let ⟨fd, a, b, d⟩ := O.ex; pe_meth0 (pl := pl) he c hm a hr b .nil hx ht
/-- a class or a def of the module by its name -/
theorem pgC (hm : X.mg x = some (.ref C)) (hg : Gl X x := by rfl) (hdb : (x == ("__debug__" : Str)) = false := by decide) : PE X (.Name x p) (tC (.ref C)) := pe_glob (v := .ref C) hg hm rfl hdb
theorem oOwn {op : Operator} (O : Ok X.prog X.w X.K X.mg X.base CX k f ps sp) (W : OwnOp X.K C op f) (hr : Room k X.A) (hx : Passes CX X E) : OpR X (binaryOp op) (rOwnOp C sp E) := let ⟨fd, a, b, c⟩ := O.ex; op_own W a b hr hx
theorem oOwnI {op : Operator} (O : Ok X.prog X.w X.K X.mg X.base CX k f ps sp) (W : OwnOpT X.K C op f "int") (hr : Room k X.A) (hx : Passes CX X E) : OpR X (binaryOp op) (rOwnOpI C sp E) := let ⟨fd, a, b, c⟩ := O.ex; op_ownI W a b hr hx
theorem oOwnR (O : Ok X.prog X.w X.K X.mg X.base CX k f ps sp) (W : OwnR X.K C .Mult f) (hr : Room k X.A) (hx : Passes CX X E) : OpR X (binaryOp .Mult) (rOwnR C sp E) := let ⟨fd, a, b, c⟩ := O.ex; op_ownR W a b hr hx
theorem uOwn (O : Ok X.prog X.w X.K X.mg X.base CX k f ps sp) (W : PySem.W.findIn X.K (.ref C) "__neg__" = some (some (.ref f)) ∧ PySem.W.isFn X.K (.ref f) = true) (hr : Room k X.A) (hx : Passes CX X E) : UnR X (unaryOp .USub) (rOwnNeg C sp E) := let ⟨fd, a, b, c⟩ := O.ex; un_own W.1 W.2 a b hr hx
theorem cAbs (O : Ok X.prog X.w X.K X.mg X.base CX k f ps sp) (W : PySem.W.findIn X.K (.ref C) "__abs__" = some (some (.ref f)) ∧ PySem.W.isFn X.K (.ref f) = true) (hr : Room (k + 1) X.A) (hx : Passes CX X E) : CallR X (.builtin "abs") (rOwnAbs C sp E) := let ⟨fd, a, b, c⟩ := O.ex; call_ownAbs W.1 W.2 a b hr hx
end
/-- a def that may raise: what its callees let out goes on -/
theorem px {X : Cx} {E : XK} {E₁ : Value → Shared → Prop} (hs : X.stack = X.env :: X.outer := by rfl) (hf : X.env.frame = some X.env.locals := by rfl) (hex : X.ex = [] := by rfl)
    (hx : X.xe = fun e s' => wpAny (model X.prog X.w) X.A (leaving X.env e) (fun _ s'' => CX X.prog X.w X.outer X.H_0 X.s_0 E e s'') E₁ s' := by rfl) : Passes (CX X.prog X.w) X E :=
  passes_call (takes_of hs hf hex hx) fun _ _ _ _ h => h
end L2

set_option maxRecDepth 100000
set_option maxHeartbeats 4000000
/-! # try with several clauses, each with or without a name -/
namespace L2
open PySem PySem.Spec PyProof.Rows
abbrev Cls3 : Type := Value × Option Nat × (Addr → Value → Option Addr → TS)
/-- the ends behind a suite whose name is slot i: it is gone -/
def Ends.gone (D : Ends) (i : Nat) : Ends := { nx := fun σ' H' => D.nx (σ'.set i none) H', rt := D.rt, bk := fun σ' H' => D.bk (σ'.set i none) H', ct := fun σ' H' => D.ct (σ'.set i none) H' }
def wAny (K : PySem.W.Frag) (Wo : WX) (D : Ends) : List Cls3 → WX
  | [] => Wo
  | (c, none, ts) :: r => fun cls d σ H => ∃ b, PySem.W.exmOne K cls c = some b ∧ (b = true → ∀ a, H a = none → ts a cls d D σ H) ∧ (b = false → wAny K Wo D r cls d σ H)
  | (c, some i, ts) :: r => fun cls d σ H => ∃ b, PySem.W.exmOne K cls c = some b ∧ (b = true → ∀ a, H a = none → ts a cls d (D.gone i) (σ.set i (some (.ref a))) H) ∧ (b = false → wAny K Wo D r cls d σ H)
inductive HdA (X : Cx) : List ExceptHandler → List Cls3 → Prop
  | nil : HdA X [] []
  | cons {x : Str} {c : Value} {ts : Addr → Value → Option Addr → TS} {b₀ : Stmt} {su : List Stmt} {np p2 : Pos} {hds : List ExceptHandler} {l : List Cls3} (hc : Names X x c)
      (hsu : ∀ (a : Addr) (oe : Obj) (cls : Value) (d : Option Addr) (pn : List (Addr × Obj)), Zc cls d oe → (∃ vs, oe.data = .fields vs) → PSs (X.suite a ((a, oe) :: pn)) (b₀ :: su) (ts a cls d)) (r : HdA X hds l) :
      HdA X (.ExceptHandler (some (.Name x np)) none (b₀ :: su) p2 :: hds) ((c, none, ts) :: l)
  | as {x n : Str} {i : Nat} {c : Value} {ts : Addr → Value → Option Addr → TS} {b₀ : Stmt} {su : List Stmt} {np p2 : Pos} {hds : List ExceptHandler} {l : List Cls3} (hc : Names X x c) (hi : X.N[i]? = some n) (hln : X.env.kindOf n = some .local)
      (hsu : ∀ (a : Addr) (oe : Obj) (cls : Value) (d : Option Addr) (pn : List (Addr × Obj)), Zc cls d oe → (∃ vs, oe.data = .fields vs) → PSs (X.suite a ((a, oe) :: pn)) (b₀ :: su) (ts a cls d)) (r : HdA X hds l) :
      HdA X (.ExceptHandler (some (.Name x np)) (some n) (b₀ :: su) p2 :: hds) ((c, some i, ts) :: l)
section
variable {X : Cx} {body : List Stmt} {h₀ : ExceptHandler} {hds : List ExceptHandler} {l : List Cls3} {pos : Pos} {tb : WX → TS} {Wo : WX}
theorem ps_try_any (hs : X.stack = X.env :: X.outer) (hf : X.env.frame = some X.env.locals) (hN : X.N.Nodup) (tk : Takes X Wo)
    (hb : ∀ (W : WX) (pn : List (Addr × Obj)) (xe : Value → Shared → Prop), Takes (X.tr pn xe) W → PassesOwn (model X.prog X.w) X.A X.env xe → PSs (X.tr pn xe) body (tb W))
    (hh : HdA X (h₀ :: hds) l) : PS X (.Try body (h₀ :: hds) [] [] pos) (fun D σ H => tb (wAny X.K Wo D l) D σ H) := by
  refine ⟨fun pins s σ H D I h => ?_⟩
  have ok := I.ok
  have hfr : X.A.frames = some (X.env :: X.outer) := by rw [ok.frames, hs]
  refine wpAny_Try_except ?_
  refine wpAny_mono ((hb (wAny X.K Wo D l) (X.pn ++ pins) (fun e s₁ => wpAny (model X.prog X.w) X.A (noteFrame e X.env) (fun _ s₂ => wpAny (model X.prog X.w) X.A (setFlight e none) (fun _ s₃ =>
    wpAny (model X.prog X.w) X.A (handleBy e X.env (h₀ :: hds)) (SP X pins D) X.xe s₃) X.xe s₂) X.xe s₁) (fun u s' xx => ?_) PassesOwn.looking).run [] s σ H D (I.toTry _) h) (fun f s1 hsp => ?_) (fun e s1 he => he)
  · obtain ⟨a, B, sI, pins', σ', H', cls, d, rfl, J', nb, up, sky, na, os, ag, w⟩ := xx
    have J : Inv X pins σ' H' sI := J'.ofTry ok
    have sk2 : Sky B (X.env :: X.outer) a (Zc cls d) X.env.locals s'.heap := by rw [← hs]; exact sky
    show wpAny (model X.prog X.w) X.A (noteFrame (.ref a) X.env) _ _ _
    refine Sky.land Zc.steady hfr hf sk2 fun h3 fl3 up3 => ?_
    have J3 : Inv X pins σ' H' { s' with heap := h3 } := J.landed nb fl3.1 (up.trans up3) os ag
    obtain ⟨oe3, vs3, he3, hz3, hd3⟩ := fl3.there
    have nfr : a ∉ frs (X.env :: X.outer) := fun hm => by
      obtain ⟨_, o', e', hnf⟩ := fl3.2.2.1.mem hm
      rw [he3] at e'; cases e'
      exact hnf _ hd3
    have nL : a ≠ X.env.locals := fun z => nfr (List.mem_filterMap.mpr ⟨X.env, List.mem_cons_self, by rw [hf, z]⟩)
    have nF : a ∉ X.fs := fun hm => by
      obtain ⟨e, he, q⟩ := List.mem_filterMap.mp hm
      exact nfr (List.mem_filterMap.mpr ⟨e, List.mem_cons_of_mem _ he, q⟩)
    have S3 := J3.suite he3 hd3 na nL nF
    have LT : PySem.W.Looks (model X.prog X.w) h3 (typeOf (.ref a)) cls := fun A Q E s k q => wpAny_typeOf_ref (k _ _ he3) (by rw [hz3.1]; exact q)
    have test : ∀ {x : Str} {np : Pos} {c : Value} {Q : Value → Shared → Prop} {E : Value → Shared → Prop}, Names X x c → Q c { s' with heap := h3 } → wpAny (model X.prog X.w) (X.A.mark (some (.ref a))) (eval (.Name x np) X.env) Q E { s' with heap := h3 } := fun {x np c Q E} hc q => by
      obtain ⟨hg, hdbg, hm | ⟨hm, hv, hnn⟩⟩ := hc
      · exact ld_glob (X := X.suite a ((a, oe3) :: (X.pn ++ pins))) S3 hg hm q hdbg
      · exact ld_blt (X := X.suite a ((a, oe3) :: (X.pn ++ pins))) S3 hg hm hv q hnn hdbg
    have go : ∀ {hds' : List ExceptHandler} {l' : List Cls3}, HdA X hds' l' → wAny X.K Wo D l' cls d σ' H' →
        wpAny (model X.prog X.w) X.A (handleBy (.ref a) X.env hds') (SP X pins D) X.xe { s' with heap := h3 } := by
      intro hds' l' hk
      induction hk with
      | nil =>
        intro w
        refine wpAny_handleBy_nil ?_
        obtain ⟨k1, k2, k3, oe, vs, T, oT, ts', he, hz, hd, h1, hr⟩ := id fl3
        unfold PySem.passOn
        refine wpAny_bind (wpAny_field he hd h1 ?_)
        rw [if_neg (show ¬ ((Value.ref T == Value.none) = true) from by simp)]
        have fin : wpAny (model X.prog X.w) X.A (setFlight (.ref a) X.env.frame) (fun _ s4 => wpAny (model X.prog X.w) X.A (throw (.ref a) : Sem Flow) (SP X pins D) X.xe s4) X.xe { s' with heap := h3 } := by
          rw [hf]
          refine HandSPX.setFlight_upZ fl3 fun h4 hh4 up4 => wpAny_throw (tk _ _ ?_)
          exact ⟨a, B, sI, pins, σ', H', cls, d, rfl, J, nb, (up.trans up3).trans up4, .inr (.inr (by rw [hs]; exact hh4)), na, os, ag, w⟩
        first
          | exact wpAny_bind (wpAny_pure (wpAny_bind fin))
          | exact wpAny_bind fin
      | @cons x c ts b₀ suite np pos' hds2 l2 hc hsu r ih =>
        intro w
        obtain ⟨b, hb1, hyes, hno⟩ := w
        refine wpAny_handleBy_cons (codeAny_handlers_test ?_) (by intro q; cases q)
        refine test hc ((PySem.W.exm_one (M := model X.prog X.w) (J3.kIn) LT hb1).here ?_)
        cases b with
        | true =>
          refine codeAny_handlers_suite ?_
          refine HandSPX.lands_againZ fl3 fun h4 fl4 up4 => ?_
          have J4 : Inv X pins σ' H' { s' with heap := h4 } := J.landed nb fl4.1 ((up.trans up3).trans up4) os ag
          obtain ⟨oe4, vs4, he4, hz4, hd4⟩ := fl4.there
          have S4 := J4.suite he4 hd4 na nL nF
          refine wpAny_mono ((hsu a oe4 cls d (X.pn ++ pins) hz4 ⟨_, hd4⟩).run [] _ _ H' _ S4 (hyes rfl a na)) (fun f s6 hsp => ?_) (fun _ _ z => False.elim z)
          cases f with
          | next => obtain ⟨σ6, H6, S6, q6⟩ := hsp; exact ⟨_, _, S6.unsuite ok, q6⟩
          | brk => obtain ⟨σ6, H6, S6, q6⟩ := hsp; exact ⟨_, _, S6.unsuite ok, q6⟩
          | cont => obtain ⟨σ6, H6, S6, q6⟩ := hsp; exact ⟨_, _, S6.unsuite ok, q6⟩
          | ret u => obtain ⟨v6, σ6, H6, S6, r6, q6⟩ := hsp; exact ⟨_, _, _, S6.unsuite ok, r6, q6⟩
        | false =>
          show wpAny _ X.A (handleBy (.ref a) X.env hds2) _ _ _
          exact ih (hno rfl)
      | @as x n i c ts b₀ suite np pos' hds2 l2 hc hi hln hsu r ih =>
        intro w
        obtain ⟨b, hb1, hyes, hno⟩ := w
        refine wpAny_handleBy_cons (codeAny_handlers_test ?_) (by intro q; cases q)
        refine test hc ((PySem.W.exm_one (M := model X.prog X.w) (J3.kIn) LT hb1).here ?_)
        cases b with
        | true =>
          refine codeAny_handlers_suite_as ?_
          refine HandSPX.lands_againZ fl3 fun h4 fl4 up4 => ?_
          have J4 : Inv X pins σ' H' { s' with heap := h4 } := J.landed nb fl4.1 ((up.trans up3).trans up4) os ag
          obtain ⟨oe4, vs4, he4, hz4, hd4⟩ := fl4.there
          have S4 := J4.suite he4 hd4 na nL nF
          refine store_ok (X := X.suite a ((a, oe4) :: (X.pn ++ pins))) (v := .ref a) S4 hN hi (.inl hln) rfl (fun s5 S5 => ?_) (.inr hln)
          refine wpAny_mono ((hsu a oe4 cls d (X.pn ++ pins) hz4 ⟨_, hd4⟩).run [] s5 _ H' _ S5 (hyes rfl a na)) (fun f s6 hsp => ?_) (fun _ _ z => False.elim z)
          have end_ : ∀ {σ6 : St} {H6 : Hp} {Q : Shared → Prop}, Inv (X.suite a ((a, oe4) :: (X.pn ++ pins))) [] σ6 H6 s6 → (∀ s7, Inv X pins (σ6.set i none) H6 s7 → Q s7) →
              wpAny (model X.prog X.w) X.A (do bindName X.env n .none; unbindBehindTheSuite X.env n pos') (fun _ s7 => Q s7) X.xe s6 := fun {σ6 H6 Q} S6 hq => gone_ok (S6.unsuite ok) hN hi hln hq
          cases f with
          | next => obtain ⟨σ6, H6, S6, q6⟩ := hsp; exact end_ S6 fun s7 J7 => ⟨_, _, J7, q6⟩
          | brk => obtain ⟨σ6, H6, S6, q6⟩ := hsp; exact end_ S6 fun s7 J7 => ⟨_, _, J7, q6⟩
          | cont => obtain ⟨σ6, H6, S6, q6⟩ := hsp; exact end_ S6 fun s7 J7 => ⟨_, _, J7, q6⟩
          | ret u => obtain ⟨v6, σ6, H6, S6, r6, q6⟩ := hsp; exact end_ S6 fun s7 J7 => ⟨_, _, _, J7, r6, q6⟩
        | false =>
          show wpAny _ X.A (handleBy (.ref a) X.env hds2) _ _ _
          exact ih (hno rfl)
    exact go hh w
  · cases f with
    | next => obtain ⟨σ', H', J', q⟩ := hsp; exact wpAny_execs_nil ⟨σ', H', J'.ofTry ok, q⟩
    | brk => obtain ⟨σ', H', J', q⟩ := hsp; exact ⟨σ', H', J'.ofTry ok, q⟩
    | cont => obtain ⟨σ', H', J', q⟩ := hsp; exact ⟨σ', H', J'.ofTry ok, q⟩
    | ret u => obtain ⟨v, σ', H', J', r, q⟩ := hsp; exact ⟨v, σ', H', J'.ofTry ok, r, q⟩
end
end L2

set_option maxRecDepth 100000
set_option maxHeartbeats 4000000
/-! # isinstance(e, C) in a suite, e an error with a dict -/
namespace EI
open PySem PySem.W PySem.Spec PySem.Calls PyProof.Rows
theorem cls_of_exc {prog : Program} {w : World} {A : Around} {E : Value → Shared → Prop} {s : Shared} {K : Frag} {x D : Addr} {ox od : Obj} {Q : Option Value → Shared → Prop} (C : L2.ExcC K D) (X : K.In s.heap) (I : InstAt s.heap x ox D (some od)) (h : Q (some (.ref D)) { s with toks := s.toks + 1 }) :
    wpAny (model prog w) A (getAttr? (.ref x) "__class__") Q E s := by
  have hf : findObj K D (some od) "__class__" = some (.bind (.builtin "getset_descriptor.__get__") (.builtin "object.__class__")) := findObj_data (by obtain ⟨cd, hc, _⟩ := any_some C.hd; rw [hc]; rfl) C.ha C.hn C.ht
  obtain ⟨hp, g, d, t, os⟩ := s
  have L0 := I.type (M := model prog w)
  have L1 := looks_findIn (M := model prog w) X C.hg
  have L2 := looks_findIn (M := model prog w) X C.hk
  have L3 := looks_find (M := model prog w) X I hf
  have sub : Looks (model prog w) hp (isInstance (.ref x) (.type "BaseException")) true := L0.andThen (looks_subIn X C.hs)
  have n2 : (Value.builtin "BaseException.__getattribute__" == Value.builtin "object.__getattribute__") = false := by decide +kernel
  have n1 : (onTheHeap (Value.ref D) && Value.builtin "BaseException.__getattribute__" == Value.builtin "object.__getattribute__") = false := by rw [n2]; rfl
  unfold getAttr? getAttrBy? getAttrBy
  refine wpAny_bind (wpAny_mkText (wpAny_bind (wpAny_attempt (wpAny_holding (wpAny_bind (L0.at (wpAny_bind (L1.at (by
    show wpAny _ _ (if (onTheHeap (Value.ref D) && Value.builtin "BaseException.__getattribute__" == Value.builtin "object.__getattribute__") = true then _ else _) _ _ _
    rw [n1, if_neg Bool.false_ne_true]
    unfold getAttrByItsOwn hookBefore
    refine wpAny_bind ?_
    rw [if_pos (show onTheHeap (Value.ref D) = true from rfl)]
    refine L2.at (wpAny_bind (wpAny_attempt (wpAny_holding ?_)))
    unfold callGetattribute
    rw [show (false && onTheHeap (Value.builtin "BaseException.__getattribute__")) = false from rfl, if_neg Bool.false_ne_true]
    unfold boundAndCalled
    rw [PySem.F.excAttr_ValueError.ga.bind (.ref x)]
    refine wpAny_bind (wpAny_pure ?_)
    show wpAny _ _ (call (.builtin "BaseException.__getattribute__") [.ref x, .str "__class__" t]) _ _ _
    refine wpAny_call (codeAny_call_builtin PySem.F.excAttr_ValueError.ga.plain PySem.F.entry_bexc_ga (@check_slot (model prog w) _ _ ⟨hp, g, d, t + 1, os⟩ "BaseException.__getattribute__" "BaseException" "__getattribute__" (.ref x) [.str "__class__" t] [] _ (by decide +kernel) (by decide +kernel) sub (PySem.F.args_bexc_ga (.ref x) (.str "__class__" t)) ?_))
    unfold Builtin.«object.__getattribute__»
    refine wpAny_bind (wpAny_of_eq (a := ((Value.ref x : Value), [Value.str "__class__" t])) (by first | rfl | (simp only [slotArgs]; rfl)) ?_)
    refine wpAny_bind (wpAny_pure (wpAny_bind (L0.at (wpAny_bind (L3.at ?_)))))
    show wpAny _ _ (holding [Value.builtin "object.__class__"] (call (.builtin "getset_descriptor.__get__") [.builtin "object.__class__", .ref x, .ref D]) >>= ret) _ _ _
    refine wpAny_bind (wpAny_holding (wpAny_call (class_get (s := ⟨hp, g, d, t + 1, os⟩) (ox := ox) (od := some od) X I C.hm ?_)))
    refine wpAny_pure ?_
    show wpAny _ _ (handedOut (.ref D)) _ _ _
    rw [handedOut_of (v := .ref D) rfl]
    first
      | exact wpAny_pure (wpAny_pure h)
      | exact wpAny_pure h
      | exact wpAny_pure (wpAny_bind (wpAny_pure (wpAny_pure h))))))))))))
theorem kit_exc {K : Frag} {x D : Addr} {ox od : Obj} (C : L2.ExcC K D) : KitX K (.ref x) (.ref D) (fun h => InstAt h x ox D (some od)) where
  ty := fun _ _ _ I => I.type
  it := fun _ _ X _ => by
    obtain ⟨cdD, hcD, _⟩ := any_some C.hd
    unfold clsIn at hcD
    split at hcD
    · rename_i c' d' cd' sl' ho
      intro A' Q' E' s' k q
      unfold isType loadHead
      exact wpAny_bind (wpAny_loadPart (k _ _ (X _ _ ho)) (wpAny_pure q))
    · cases hcD
  ne := fun h tp dd its n sl X htp => by
    obtain ⟨cdD, hcD, _⟩ := any_some C.hd
    refine Bool.eq_false_iff.mpr fun q => ?_
    have e : D = tp := Value.ref.inj (beq_iff_eq.mp q)
    subst e
    unfold clsIn at hcD
    split at hcD
    · rename_i c' d' cd' sl' ho
      cases (X _ _ ho).symm.trans htp
    · cases hcD
  ca := fun X I k => cls_of_exc C X I k
end EI
namespace L2
open PySem PySem.Spec PyProof.Rows
/-- isinstance(e, c), e the suite's error, with a dict -/
def rIsD (K : PySem.W.Frag) (D a : Addr) (d : Option Addr) : List V → Hp → VK → Prop := fun xs H Q => ∃ (c : V) (cv : Value) (b : Bool) (dd : Addr) (fs : List (Str × V)), xs = [.ref a, c] ∧ (∀ u, RelV c u → u = cv) ∧ d = some dd ∧ H dd = some (.xd fs) ∧ PySem.W.kitOne K (.ref D) cv = some b ∧ Q (.bl b) H
theorem call_isD {X : Cx} {a D : Addr} {d : Option Addr} {oe : Obj} {pn : List (Addr × Obj)} {cls : Value} (C : ExcC X.K D) (hz : Zc cls d oe) (hf : ∃ vs, oe.data = .fields vs) :
    CallR (X.suite a ((a, oe) :: pn)) (.builtin "isinstance") (fun xs H Q => cls = .ref D ∧ rIsD X.K D a d xs H Q) := by
  intro pins s σ H xs us Q I r h
  obtain ⟨rfl, c, cv, b, dd, fs, rfl, hcv, rfl, ea, e, q⟩ := h
  cases r with
  | cons rx rr =>
  cases rr with
  | cons rt rr =>
  cases rr
  cases rx
  have ec := hcv _ rt
  subst ec
  obtain ⟨hget, _⟩ := I.pin (a, oe) (List.mem_append.mpr (.inl List.mem_cons_self))
  obtain ⟨vs, hv⟩ := hf
  obtain ⟨mA, hns, hr⟩ := (show ObjOk X.prog X.w H s.heap dd (.xd fs) from I.hok dd _ ea)
  obtain ⟨od, ho, _⟩ := lookIn_ns hns
  have J : PySem.W.InstAt s.heap a oe D (some od) := ⟨hget, hz.1, by unfold PySem.W.notCls; rw [hv] <;> rfl, by rw [hz.2]; exact ho⟩
  exact PySem.W.kia_one (EI.kit_exc C) I.kIn J e (fun z => nomatch z) fun tk => ⟨.bl b, H, I.kept (t' := tk) fun _ _ z => z, rfl, q⟩
end L2

set_option maxRecDepth 100000
set_option maxHeartbeats 4000000
namespace EF
open PySem PySem.W PySem.Calls PyProof.Rows He He5 HX
def clsB (K : Frag) (D : Addr) : Bool := eqO (findIn K (.ref D) "__class__") (some (some (.builtin "object.__class__"))) && (eqO (specialIn K (.builtin "object.__class__") "__get__") (some (some (.builtin "getset_descriptor.__get__"))) && (decide (takesIn K (.builtin "object.__class__") = some true) && decide (mroIn K D (.type "object") = some true)))
structure ClsT (K : Frag) (D : Addr) : Prop where
  ha : findIn K (.ref D) "__class__" = some (some (.builtin "object.__class__"))
  hn : specialIn K (.builtin "object.__class__") "__get__" = some (some (.builtin "getset_descriptor.__get__"))
  ht : takesIn K (.builtin "object.__class__") = some true
  hm : mroIn K D (.type "object") = some true
theorem cls_ok {K : Frag} {D : Addr} (h : clsB K D = true) : ClsT K D := by
  obtain ⟨h1, h⟩ := ba h
  obtain ⟨h2, h⟩ := ba h
  obtain ⟨h3, h4⟩ := ba h
  exact ⟨eqO_ok h1, eqO_ok h2, of_decide_eq_true h3, of_decide_eq_true h4⟩
/-- an error's class: its fields are read, isinstance asks it -/
def excB (K : Frag) (D : Addr) : Bool := L2.xfB K D && clsB K D
theorem exc_ok {K : Frag} {D : Addr} (h : excB K D = true) : L2.XfC K D ∧ L2.ExcC K D := by
  obtain ⟨h1, h2⟩ := ba h
  have x := L2.xfB_ok h1
  have c := cls_ok h2
  exact ⟨x, x.ga, x.gg, x.exC, x.hdC, c.ha, c.hn, c.ht, c.hm⟩
end EF

set_option maxRecDepth 100000
set_option maxHeartbeats 4000000
/-! # A classmethod with *numbers and a keyword: C.m(a, .., k = v) -/
namespace L2
open PySem PySem.Spec PyProof.Rows
abbrev SpS : Type := List V → List V → Hp → VK → XK → Prop
def FnS (P : Program) (w : World) (K : PySem.W.Frag) (mg : Str → Option Value) (base : Heap) (CX : CXT) (k : Nat) (f : Addr) (ks : List Str) (sp : SpS) : Prop :=
  ∀ (A : Around) (outer : List Env) (s : Shared) (H : Hp) (us ws : List Value) (vs zs : List V) (Q : VK) (E : XK), Room k A → Env0 P w K mg base A outer s H → Vals vs us → Vals zs ws → sp vs zs H Q E →
    codeAny (model P w) A (.call (.ref f) ⟨us, ks.zip ws⟩) (CR CX outer P w H s Q E) s
section
variable {X : Cx} {CX : CXT} {k : Nat} {C p g : Addr} {mc : Value} {sp : SpS} {E : XK} {o e : Expr} {es : List Expr} {kws : List Keyword} {ks : List Str} {f m : Str} {pos apos : Pos} {ta : TE} {t tk : TA} {pl : Sem Bool}
theorem run_cms {pins : List (Addr × Obj)} {σ : L2.St} {H : Hp} {s : Shared} {q : Addr} {Q : VK} {us ws : List Value} {vs zs : List V} (F : FnS X.prog X.w X.K X.mg X.base CX k g ks sp) (hr : Room k X.A) (hx : Passes CX X E) (I : Inv X ((q, PySem.W.methodObj (.ref g) (.ref C)) :: pins) σ H s)
    (r : Vals vs us) (rz : Vals zs ws) (h : sp (.ref C :: vs) zs H Q E) : wpAny (model X.prog X.w) X.A (call (.ref q) us (ks.zip ws)) (EP X pins σ Q) X.xe s := by
  have z : wpAny (model X.prog X.w) X.A (call (.ref q) us (ks.zip ws)) (EP X ((q, PySem.W.methodObj (.ref g) (.ref C)) :: pins) σ Q) X.xe s := by
    refine wpAny_call (PySem.W.method_call (ClX.pin_at I) ?_)
    refine codeAny_mono (F X.A X.stack s H (.ref C :: us) ws (.ref C :: vs) zs Q E hr I.env0 (.cons rfl r) rz h) fun r s' hq => ?_
    cases r with
    | error e => exact hx _ σ H s e s' I hq
    | ok fl =>
      cases fl with
      | ret u => exact I.after hq
      | next => exact False.elim hq
      | brk => exact False.elim hq
      | cont => exact False.elim hq
  exact thn z fun _ _ y => ClX.unpinE y
def tCms (C : Addr) (sp : SpS) (E : XK) (ta : TE) (t tk : TA) : TE := fun σ H Q => ta σ H fun x H1 => x = .ref C ∧ t σ H1 fun vs H2 => tk σ H2 fun zs H3 => sp (.ref C :: vs) zs H3 Q E
theorem pe_cms (he : PE X o ta) (r : ClX.CRead X.K C mc) (c : ClX.CMet X.K C mc m p g) (F : FnS X.prog X.w X.K X.mg X.base CX k g ks sp) (hr : Room k X.A) (hx : Passes CX X E) (ha : PA X (e :: es) t) (hk : PK X kws tk)
    (hst : starEach (e :: es) X.env = (false, eval e X.env) :: starEach es X.env := by rfl) (hall : (backToKw pos (keywordEach kws X.env)).all (·.1.isSome) = true := by rfl) (hks : (backToKw pos (keywordEach kws X.env)).filterMap (·.1) = ks := by rfl)
    (hpl : ((backTo pos (starEach (e :: es) X.env)).any (·.1) || (backToKw pos (keywordEach kws X.env)).any (·.1.isNone)) = false := by rfl)
    (ht : eval (.Call (.Attribute o m apos) (e :: es) kws pos) X.env = (do
      let ov ← eval o X.env
      standAt apos.atName
      let (f, first) ← holding [ov] (getMethod ov m pl)
      callWith pos f first (backTo pos (starEach (e :: es) X.env)) (backToKw pos (keywordEach kws X.env))) := by rfl) :
    PE X (.Call (.Attribute o m apos) (e :: es) kws pos) (tCms C sp E ta t tk) := by
  refine ⟨fun pins s σ H Q I h => ?_⟩
  refine PySem.W.methodCall_KW (pl := pl) (thn (he.run pins s σ H _ I h) fun u s1 ⟨x, H1, I1, rx, ex, q⟩ => ?_) ht
  subst ex
  obtain rfl : u = Value.ref C := rx
  refine ClX.getmethcm_ok I1 r c fun s2 I2 => ?_
  refine PySem.W.callWith_of (P := PySem.W.MethP X.K s1.heap.objs.size g (.ref C)) hpl (PySem.W.keeps_M c.fi) (evalArgs_kw2 hall (thn (ha.run pos _ s2 σ H1 _ I2 q) fun us s3 ⟨vs, H2, I3, rv, q2⟩ => ?_) hst)
  refine thn (hk.run pos _ s3 σ H2 _ I3 q2) fun ws s4 ⟨zs, H3, I4, rz, q3⟩ => ⟨⟨ClX.pin_at I4, I4.kIn⟩, ?_⟩
  rw [hks]
  exact run_cms F hr hx I4 rv rz q3
theorem pe_cms0 (he : PE X o ta) (r : ClX.CRead X.K C mc) (c : ClX.CMet X.K C mc m p g) (F : FnS X.prog X.w X.K X.mg X.base CX k g ks sp) (hr : Room k X.A) (hx : Passes CX X E) (hk : PK X kws tk)
    (hall : (backToKw pos (keywordEach kws X.env)).all (·.1.isSome) = true := by rfl) (hks : (backToKw pos (keywordEach kws X.env)).filterMap (·.1) = ks := by rfl)
    (hpl : ((backTo pos (starEach [] X.env)).any (·.1) || (backToKw pos (keywordEach kws X.env)).any (·.1.isNone)) = false := by rfl)
    (ht : eval (.Call (.Attribute o m apos) [] kws pos) X.env = (do
      let ov ← eval o X.env
      standAt apos.atName
      let (f, first) ← holding [ov] (getMethod ov m pl)
      callWith pos f first (backTo pos (starEach [] X.env)) (backToKw pos (keywordEach kws X.env))) := by rfl) :
    PE X (.Call (.Attribute o m apos) [] kws pos) (tCms C sp E ta tNil tk) := by
  refine ⟨fun pins s σ H Q I h => ?_⟩
  refine PySem.W.methodCall_KW (pl := pl) (thn (he.run pins s σ H _ I h) fun u s1 ⟨x, H1, I1, rx, ex, q⟩ => ?_) ht
  subst ex
  obtain rfl : u = Value.ref C := rx
  refine ClX.getmethcm_ok I1 r c fun s2 I2 => ?_
  refine PySem.W.callWith_of (P := PySem.W.MethP X.K s1.heap.objs.size g (.ref C)) hpl (PySem.W.keeps_M c.fi) (evalArgs_kw2_nil hall ?_)
  refine thn (hk.run pos _ s2 σ H1 _ I2 q) fun ws s4 ⟨zs, H3, I4, rz, q3⟩ => ⟨⟨ClX.pin_at I4, I4.kIn⟩, ?_⟩
  rw [hks]
  exact run_cms (us := []) F hr hx I4 .nil rz q3
end
/-! ### def m(cls, *pv, kx=default) -/
section
variable {P : Program} {w : World} {K : PySem.W.Frag} {mg : Str → Option Value} {base : Heap} {CX : CXT} {k : Nat} {f : Addr} {x qual p1 kx pv : Str} {params : Arguments} {body : List Stmt} {scope : Scope} {N : List Str} {fd : FuncData} {dv : V} {sp : Sp}
theorem fnS_star1 (F : FunD K x qual params body scope [] [(kx, dv)] f fd) (S : FnScope N [p1, kx, pv] scope) (hCX : StX.CXUp CX)
    (hb : ∀ (kV doc pm : Value) (an : Option Addr) (cdv ct : Value) (c v : Value) (rest : List Value), bindArgs (PySem.W.fnOf x qual params body scope .none kV doc pm an cdv ct) ⟨c :: rest, [(kx, v)]⟩ = (newTuple rest >>= fun t => pure [(p1, c), (kx, v), (pv, t)]))
    (hbody : ∀ (cdv : Value) (A : Around) (outer : List Env) (s : Shared) (H : Hp) (vs : List V) (Q : VK) (E : XK), Room k (A.deeper (envOfC qual scope s.heap.objs.size f cdv)) → sp vs H Q E →
      ∃ t, PSs (cxOf CX P w K mg base N qual scope f cdv A outer s H E) body t ∧ t { nx := fun _ H' => Q .non H', rt := Q } (start N vs) H) :
    FnS P w K mg base CX (k + 1) f [kx] (fun vs zs H Q E => ∃ c rest v, vs = c :: rest ∧ zs = [v] ∧ rest.length ≤ sizeLine ∧ ∀ p, H p = Option.none → sp [c, v, V.ref p] (upd H p (.tup rest)) Q E) := by
  intro A outer s H us ws vs zs Q E hr e0 r rz hsp
  obtain ⟨c, rest, v, rfl, rfl, hz, hq⟩ := hsp
  obtain ⟨oc, od, dV, kV, doc, pm, an, cdv, ct, osl, rfl, lk, hcd, hD, _⟩ := F.ex
  have e : dV = .none := by
    rcases hD with ⟨_, e⟩ | ⟨e, _⟩
    · exact e
    · exact absurd rfl e
  subst e
  cases r with
  | cons rc rr =>
  rename_i uc ur
  cases rz with
  | cons rv rn =>
  cases rn
  rename_i uv
  have hn : H s.heap.objs.size = Option.none := e0.hok.fresh (Nat.le_refl _)
  have hl2 : ur.length ≤ sizeLine := by rw [← rr.length]; exact hz
  refine StX.run_bnd lk hcd S hr e0 (G := fun xs H2 => ∃ p, H p = Option.none ∧ xs = [c, v, V.ref p] ∧ H2 = upd H p (.tup rest)) (fun A' Ex Q' h => ?_) fun s2 H2 xs ⟨p, hp, ex, eH⟩ hr' => ?_
  · rw [show ([kx].zip [uv] : List (Str × Value)) = [(kx, uv)] from rfl, hb kV doc pm an cdv ct uc uv ur]
    refine wpAny_bind (wpAny_newTuple (wpAny_pure ?_) hl2)
    have new : ObjOk P w (upd H s.heap.objs.size (.tup rest)) (s.heap.push ({ cls := .type "tuple", data := .seq ur.toArray } : Obj)) s.heap.objs.size (.tup rest) := ⟨hz, ur, rr, ⟨_, Heap.get?_push_size _ rfl, rfl, _, rfl⟩⟩
    have un := StX.un_laid (fs := frs outer) (s := s) (o := ({ cls := .type "tuple", data := .seq ur.toArray } : Obj)) (u := .tup rest) hn
    exact h _ _ [c, v, V.ref s.heap.objs.size] [uc, uv, Value.ref s.heap.objs.size] (StX.env0_laid e0 new) un rfl (fun e s' => hCX outer s H _ _ E e s' un (fun b o q => Heap.get?_push_of_some _ q) rfl) (.cons rc (.cons rv (.cons rfl .nil))) rfl ⟨_, hn, rfl, rfl⟩
  · subst ex eH
    exact hbody cdv A outer s2 _ _ Q E hr' (hq p hp)
theorem fnS_star0 (F : FunD K x qual params body scope [] [(kx, dv)] f fd) (S : FnScope N [p1, kx, pv] scope) (hCX : StX.CXUp CX)
    (hb : ∀ (D : Addr) (doc pm : Value) (an : Option Addr) (cdv ct : Value) (c v : Value) (rest : List Value), ∃ (β γ : Type) (k1 : Option Value → Sem β) (k2 : β → Sem γ) (k3 : γ → Sem (List (Str × Value))) (a : β),
      bindArgs (PySem.W.fnOf x qual params body scope .none (.ref D) doc pm an cdv ct) ⟨c :: rest, []⟩ = ((nsGet D kx >>= k1) >>= k2) >>= k3 ∧ k1 (some v) = pure a ∧ (k2 a >>= k3) = (newTuple rest >>= fun t => pure [(p1, c), (kx, v), (pv, t)]))
    (hbody : ∀ (cdv : Value) (A : Around) (outer : List Env) (s : Shared) (H : Hp) (vs : List V) (Q : VK) (E : XK), Room k (A.deeper (envOfC qual scope s.heap.objs.size f cdv)) → sp vs H Q E →
      ∃ t, PSs (cxOf CX P w K mg base N qual scope f cdv A outer s H E) body t ∧ t { nx := fun _ H' => Q .non H', rt := Q } (start N vs) H) :
    FnS P w K mg base CX (k + 1) f [] (fun vs zs H Q E => ∃ c rest, vs = c :: rest ∧ zs = [] ∧ rest.length ≤ sizeLine ∧ ∀ p, H p = Option.none → sp [c, dv, V.ref p] (upd H p (.tup rest)) Q E) := by
  intro A outer s H us ws vs zs Q E hr e0 r rz hsp
  obtain ⟨c, rest, rfl, rfl, hz, hq⟩ := hsp
  obtain ⟨oc, od, dV, kV, doc, pm, an, cdv, ct, osl, rfl, lk, hcd, hD, hK⟩ := F.ex
  have e : dV = .none := by
    rcases hD with ⟨_, e⟩ | ⟨e, _⟩
    · exact e
    · exact absurd rfl e
  subst e
  rcases hK with e | ⟨D, rfl, hq0⟩
  · cases e
  obtain ⟨uv, hns, rv⟩ := hq0 (kx, dv) (List.mem_singleton.mpr rfl)
  cases rz
  cases r with
  | cons rc rr =>
  rename_i uc ur
  have hn : H s.heap.objs.size = Option.none := e0.hok.fresh (Nat.le_refl _)
  have hl2 : ur.length ≤ sizeLine := by rw [← rr.length]; exact hz
  have KX : K.In s.heap := e0.mod.kin.keeps fun b o e => (e0.bs b o e).1
  refine StX.run_bnd lk hcd S hr e0 (G := fun xs H2 => ∃ p, H p = Option.none ∧ xs = [c, dv, V.ref p] ∧ H2 = upd H p (.tup rest)) (fun A' Ex Q' h => ?_) fun s2 H2 xs ⟨p, hp, ex, eH⟩ hr' => ?_
  · obtain ⟨β, γ, k1, k2, k3, a, e1, e2, e3⟩ := hb D doc pm an cdv ct uc uv ur
    rw [show (([] : List Str).zip ([] : List Value)) = [] from rfl, e1, bind_assoc]
    refine wpAny_bind (wpAny_bind ((PySem.W.looks_nsIn KX hns).here ?_))
    rw [e2]
    refine wpAny_pure ?_
    rw [e3]
    refine wpAny_bind (wpAny_newTuple (wpAny_pure ?_) hl2)
    have new : ObjOk P w (upd H s.heap.objs.size (.tup rest)) (s.heap.push ({ cls := .type "tuple", data := .seq ur.toArray } : Obj)) s.heap.objs.size (.tup rest) := ⟨hz, ur, rr, ⟨_, Heap.get?_push_size _ rfl, rfl, _, rfl⟩⟩
    have un := StX.un_laid (fs := frs outer) (s := s) (o := ({ cls := .type "tuple", data := .seq ur.toArray } : Obj)) (u := .tup rest) hn
    exact h _ _ [c, dv, V.ref s.heap.objs.size] [uc, uv, Value.ref s.heap.objs.size] (StX.env0_laid e0 new) un rfl (fun e s' => hCX outer s H _ _ E e s' un (fun b o q => Heap.get?_push_of_some _ q) rfl) (.cons rc (.cons rv (.cons rfl .nil))) rfl ⟨_, hn, rfl, rfl⟩
  · subst ex eH
    exact hbody cdv A outer s2 _ _ Q E hr' (hq p hp)
end
end L2

set_option maxRecDepth 100000
set_option maxHeartbeats 4000000
namespace L2
open PySem PySem.Spec PyProof.Rows
/-- cls(e, ..), cls a local name that holds the class at C -/
def tMakeL (i : Nat) (C : Addr) (sp : Sp) (E : XK) (t : TA) : TE := fun σ H Q => σ[i]? = some (some (.ref C)) ∧ tMake C sp [] E t σ H Q
section
variable {X : Cx} {CX : CXT} {k i : Nat} {f C : Addr} {ps : List Str} {sp : Sp} {E : XK} {x : Str} {p pos : Pos} {e : Expr} {es : List Expr} {t : TA}
theorem pmkL (O : Ok X.prog X.w X.K X.mg X.base CX k f ps sp) (M : Mk X.K C f) (hr : Room (k + 1) X.A) (hN : X.N[i]? = some x) (hv : Vis X.env.scope x) (hx : Passes CX X E) (ha : PA X (e :: es) t) (hdb : (x == ("__debug__" : Str)) = false := by decide)  (hcd : (x == ("__classdict__" : Str)) = false := by decide)
    (he : starEach (e :: es) X.env = (false, eval e X.env) :: starEach es X.env := by rfl) (hpl : (backTo pos (starEach es X.env)).any (·.1) = false := by rfl) :
    PE X (.Call (.Name x p) (e :: es) [] pos) (tMakeL i C sp E t) := by
  obtain ⟨fd, F, hb, _⟩ := O.ex
  refine ⟨fun pins s σ H Q I h => ?_⟩
  obtain ⟨hs, h⟩ := h
  refine wpAny_Call_Name_kw (thn ((pe_var (pos := p) hN hv hdb hcd).run pins s σ H (fun v H1 => v = .ref C ∧ H1 = H) I ⟨.ref C, hs, rfl, rfl⟩) fun u s1 ⟨v, H1, I1, r1, q1⟩ => ?_)
  obtain ⟨rfl, rfl⟩ := q1
  cases r1
  refine PySem.W.callWith_K (h₀ := X.base) I.ok.mod.kin M.kp (thn (ha.run pos pins s1 σ _ _ I1 h) fun us s2 ⟨vs, H2, I2, r, q⟩ => ⟨I2.kIn, ?_⟩) he hpl
  exact run_make M F hr hb .nil hx I2 r q
end
end L2

set_option maxRecDepth 100000
set_option maxHeartbeats 4000000
/-! # calls and own operators in a try's body -/
namespace L2
open PySem PySem.Spec PyProof.Rows
section
variable {X : Cx} {CX : CXT} {k : Nat} {f C : Addr} {ps : List Str} {sp : Sp} {E : St → XK} {x : Str} {p pos : Pos} {e a b : Expr} {es : List Expr} {ta tb : TE} {t : TA} {op : Operator}
theorem pcS (O : Ok X.prog X.w X.K X.mg X.base CX k f ps sp) (hr : Room k X.A) (hm : X.mg x = some (.ref f)) (hx : ∀ σ, PassesAt CX X σ (E σ)) (ha : PA X (e :: es) t) (hg : Gl X x := by rfl) (hdb : (x == ("__debug__" : Str)) = false := by decide)
    (he : starEach (e :: es) X.env = (false, eval e X.env) :: starEach es X.env := by rfl) (hpl : (backTo pos (starEach es X.env)).any (·.1) = false := by rfl) :
    PE X (.Call (.Name x p) (e :: es) [] pos) (tCallS sp E t) := let ⟨fd, a, b, c⟩ := O.ex; pe_callS a hr hg hm c b hx ha hdb he hpl
/-- a op n in a try's body -/
def tOwnIS (C : Addr) (sp : Sp) (E : St → XK) (ta tb : TE) : TE := fun σ H Q => ta σ H fun x H1 => tb σ H1 fun y H2 => rOwnOpI C sp (E σ) x y H2 Q
theorem peOwnIS (O : Ok X.prog X.w X.K X.mg X.base CX k f ps sp) (W : OwnOpT X.K C op f "int") (hr : Room k X.A) (hx : ∀ σ, PassesAt CX X σ (E σ)) (ha : PE X a ta) (hb : PE X b tb) : PE X (.BinOp a op b pos) (tOwnIS C sp E ta tb) := by
  obtain ⟨fd, F, bn, _⟩ := O.ex
  refine ⟨fun pins s σ H Q I h => wpAny_BinOp (binT ha hb I h fun v u s2 x y H2 I2 rx ry q => ?_)⟩
  obtain ⟨a, dx, fs, n, rfl, rfl, ha, hsp⟩ := q
  cases rx
  obtain ⟨t, rfl⟩ := ry
  obtain ⟨od, J⟩ := inst_of I2.hok ha
  obtain ⟨m, hF⟩ := I2.fr
  obtain ⟨rc, h1, h2⟩ := W.rev
  obtain ⟨fo, h3⟩ := W.tf
  obtain ⟨ro, h4⟩ := W.tr
  refine PySem.W.ksp_binT (T := "int") hF I2.ok.mod.kin J rfl W.first W.at_ W.fn h1 h2 h3 h4 W.sub (wpAny_mono (run_fnS F hr bn (hx σ) I2 (us := [.ref a, .int n t]) (vs := [.ref a, .int n]) (.cons rfl (.cons ⟨t, rfl⟩ .nil)) hsp) (fun r s' q => back_of q) fun _ _ z => z)
end
end L2

set_option maxRecDepth 100000
set_option maxHeartbeats 4000000
/-! # Words of every law: all but the pool, data that are alike, errors that are due -/
namespace L2
open PySem PySem.Spec PyProof.Rows
/-- all but p is as it was -/
def But (p : Addr) (H H' : Hp) : Prop := ∀ b o, b ≠ p → H b = some o → H' b = some o
theorem But.refl (p : Addr) (H : Hp) : But p H H := fun _ _ _ h => h
theorem But.trans {p : Addr} {H H1 H2 : Hp} (a : But p H H1) (b : But p H1 H2) : But p H H2 := fun c o n h => b c o n (a c o n h)
theorem But.set {p : Addr} {H : Hp} {o : HO} : But p H (upd H p o) := fun b u n h => by rw [upd_ne n]; exact h
theorem But.of {p : Addr} {H H' : Hp} (s : Same H H') : But p H H' := fun b o _ h => s b o h
theorem But.sqL {K : PySem.W.Frag} {p a : Addr} {H H' : Hp} {xs : List V} (s : But p H H') (n : a ≠ p) (h : SqL K H a xs) : SqL K H' a xs := by
  rcases h with (h | ⟨o, h⟩) | h
  · exact .inl (.inl (s _ _ n h))
  · exact .inl (.inr ⟨o, s _ _ n h⟩)
  · exact .inr h
theorem yesT {A B : Hp → Prop} {σ : St} {H : Hp} (h : A H) : tYes σ H (fun b H3 => if b = true then A H3 else B H3) := by
  show (if true = true then A H else B H)
  exact iteT h
theorem nope {b : Bool} {A B : Prop} (h : b = false) (k : B) : if b = true then A else B := by
  rw [h]; exact iteF k
theorem yep {b : Bool} {A B : Prop} (h : b = true) (k : A) : if b = true then A else B := by
  rw [h]; exact iteT k
theorem SqT.ty {K : PySem.W.Frag} {H : Hp} {a : Addr} {xs : List V} (h : SqT K H a xs) : TyX K H (.ref a) (.type "tuple") := by
  rcases h with (h | ⟨o, h⟩) | ⟨o, its, n, h, c, _⟩
  · exact .base (.tup h)
  · exact .fTuple h
  · exact .kTuple h c
theorem SqL.ty {K : PySem.W.Frag} {H : Hp} {a : Addr} {xs : List V} (h : SqL K H a xs) : TyX K H (.ref a) (.type "list") := by
  rcases h with (h | ⟨o, h⟩) | ⟨o, its, n, h, c, _⟩
  · exact .base (.lst h)
  · exact .base (.frz h)
  · exact .kList h c
/-- None, a bool, a number, a text -/
inductive Atom : V → Prop where
  | non : Atom .non
  | bl (b : Bool) : Atom (.bl b)
  | int (i : Int) : Atom (.int i)
  | str (z : Str) : Atom (.str z)
/-- x and y are the same data, at most n deep -/
def Eqd (K : PySem.W.Frag) : Nat → Hp → V → V → Prop
  | 0, _, x, y => x = y ∧ Atom x
  | n + 1, H, x, y => (x = y ∧ Atom x) ∨ (∃ a b xs ys, x = .ref a ∧ y = .ref b ∧ ((SqT K H a xs ∧ SqT K H b ys) ∨ (SqL K H a xs ∧ SqL K H b ys)) ∧ xs.length = ys.length ∧ xs.length ≤ sizeLine ∧ ∀ (i : Nat) (u v : V), xs[i]? = some u → ys[i]? = some v → Eqd K n H u v)
theorem Eqd.atom {K : PySem.W.Frag} {n : Nat} {H : Hp} {x : V} (h : Atom x) : Eqd K n H x x := by
  cases n with
  | zero => exact ⟨rfl, h⟩
  | succ n => exact .inl ⟨rfl, h⟩
theorem Eqd.same {K : PySem.W.Frag} : ∀ {n : Nat} {H H' : Hp} {x y : V}, Eqd K n H x y → Same H H' → Eqd K n H' x y := by
  intro n
  induction n with
  | zero => intro H H' x y h _; exact h
  | succ n ih =>
    intro H H' x y h s
    rcases h with h | ⟨a, b, xs, ys, e1, e2, h, hl, hz, hi⟩
    · exact .inl h
    · exact .inr ⟨a, b, xs, ys, e1, e2, h.imp (fun z => ⟨s.seqT z.1, s.seqT z.2⟩) (fun z => ⟨s.seq z.1, s.seq z.2⟩), hl, hz, fun i u v h1 h2 => ih (hi i u v h1 h2) s⟩
theorem Eqd.ints {K : PySem.W.Frag} {n : Nat} {H : Hp} {ns : List Int} : ∀ (i : Nat) (u v : V), (ns.map V.int)[i]? = some u → (ns.map V.int)[i]? = some v → Eqd K n H u v := fun i u v h1 h2 => by
  obtain ⟨x, _, rfl⟩ := map_get h1
  rw [h1] at h2
  cases h2
  exact .atom (.int x)
theorem But.fresh {p : Addr} {o : HO} {H H' : Hp} (hn : H p = none) (bt : But p (upd H p o) H') : Same H H' := fun b u e => by
  have nb : b ≠ p := fun z => by rw [z, hn] at e; cases e
  exact bt b u nb (by rw [upd_ne nb]; exact e)
theorem But.seqT {K : PySem.W.Frag} {p a : Addr} {H H' : Hp} {xs ps : List V} (s : But p H H') (hp : H p = some (.lst ps)) (h : SqT K H a xs) : SqT K H' a xs := by
  rcases h with (h | ⟨o, h⟩) | h
  · exact .inl (.inl (s _ _ (fun z => by rw [z, hp] at h; cases h) h))
  · exact .inl (.inr ⟨o, s _ _ (fun z => by rw [z, hp] at h; cases h) h⟩)
  · exact .inr h
/-- an error of class C with the dict o is raised over a heap that has grown -/
def Rs (C : Addr) (o : HO) (H : Hp) (E : XK) : Prop := ∀ H' d, Same H H' → H' d = none → E (.ref C) (some d) (upd H' d o)
theorem Rs.now {C : Addr} {o : HO} {H : Hp} {E : XK} (h : Rs C o H E) (d : Addr) (hd : H d = none) : E (.ref C) (some d) (upd H d o) := h H d (.refl _) hd
theorem Rs.same {C : Addr} {o : HO} {H H' : Hp} {E : XK} (h : Rs C o H E) (s : Same H H') : Rs C o H' E := fun H2 d s2 hd => h H2 d (s.trans s2) hd
theorem passF {X : Cx} : Passes (L2.CX X.prog X.w) X (fun _ _ _ => False) := passes_call takes0 (fun _ _ _ _ h => h)
theorem sL {n : Nat} (h : n ≤ 1000) : n ≤ sizeLine := by rw [sizeLine_eq]; omega
theorem Eqd.row {K : PySem.W.Frag} {n : Nat} {H : Hp} {a b : Addr} {ns : List Int} (h : (SqT K H a (ns.map V.int) ∧ SqT K H b (ns.map V.int)) ∨ (SqL K H a (ns.map V.int) ∧ SqL K H b (ns.map V.int))) (l : ns.length ≤ 1000) : Eqd K (n + 1) H (.ref a) (.ref b) :=
  .inr ⟨a, b, _, _, rfl, rfl, h, rfl, by rw [List.length_map]; exact sL l, Eqd.ints⟩
theorem mod_lt {a m : Int} (h : 0 < m) : 0 ≤ a.fmod m ∧ a.fmod m < m := by
  rw [Int.fmod_eq_emod_of_nonneg a (by omega)]
  exact ⟨Int.emod_nonneg _ (by omega), Int.emod_lt_of_pos _ h⟩
/-- a law's pool of draws -/
def PoolOk (st : List V) : Prop := ∃ a b c : Int, st = [.int a, .int b, .int c] ∧ 0 ≤ b ∧ b < 2147483648
end L2

set_option maxRecDepth 100000
set_option maxHeartbeats 4000000
/-! # len(obj) of an own class -/
namespace L2
open PySem PySem.Spec PyProof.Rows
section
variable {X : Cx} {CX : CXT} {C f : Addr} {ps : List Str} {sp : Sp} {E : XK} {k : Nat}
/-- len(a), a of a class with __len__, which gives a number below 2 ^ 62 -/
def rOwnLenW (C : Addr) (sp : Sp) (E : XK) : List V → Hp → VK → Prop := fun xs H Q => ∃ a dx fs, xs = [.ref a] ∧ H a = some (.ins C dx fs) ∧ sp [.ref a] H (fun v H' => ∃ n : Nat, v = .int (n : Nat) ∧ n < 2 ^ 62 ∧ Q v H') E
theorem cLen (O : Ok X.prog X.w X.K X.mg X.base CX k f ps sp) (W : PySem.W.findIn X.K (.ref C) "__len__" = some (some (.ref f)) ∧ PySem.W.isFn X.K (.ref f) = true) (hr : Room (k + 1) X.A) (hx : Passes CX X E) : CallR X (.builtin "len") (rOwnLenW C sp E) := by
  obtain ⟨fd, F, hb, _⟩ := O.ex
  intro pins s σ H xs us Q I r h
  obtain ⟨a, dx, fs, rfl, ha, hsp⟩ := h
  cases r with
  | cons r rr =>
  cases rr
  cases r
  obtain ⟨od, J⟩ := inst_of I.hok ha
  obtain ⟨m, hF⟩ := I.fr
  refine PySem.W.len_K hF I.ok.mod.kin J W.1 W.2 (wpAny_mono (run_fnA F hb hr.in1 I.env0.in1 hx I (us := [.ref a]) (vs := [.ref a]) (.cons rfl .nil) hsp) (fun v s' q => ?_) fun _ _ z => z)
  obtain ⟨x, H', I', rx, n, rfl, hn, q⟩ := q
  obtain ⟨t, rfl⟩ := rx
  exact ⟨⟨by omega, by omega⟩, .int (n : Nat), H', I'.tok _, ⟨_, rfl⟩, q⟩
/-- a def called within a built-in's call, in a try's body -/
theorem run_fnAS {E : St → XK} {fd : FuncData} {A : Around} {pins : List (Addr × Obj)} {σ : St} {H : Hp} {s : Shared} {Q : VK} {us : List Value} {vs : List V} (F : FnOk X.prog X.w X.K X.mg X.base CX k f fd ps sp) (hb : Binds X.K fd ps []) (hr : Room k A) (e0 : Env0 X.prog X.w X.K X.mg X.base A X.stack s H) (hx : PassesAt CX X σ (E σ))
    (I : Inv X pins σ H s) (r : Vals vs us) (h : sp vs H Q (E σ)) : wpAny (model X.prog X.w) A (call (.ref f) us) (EP X pins σ Q) X.xe s := by
  have hl : us.length = ps.length := r.length.symm.trans (F.len _ _ _ _ h)
  have B : BindsTo s fd ⟨us, []⟩ (ps.zip us) := by
    have := hb s us I.kIn (by rw [List.append_nil]; exact hl)
    rwa [List.append_nil] at this
  refine wpAny_call (codeAny_mono (F.run A X.stack s H ⟨us, []⟩ us vs Q (E σ) hr e0 B r h) fun r s' hq => ?_)
  cases r with
  | error e => exact hx pins H s e s' I hq
  | ok fl =>
    cases fl with
    | ret u => exact I.after hq
    | next => exact hq.elim
    | brk => exact hq.elim
    | cont => exact hq.elim
/-- a[i], a of a class with __getitem__, i a number; E may hang on the slots (a try's body) -/
def tOwnIx (C : Addr) (sp : Sp) (E : St → XK) (ta tb : TE) : TE := fun σ H Q => ta σ H fun x H1 => tb σ H1 fun y H2 => ∃ p dx fs i, x = .ref p ∧ y = .int i ∧ H2 p = some (.ins C dx fs) ∧ sp [.ref p, .int i] H2 Q (E σ)
structure OwnIx (K : PySem.W.Frag) (C f : Addr) : Prop where
  at_ : PySem.W.findIn K (.ref C) "__getitem__" = some (some (.ref f))
  fi : PySem.W.fnIn K f = true
  fn : PySem.W.isFn K (.ref f) = true
theorem peOwnIx {E : St → XK} {a b : Expr} {ta tb : TE} {pos : Pos} (O : Ok X.prog X.w X.K X.mg X.base CX k f ps sp) (W : OwnIx X.K C f) (hr : Room (k + 1) X.A) (hx : ∀ σ, PassesAt CX X σ (E σ)) (ha : PE X a ta) (hb : PE X b tb)
    (hsl : ∀ (p : Addr) (i : Value), subscripted b true (.ref p) i = runValue (.builtin "lifetime.subscript" ⟨[.ref p, i], []⟩) := by intro _ _; with_unfolding_all rfl) : PE X (.Subscript a b pos) (tOwnIx C sp E ta tb) := by
  obtain ⟨fd, F, bn, _⟩ := O.ex
  refine ⟨fun pins s σ H Q I h => Subscript_ (binT ha hb I h fun v u s2 x y H2 I2 rx ry q => ?_)⟩
  obtain ⟨p, dx, fs, i, rfl, rfl, hp, hsp⟩ := q
  cases rx
  obtain ⟨t, rfl⟩ := ry
  obtain ⟨od, J⟩ := inst_of I2.hok hp
  obtain ⟨m, hF⟩ := I2.fr
  exact PySem.W.sub_K hF I2.ok.mod.kin J W.at_ W.fi W.fn (run_fnAS F bn hr.in1 I2.env0.in1 (hx σ) I2 (us := [.ref p, .int i t]) (vs := [.ref p, .int i]) (.cons rfl (.cons ⟨t, rfl⟩ .nil)) hsp) (hsl p _)
/-- outside a try -/
theorem atP {E : XK} (h : Passes CX X E) : ∀ σ : St, PassesAt CX X σ E := fun σ pins H s e s' I c => h pins σ H s e s' I c
end
end L2

set_option maxRecDepth 100000
set_option maxHeartbeats 4000000
/-! # obj == x, obj < x: an own class's comparison with a value of any of four kinds -/
namespace L2
open PySem PySem.Spec PyProof.Rows
/-- what the right side may be, and its type -/
inductive CmpTy (K : PySem.W.Frag) (H : Hp) : V → Value → Prop
  | int (n : Int) : CmpTy K H (.int n) (.type "int")
  | lst {a : Addr} {xs : List V} (h : SqL K H a xs) : CmpTy K H (.ref a) (.type "list")
  | tup {a : Addr} {xs : List V} (h : SqT K H a xs) : CmpTy K H (.ref a) (.type "tuple")
  | own {a C dx : Addr} {fs : List (Str × V)} (h : H a = some (.ins C dx fs)) : CmpTy K H (.ref a) (.ref C)
theorem CmpTy.looks {X : Cx} {pins : List (Addr × Obj)} {σ : St} {H : Hp} {s : Shared} {y : V} {u tb : Value} (I : Inv X pins σ H s) (c : CmpTy X.K H y tb) (r : RelV y u) : PySem.W.Looks (model X.prog X.w) s.heap (typeOf u) tb := by
  cases c with
  | int n => obtain ⟨t, rfl⟩ := r; exact PySem.W.Looks.of_pure rfl
  | lst h =>
    cases r
    obtain ⟨its, _, p, _⟩ := I.list h
    obtain ⟨o, ho, hc, _⟩ := p.isList
    exact fun A Q E s' k q => wpAny_typeOf_ref (k _ _ ho) (by rw [hc]; exact q)
  | tup h =>
    cases r
    obtain ⟨its, _, ⟨o, ho, hc, _⟩, _⟩ := I.tuple h
    exact fun A Q E s' k q => wpAny_typeOf_ref (k _ _ ho) (by rw [hc]; exact q)
  | own h =>
    cases r
    obtain ⟨od, J⟩ := inst_of I.hok h
    exact J.type
/-- a op y, a of the class at C, whose def for op is at f -/
structure OwnCmp (K : PySem.W.Frag) (C : Addr) (op : CmpOp) (f : Addr) (tb : Value) : Prop where
  at_ : PySem.W.findIn K (.ref C) (cmpInfo op).2.1 = some (some (.ref f))
  fn : PySem.W.isFn K (.ref f) = true
  nf : PySem.W.notFirst K C tb = true
def rOwnCmp (K : PySem.W.Frag) (C : Addr) (tb : Value) (sp : Sp) (E : XK) : R2 := fun x y H Q => ∃ a dx fs, x = .ref a ∧ H a = some (.ins C dx fs) ∧ CmpTy K H y tb ∧ sp [.ref a, y] H Q E
section
variable {X : Cx} {CX : CXT} {C f : Addr} {ps : List Str} {sp : Sp} {E : XK} {k : Nat}
theorem oCmp {op : CmpOp} {tb : Value} (hop : ∀ a b, compareOp op a b = richCompare op a b) (O : Ok X.prog X.w X.K X.mg X.base CX k f ps sp) (W : OwnCmp X.K C op f tb) (hr : Room k X.A) (hx : Passes CX X E) : OpR X (compareOp op) (rOwnCmp X.K C tb sp E) := by
  obtain ⟨fd, F, hb, _⟩ := O.ex
  intro pins s σ H x y v u Q I rx ry h
  obtain ⟨a, dx, fs, rfl, ha, ct, hsp⟩ := h
  cases rx
  obtain ⟨od, J⟩ := inst_of I.hok ha
  obtain ⟨m, hF⟩ := I.fr
  rw [hop]
  exact PySem.W.cmp_K (op := op) hr.units0 hF I.ok.mod.kin J (ct.looks I ry) W.nf W.at_ W.fn (wpAny_mono (run_fn F hr hb .nil hx I (us := [.ref a, u]) (vs := [.ref a, y]) (.cons rfl (.cons ry .nil)) hsp) (fun r s' q => back_of q) fun _ _ z => z)
/-- xs[i] as it is read in xs[i] += n, 0 ≤ i -/
def gIxL (K : PySem.W.Frag) : V → V → Hp → VK → Prop := fun o i H Q => ∃ p xs j v, o = .ref p ∧ i = .int ((j : Nat) : Int) ∧ SqL K H p xs ∧ xs[j]? = some v ∧ Q v H
theorem get_list : PGet X (gIxL X.K) := by
  intro pins s σ H o i ov iv Q I ro ri h
  obtain ⟨p, xs, j, v, rfl, rfl, hp, hj, q⟩ := h
  cases ro
  obtain ⟨t, rfl⟩ := ri
  obtain ⟨its, r, pl, hz⟩ := I.list hp
  obtain ⟨w, ew, rw'⟩ := r.get hj
  have hl := r.length
  have lt : j < xs.length := (List.getElem?_eq_some_iff.mp hj).1
  have hn := line63
  exact wpAny_getItem_list pl.isList (by omega) (by omega) (by rw [Int.toNat_natCast]; simpa using ew) ⟨v, H, I, rw', q⟩
end
end L2

set_option maxRecDepth 100000
set_option maxHeartbeats 4000000
namespace FC
open PySem PySem.W PySem.Calls PyProof.Rows He He5 HX
def cmpB (K : Frag) (C : Addr) (op : CmpOp) (f : Addr) (tb : Value) : Bool := eqO (findIn K (.ref C) (cmpInfo op).2.1) (some (some (.ref f))) && (isFn K (.ref f) && notFirst K C tb)
theorem cmp_ok {K : Frag} {C f : Addr} {op : CmpOp} {tb : Value} (h : cmpB K C op f tb = true) : L2.OwnCmp K C op f tb := by
  obtain ⟨h1, h⟩ := ba h
  obtain ⟨h2, h3⟩ := ba h
  exact ⟨eqO_ok h1, h2, h3⟩
def ixB (K : Frag) (C f : Addr) : Bool := eqO (findIn K (.ref C) "__getitem__") (some (some (.ref f))) && (fnIn K f && isFn K (.ref f))
theorem ix_ok {K : Frag} {C f : Addr} (h : ixB K C f = true) : L2.OwnIx K C f := by
  obtain ⟨h1, h⟩ := ba h
  obtain ⟨h2, h3⟩ := ba h
  exact ⟨eqO_ok h1, h2, h3⟩
end FC

set_option maxRecDepth 100000
set_option maxHeartbeats 4000000
/-! # obj.m(e, .., k = v) -/
namespace L2
open PySem PySem.Spec PyProof.Rows
def tMethN (C : Addr) (m : Str) (n mm : Nat) (sp : Sp) (gV : List V → List V → List V) (E : XK) (ta : TE) (t tk : TA) : TE := fun σ H Q => ta σ H fun x H1 => ∃ a dx fs, x = .ref a ∧ H1 a = some (.ins C dx fs) ∧ fs.lookup m = none ∧
  t σ H1 fun vs H2 => tk σ H2 fun zs H3 => vs.length = n ∧ zs.length = mm ∧ sp (gV (.ref a :: vs) zs) H3 Q E
theorem pe_methN {X : Cx} {CX : CXT} {k n : Nat} {f C : Addr} {fd : FuncData} {ps ks : List Str} {sp : Sp} {E : XK} {m : Str} {o e : Expr} {es : List Expr} {kws : List Keyword} {ta : TE} {t tk : TA} {apos pos : Pos} {pl : Sem Bool} {g : List Value → List Value → List Value} {gV : List V → List V → List V}
    (he : PE X o ta) (c : Cls X.K C) (hm : Meth X.K C m f) (F : FnOk X.prog X.w X.K X.mg X.base CX k f fd ps sp) (hr : Room k X.A) (hb : KBn X.K fd ps (n + 1) ks g gV) (hx : Passes CX X E) (ha : PA X (e :: es) t) (hkw : PK X kws tk)
    (hall : (backToKw pos (keywordEach kws X.env)).all (·.1.isSome) = true := by rfl) (hks : (backToKw pos (keywordEach kws X.env)).filterMap (·.1) = ks := by rfl)
    (hst : starEach (e :: es) X.env = (false, eval e X.env) :: starEach es X.env := by rfl) (hpl : ((backTo pos (starEach (e :: es) X.env)).any (·.1) || (backToKw pos (keywordEach kws X.env)).any (·.1.isNone)) = false := by rfl)
    (ht : eval (.Call (.Attribute o m apos) (e :: es) kws pos) X.env = (do
      let ov ← eval o X.env
      standAt apos.atName
      let (f, first) ← holding [ov] (getMethod ov m pl)
      callWith pos f first (backTo pos (starEach (e :: es) X.env)) (backToKw pos (keywordEach kws X.env))) := by rfl) :
    PE X (.Call (.Attribute o m apos) (e :: es) kws pos) (tMethN C m n ks.length sp gV E ta t tk) := by
  refine ⟨fun pins s σ H Q I h => ?_⟩
  refine PySem.W.methodCall_KW (pl := pl) (thn (he.run pins s σ H _ I h) fun u s1 ⟨x, H1, I1, rx, a, dx, fs, ex, ea, l, q⟩ => ?_) ht
  subst ex
  obtain rfl : u = Value.ref a := rx
  refine getmeth_ok I1 ea c hm l ?_
  refine PySem.W.callWith_KW (first := [.ref a]) (h₀ := X.base) I.ok.mod.kin hm.kp hall (thn (ha.run pos pins s1 σ H1 _ I1 q) fun us s2 ⟨vs, H2, I2, r, q2⟩ => ?_) hpl hst
  refine thn (hkw.run pos pins s2 σ H2 _ I2 q2) fun ws s3 ⟨zs, H3, I3, rz, l1, l2, q3⟩ => ⟨I3.kIn, ?_⟩
  rw [hks]
  exact run_fnN (us := .ref a :: us) (vs := .ref a :: vs) F hr hb hx I3 (.cons rfl r) rz (congrArg Nat.succ l1) l2 q3
end L2

set_option maxRecDepth 100000
set_option maxHeartbeats 4000000
/-! # Properties as facts; obj.m(k = v), C.m(a, .., k = v), cls(a, .., k = v) -/
namespace L2
open PySem PySem.Spec PyProof.Rows
def propObj (K : PySem.W.Frag) (C : Addr) (f : Str) : Addr := match PySem.W.findIn K (.ref C) f with
  | some (some (.ref p)) => p
  | _ => 0
def propAt (K : PySem.W.Frag) (C : Addr) (f : Str) : Addr := match PySem.W.recIn K (propObj K C f) "property" with
  | some (.ref g :: _) => g
  | _ => 0
def propB (K : PySem.W.Frag) (C : Addr) (f : Str) : Bool :=
  decide (PySem.W.findIn K (.ref C) f = some (some (.ref (propObj K C f)))) && (decide (PySem.W.specialIn K (.ref (propObj K C f)) "__get__" = some (some (.builtin "property.__get__"))) &&
    (decide (PySem.W.takesIn K (.ref (propObj K C f)) = some true) && (match PySem.W.recIn K (propObj K C f) "property" with
      | some (.ref _ :: _) => true
      | _ => false)))
theorem prop_ok {K : PySem.W.Frag} {C : Addr} {f : Str} (h : propB K C f = true) : PropOf K C f (propObj K C f) (propAt K C f) := by
  unfold propB at h
  simp only [Bool.and_eq_true, decide_eq_true_eq] at h
  obtain ⟨h1, h2, h3, h4⟩ := h
  refine ⟨h1, h2, h3, ?_⟩
  unfold propAt
  split at h4
  · rename_i g rest e
    exact ⟨rest, by rw [e]⟩
  · cases h4
section
variable {X : Cx} {CX : CXT} {k n i : Nat} {f C : Addr} {fd : FuncData} {ps ks : List Str} {sp : Sp} {E : XK} {x m : Str} {o e : Expr} {es : List Expr} {kws : List Keyword} {ta : TE} {t tk : TA} {p apos pos : Pos} {pl : Sem Bool} {g : List Value → List Value → List Value} {gV : List V → List V → List V}
/-- o.m(k = v, ..) -/
theorem pe_methN0 (he : PE X o ta) (c : Cls X.K C) (hm : Meth X.K C m f) (F : FnOk X.prog X.w X.K X.mg X.base CX k f fd ps sp) (hr : Room k X.A) (hb : KBn X.K fd ps 1 ks g gV) (hx : Passes CX X E) (hkw : PK X kws tk)
    (hall : (backToKw pos (keywordEach kws X.env)).all (·.1.isSome) = true := by rfl) (hks : (backToKw pos (keywordEach kws X.env)).filterMap (·.1) = ks := by rfl)
    (hpl : ((backTo pos (starEach [] X.env)).any (·.1) || (backToKw pos (keywordEach kws X.env)).any (·.1.isNone)) = false := by rfl)
    (ht : eval (.Call (.Attribute o m apos) [] kws pos) X.env = (do
      let ov ← eval o X.env
      standAt apos.atName
      let (f, first) ← holding [ov] (getMethod ov m pl)
      callWith pos f first (backTo pos (starEach [] X.env)) (backToKw pos (keywordEach kws X.env))) := by rfl) :
    PE X (.Call (.Attribute o m apos) [] kws pos) (tMethN C m 0 ks.length sp gV E ta tNil tk) := by
  refine ⟨fun pins s σ H Q I h => ?_⟩
  refine PySem.W.methodCall_KW (pl := pl) (thn (he.run pins s σ H _ I h) fun u s1 ⟨y, H1, I1, rx, a, dx, fs, ex, ea, l, q⟩ => ?_) ht
  subst ex
  obtain rfl : u = Value.ref a := rx
  refine getmeth_ok I1 ea c hm l ?_
  refine PySem.W.callWith_KW0 (first := [.ref a]) (h₀ := X.base) I.ok.mod.kin hm.kp hall ?_ hpl
  refine thn (hkw.run pos pins s1 σ H1 _ I1 q) fun ws s3 ⟨zs, H3, I3, rz, l1, l2, q3⟩ => ⟨I3.kIn, ?_⟩
  rw [hks]
  exact run_fnN (us := [.ref a]) (vs := [.ref a]) F hr hb hx I3 (.cons rfl .nil) rz rfl l2 q3
/-- cls(e, .., k = v), cls a local name that holds the class at C -/
def tMakeLK (i : Nat) (C : Addr) (n m : Nat) (sp : Sp) (gV : List V → List V → List V) (E : XK) (t tk : TA) : TE := fun σ H Q => σ[i]? = some (some (.ref C)) ∧ tMakeK C n m sp gV E t tk σ H Q
theorem pmkLK (M : Mk X.K C f) (F : FnOk X.prog X.w X.K X.mg X.base CX k f fd ps sp) (hr : Room (k + 1) X.A) (hN : X.N[i]? = some x) (hv : Vis X.env.scope x) (hb : KBn X.K fd ps (n + 1) ks g gV) (hx : Passes CX X E) (ha : PA X (e :: es) t) (hkw : PK X kws tk)
    (hall : (backToKw pos (keywordEach kws X.env)).all (·.1.isSome) = true := by rfl) (hks : (backToKw pos (keywordEach kws X.env)).filterMap (·.1) = ks := by rfl) (hdb : (x == ("__debug__" : Str)) = false := by decide) (hcd : (x == ("__classdict__" : Str)) = false := by decide)
    (he : starEach (e :: es) X.env = (false, eval e X.env) :: starEach es X.env := by rfl) (hpl : ((backTo pos (starEach (e :: es) X.env)).any (·.1) || (backToKw pos (keywordEach kws X.env)).any (·.1.isNone)) = false := by rfl) :
    PE X (.Call (.Name x p) (e :: es) kws pos) (tMakeLK i C n ks.length sp gV E t tk) := by
  refine ⟨fun pins s σ H Q I h => ?_⟩
  obtain ⟨hs, h⟩ := h
  refine wpAny_Call_Name_kw (thn ((pe_var (pos := p) hN hv hdb hcd).run pins s σ H (fun v H1 => v = .ref C ∧ H1 = H) I ⟨.ref C, hs, rfl, rfl⟩) fun u s1 ⟨v, H1, I1, r1, q1⟩ => ?_)
  obtain ⟨rfl, rfl⟩ := q1
  cases r1
  refine PySem.W.callWith_KW (h₀ := X.base) I.ok.mod.kin M.kp hall (thn (ha.run pos pins s1 σ _ _ I1 h) fun us s2 ⟨vs, H2, I2, r, q⟩ => ?_) hpl he
  refine thn (hkw.run pos pins s2 σ H2 _ I2 q) fun ws s3 ⟨zs, H3, I3, rz, l1, l2, q2⟩ => ⟨I3.kIn, ?_⟩
  rw [hks]
  exact run_makeK M F hr hb hx I3 r rz l1 l2 q2
end
/-- a def with keywords, as a classmethod's def -/
theorem fnS_of {P : Program} {w : World} {K : PySem.W.Frag} {mg : Str → Option Value} {base : Heap} {CX : CXT} {k n : Nat} {f : Addr} {fd : FuncData} {ps ks : List Str} {sp : Sp} {g : List Value → List Value → List Value} {gV : List V → List V → List V} (F : FnOk P w K mg base CX k f fd ps sp) (hb : KBn K fd ps n ks g gV) :
    FnS P w K mg base CX k f ks (fun vs zs H Q E => vs.length = n ∧ zs.length = ks.length ∧ sp (gV vs zs) H Q E) := by
  intro A outer s H us ws vs zs Q E hr e0 r rz h
  obtain ⟨l1, l2, h⟩ := h
  have KX : K.In s.heap := e0.mod.kin.keeps fun b o e => (e0.bs b o e).1
  exact F.run A outer s H ⟨us, ks.zip ws⟩ (g us ws) (gV vs zs) Q E hr e0 (hb.to s us ws KX (r.length.symm.trans l1) (rz.length.symm.trans l2)) (hb.rel r rz) h
end L2

set_option maxRecDepth 100000
set_option maxHeartbeats 4000000
/-! # max(xs, default=d), min(xs, default=d) of a list of numbers -/
namespace L2
open PySem PySem.W PySem.Spec PyProof.Rows
section
variable {prog : Program} {w : World} {A : Around} {E : Value → Shared → Prop} {s : Shared} {l : Addr} {its : List Value} {ns : List Int} {d : Value} {Q : Value → Shared → Prop}
theorem maxD_raw (hh : A.handled = none) (hl : s.heap.IsList l its.toArray) (hi : IntsAre its ns)
    (h0 : ns = [] → ∀ h' tk, (∀ b o, s.heap.get? b = some o → h'.get? b = some o) → Q d { s with heap := h', toks := tk })
    (h : ∀ h' tk M t', (∀ b o, s.heap.get? b = some o → h'.get? b = some o) → M ∈ ns → (∀ a, a ∈ ns → a ≤ M) → Q (.int M t') { s with heap := h', toks := tk }) :
    wpAny (model prog w) A (call (.builtin "max") [.ref l] [(Str.ofString "default", d)]) Q E s := by
  obtain ⟨xs, e⟩ := hi.allInts.items
  have hn : numsOf (intItems xs).toList = ns := by rw [← e]; exact hi.numsOf
  rw [nums_intItems] at hn
  subst hn
  rw [e] at hl
  refine call_max_walkD (iter_listW (A := A.in1) hh hl fun s₂ e2 W st hfp hw hk => ?_)
  refine ⟨_, _, _, _, _, _, _, s.heap, fun i j => decide (numAt xs i > numAt xs j), rfl, W, st, hfp, hw, hk, fun hz s' m => ?_, fun hp => ⟨fun i j vi vj s Q E _ a b c => CmpOf.ints_gt (prog := prog) (w := w) (A := A.in1) (P := fun i v => (intItems xs)[i]? = some v) (numAt xs) (fun _ _ => intItems_at) i j vi vj s Q E a b c, fun v s' hP m => ?_⟩⟩
  · obtain ⟨h', tk, rfl, hk'⟩ := moved_old e2 rfl m
    have z : xs.size = 0 := by simpa [intItems] using hz
    exact h0 (by rw [List.map_eq_nil_iff]; exact List.eq_nil_of_length_eq_zero (by rw [Array.length_toList]; exact z)) h' tk hk'
  · obtain ⟨h', tk, rfl, hk'⟩ := moved_old e2 rfl m
    have hsz : 0 < xs.size := by simpa [intItems] using hp
    have hP' : (intItems xs)[argBest (fun i j => decide (numAt xs i > numAt xs j)) (xs.size - 1)]? = some v := by simpa [intItems] using hP
    obtain ⟨t, rfl⟩ := intItems_at hP'
    obtain ⟨h1, h2⟩ := argBest_gt (numAt xs) (xs.size - 1)
    refine h h' tk _ t hk' ?_ fun a ha => ?_
    · rw [numAt_eq]; exact PySem.getD_mem (by rw [List.length_map, Array.length_toList]; omega)
    · obtain ⟨j, hj, rfl⟩ := mem_getD ha
      rw [List.length_map, Array.length_toList] at hj
      rw [← numAt_eq]; exact h2 j (by omega)
end
section
variable {X : Cx}
def rMaxD0 (K : PySem.W.Frag) : List V → List V → Hp → VK → Prop := fun vs zs H Q => ∃ (a : Addr) (ns : List Int) (d : Int), vs = [V.ref a] ∧ zs = [V.int d] ∧ SqL K H a (ns.map V.int) ∧ ∀ m, (ns = [] ∧ m = d) ∨ (m ∈ ns ∧ ∀ y, y ∈ ns → y ≤ m) → Q (.int m) H
/-- max(xs, default=d) of a list of ints -/
theorem cr_maxD0 (hc : X.calm = true) : CallRK X (.builtin "max") [Str.ofString "default"] (rMaxD0 X.K) := by
  intro pins s σ H vs zs us ws Q I r rz h
  obtain ⟨a, ns, d, rfl, rfl, hs, q⟩ := h
  obtain ⟨its, rv, hl, _⟩ := I.list hs
  obtain rfl := Vals.ref1 r
  obtain ⟨w1, rfl, e1⟩ := vals1 rz
  refine maxD_raw (I.ok.hd hc) hl.isList rv.ints (fun z h' tk hk => ⟨.int d, H, I.kept hk, e1, q d (.inl ⟨z, rfl⟩)⟩) fun h' tk m t' hk h1 h2 => ⟨.int _, H, I.kept hk, ⟨_, rfl⟩, q m (.inr ⟨h1, h2⟩)⟩
end
end L2

set_option maxRecDepth 100000
set_option maxHeartbeats 4000000
/-! # isinstance(e, (C, D, ..)) in a suite, e an error with a dict -/
namespace L2
open PySem PySem.Spec PyProof.Rows
def rIsDT (K : PySem.W.Frag) (D a : Addr) (d : Option Addr) : List V → Hp → VK → Prop := fun xs H Q => ∃ (tp : Addr) (cs : List V) (ws : List Value) (b : Bool) (dd : Addr) (fs : List (Str × V)), xs = [.ref a, .ref tp] ∧ H tp = some (.tup cs) ∧ Paired ClsV cs ws ∧ d = some dd ∧ H dd = some (.xd fs) ∧ PySem.W.kitAny K (.ref D) ws = some b ∧ Q (.bl b) H
theorem call_isDT {X : Cx} {a D : Addr} {d : Option Addr} {oe : Obj} {pn : List (Addr × Obj)} {cls : Value} (C : ExcC X.K D) (hz : Zc cls d oe) (hf : ∃ vs, oe.data = .fields vs) :
    CallR (X.suite a ((a, oe) :: pn)) (.builtin "isinstance") (fun xs H Q => cls = .ref D ∧ rIsDT X.K D a d xs H Q) := by
  intro pins s σ H xs us Q I r h
  obtain ⟨rfl, tp, cs, ws, b, dd, fs, rfl, hT, k, rfl, ea, e, q⟩ := h
  obtain ⟨u1, u2, rfl, r1, r2⟩ := vals2 r
  cases (show u2 = Value.ref tp from r2)
  cases (show u1 = Value.ref a from r1)
  obtain ⟨_, its, rv, o, h1, h2, n, h3⟩ := (show ObjOk X.prog X.w H s.heap tp (.tup cs) from I.hok tp _ hT)
  have e3 := ClsV.all k rv
  subst e3
  obtain ⟨oc, ot, dt, sl⟩ := o
  simp only at h2 h3
  subst h2 h3
  obtain ⟨hget, _⟩ := I.pin (a, oe) (List.mem_append.mpr (.inl List.mem_cons_self))
  obtain ⟨vs, hv⟩ := hf
  obtain ⟨mA, hns, hr⟩ := (show ObjOk X.prog X.w H s.heap dd (.xd fs) from I.hok dd _ ea)
  obtain ⟨od, ho, _⟩ := lookIn_ns hns
  have J : PySem.W.InstAt s.heap a oe D (some od) := ⟨hget, hz.1, by unfold PySem.W.notCls; rw [hv] <;> rfl, by rw [hz.2]; exact ho⟩
  exact PySem.W.kia_tup (EI.kit_exc C) I.kIn J h1 e (fun z => nomatch z) fun tk => ⟨.bl b, H, I.kept (t' := tk) fun _ _ z => z, rfl, q⟩
theorem kn_nil {K : PySem.W.Frag} {t : Value} : PySem.W.kitAny K t [] = some false := rfl
theorem kn_cons {K : PySem.W.Frag} {t c : Value} {cs : List Value} (h : PySem.W.kitOne K t c = some false) (r : PySem.W.kitAny K t cs = some false) : PySem.W.kitAny K t (c :: cs) = some false := by
  rw [PySem.W.kitAny, h]
  exact r
end L2

set_option maxRecDepth 100000
set_option maxHeartbeats 0
namespace K24
open PySem PySem.W PySem.Spec PySem.Calls PyProof.Rows L2 He He5 HX
/-! ### the text by its places -/
abbrev PG : Program := PySem.Challenge.pw_nightsoff_k24_bounds
def topS (i : Nat) : Stmt := PG.main.body.getD i (.Pass ⟨0, 0, 0, 0⟩)
abbrev s_wall : Stmt := topS 0
abbrev s_check_count : Stmt := topS 9
abbrev s_check_number : Stmt := topS 10
abbrev s_check_numbers : Stmt := topS 11
abbrev s_check_not_negative : Stmt := topS 12
abbrev s_Telling_init : Stmt := inClass (topS 15) 0
abbrev s_Telling_len : Stmt := inClass (topS 15) 1
abbrev s_Telling_iter : Stmt := inClass (topS 15) 2
abbrev s_Telling_getitem : Stmt := inClass (topS 15) 3
abbrev s_Telling_eq : Stmt := inClass (topS 15) 4
abbrev s_Telling_lt : Stmt := inClass (topS 15) 5
abbrev s_Telling_add : Stmt := inClass (topS 15) 6
abbrev s_Telling_mul : Stmt := inClass (topS 15) 7
abbrev s_Telling_rmul : Stmt := inClass (topS 15) 8
abbrev s_Telling_xor : Stmt := inClass (topS 15) 9
abbrev s_Telling_abs : Stmt := inClass (topS 15) 10
abbrev s_Telling_no_steeper : Stmt := inClass (topS 15) 11
abbrev s_Telling_moved : Stmt := inClass (topS 15) 12
abbrev s_Telling_check_place : Stmt := inClass (topS 15) 13
abbrev s_Telling_check_alike : Stmt := inClass (topS 15) 14
abbrev s_Bounds_init : Stmt := inClass (topS 17) 0
abbrev s_Bounds_exact : Stmt := inClass (topS 17) 1
abbrev s_Bounds_up_to : Stmt := inClass (topS 17) 2
abbrev s_Bounds_len : Stmt := inClass (topS 17) 3
abbrev s_Bounds_and : Stmt := inClass (topS 17) 4
abbrev s_Bounds_or : Stmt := inClass (topS 17) 5
abbrev s_Bounds_contains : Stmt := inClass (topS 17) 6
abbrev s_Bounds_crossed : Stmt := inClass (topS 17) 7
abbrev s_Bounds_pinned : Stmt := inClass (topS 17) 8
abbrev s_Bounds_check_alike : Stmt := inClass (topS 17) 9
abbrev s_law_pool : Stmt := topS 19
abbrev s_law_draw : Stmt := topS 20
abbrev s_law_size : Stmt := topS 21
abbrev s_law_number : Stmt := topS 22
abbrev s_law_pair : Stmt := topS 23
abbrev s_law_perhaps_bad : Stmt := topS 24
abbrev s_law_spoiled : Stmt := topS 25
abbrev s_law_asked : Stmt := topS 26
abbrev s_law_int : Stmt := topS 27
abbrev s_law_same : Stmt := topS 28
abbrev s_law_first_bad : Stmt := topS 29
abbrev s_law_due_made : Stmt := topS 30
abbrev s_law_shown : Stmt := topS 31
abbrev s_law_try_made : Stmt := topS 32
abbrev s_law_caught_as_base : Stmt := topS 33
abbrev s_law_handed : Stmt := topS 34
abbrev s_law_making_right : Stmt := topS 35
abbrev s_law_try_joined : Stmt := topS 36
abbrev s_law_joining_right : Stmt := topS 37
abbrev s_law_lies : Stmt := topS 38
abbrev s_law_lying_right : Stmt := topS 39
abbrev s_law_crossing_right : Stmt := topS 40
abbrev s_law_try_pinned : Stmt := topS 41
abbrev s_law_due_pinned : Stmt := topS 42
abbrev s_law_pinning_right : Stmt := topS 43
abbrev s_law : Stmt := topS 44
abbrev e_NoPerson : Stmt := inClass (topS 3) 0
abbrev e_BadNumber : Stmt := inClass (topS 4) 0
abbrev e_TooLong : Stmt := inClass (topS 5) 0
abbrev e_WrongLength : Stmt := inClass (topS 6) 0
/-! ### the errors: what their __init__ says -/
theorem tx_NoPerson : InitTx PG e_NoPerson "NoPerson.__init__" ["person"] [("person", "person")] where
  txt := ⟨_, _, _, _, _, _, _, _, _, rfl, .cons (.nil), fun env h => (by rw [show interactive env = (env.scope.kind == ScopeKind.module && env.scope.more.any fun (n, _) => n == ("interactive" : Str)) from rfl, h]; rfl), fun env h => ⟨_, by obtain ⟨⟩ := env; cases h; rfl⟩⟩
  par := ⟨_, rfl, rfl⟩
  sc := ⟨⟨rfl, rfl, rfl⟩, by decide +kernel, rfl, rfl, rfl⟩
  loc := by decide +kernel
  nod := by decide +kernel
  bind := fun s e fd us hl h1 h2 h3 => (match us, hl with | [_], _ => .of_eq (by obtain ⟨⟩ := fd; cases h1; cases h2; cases h3; rfl))
  top := by decide +kernel
  few := by decide
theorem tx_BadNumber : InitTx PG e_BadNumber "BadNumber.__init__" ["place", "number"] [("place", "place"), ("number", "number")] where
  txt := ⟨_, _, _, _, _, _, _, _, _, rfl, .cons (.cons (.nil)), fun env h => (by rw [show interactive env = (env.scope.kind == ScopeKind.module && env.scope.more.any fun (n, _) => n == ("interactive" : Str)) from rfl, h]; rfl), fun env h => ⟨_, by obtain ⟨⟩ := env; cases h; rfl⟩⟩
  par := ⟨_, rfl, rfl⟩
  sc := ⟨⟨rfl, rfl, rfl⟩, by decide +kernel, rfl, rfl, rfl⟩
  loc := by decide +kernel
  nod := by decide +kernel
  bind := fun s e fd us hl h1 h2 h3 => (match us, hl with | [_, _], _ => .of_eq (by obtain ⟨⟩ := fd; cases h1; cases h2; cases h3; rfl))
  top := by decide +kernel
  few := by decide
theorem tx_TooLong : InitTx PG e_TooLong "TooLong.__init__" ["count"] [("count", "count")] where
  txt := ⟨_, _, _, _, _, _, _, _, _, rfl, .cons (.nil), fun env h => (by rw [show interactive env = (env.scope.kind == ScopeKind.module && env.scope.more.any fun (n, _) => n == ("interactive" : Str)) from rfl, h]; rfl), fun env h => ⟨_, by obtain ⟨⟩ := env; cases h; rfl⟩⟩
  par := ⟨_, rfl, rfl⟩
  sc := ⟨⟨rfl, rfl, rfl⟩, by decide +kernel, rfl, rfl, rfl⟩
  loc := by decide +kernel
  nod := by decide +kernel
  bind := fun s e fd us hl h1 h2 h3 => (match us, hl with | [_], _ => .of_eq (by obtain ⟨⟩ := fd; cases h1; cases h2; cases h3; rfl))
  top := by decide +kernel
  few := by decide
theorem tx_WrongLength : InitTx PG e_WrongLength "WrongLength.__init__" ["found", "wanted"] [("found", "found"), ("wanted", "wanted")] where
  txt := ⟨_, _, _, _, _, _, _, _, _, rfl, .cons (.cons (.nil)), fun env h => (by rw [show interactive env = (env.scope.kind == ScopeKind.module && env.scope.more.any fun (n, _) => n == ("interactive" : Str)) from rfl, h]; rfl), fun env h => ⟨_, by obtain ⟨⟩ := env; cases h; rfl⟩⟩
  par := ⟨_, rfl, rfl⟩
  sc := ⟨⟨rfl, rfl, rfl⟩, by decide +kernel, rfl, rfl, rfl⟩
  loc := by decide +kernel
  nod := by decide +kernel
  bind := fun s e fd us hl h1 h2 h3 => (match us, hl with | [_, _], _ => .of_eq (by obtain ⟨⟩ := fd; cases h1; cases h2; cases h3; rfl))
  top := by decide +kernel
  few := by decide
/-! ### facts -/
def fn : List DefA := [
  { at_ := fun K => ga K "_wall", name := "_wall", qual := "_wall", params := defArgs s_wall, body := defBody s_wall, scope := defScope s_wall },
  { at_ := fun K => ga K "check_count", name := "check_count", qual := "check_count", params := defArgs s_check_count, body := defBody s_check_count, scope := defScope s_check_count },
  { at_ := fun K => ga K "check_number", name := "check_number", qual := "check_number", params := defArgs s_check_number, body := defBody s_check_number, scope := defScope s_check_number },
  { at_ := fun K => ga K "check_numbers", name := "check_numbers", qual := "check_numbers", params := defArgs s_check_numbers, body := defBody s_check_numbers, scope := defScope s_check_numbers },
  { at_ := fun K => ga K "check_not_negative", name := "check_not_negative", qual := "check_not_negative", params := defArgs s_check_not_negative, body := defBody s_check_not_negative, scope := defScope s_check_not_negative },
  { at_ := fun K => ma K (ga K "Telling") "__init__", name := "__init__", qual := "Telling.__init__", params := defArgs s_Telling_init, body := defBody s_Telling_init, scope := defScope s_Telling_init },
  { at_ := fun K => ma K (ga K "Telling") "__len__", name := "__len__", qual := "Telling.__len__", params := defArgs s_Telling_len, body := defBody s_Telling_len, scope := defScope s_Telling_len },
  { at_ := fun K => ma K (ga K "Telling") "__iter__", name := "__iter__", qual := "Telling.__iter__", params := defArgs s_Telling_iter, body := defBody s_Telling_iter, scope := defScope s_Telling_iter },
  { at_ := fun K => ma K (ga K "Telling") "__getitem__", name := "__getitem__", qual := "Telling.__getitem__", params := defArgs s_Telling_getitem, body := defBody s_Telling_getitem, scope := defScope s_Telling_getitem },
  { at_ := fun K => ma K (ga K "Telling") "__eq__", name := "__eq__", qual := "Telling.__eq__", params := defArgs s_Telling_eq, body := defBody s_Telling_eq, scope := defScope s_Telling_eq },
  { at_ := fun K => ma K (ga K "Telling") "__lt__", name := "__lt__", qual := "Telling.__lt__", params := defArgs s_Telling_lt, body := defBody s_Telling_lt, scope := defScope s_Telling_lt },
  { at_ := fun K => ma K (ga K "Telling") "__add__", name := "__add__", qual := "Telling.__add__", params := defArgs s_Telling_add, body := defBody s_Telling_add, scope := defScope s_Telling_add },
  { at_ := fun K => ma K (ga K "Telling") "__mul__", name := "__mul__", qual := "Telling.__mul__", params := defArgs s_Telling_mul, body := defBody s_Telling_mul, scope := defScope s_Telling_mul },
  { at_ := fun K => ma K (ga K "Telling") "__rmul__", name := "__rmul__", qual := "Telling.__rmul__", params := defArgs s_Telling_rmul, body := defBody s_Telling_rmul, scope := defScope s_Telling_rmul },
  { at_ := fun K => ma K (ga K "Telling") "__xor__", name := "__xor__", qual := "Telling.__xor__", params := defArgs s_Telling_xor, body := defBody s_Telling_xor, scope := defScope s_Telling_xor },
  { at_ := fun K => ma K (ga K "Telling") "__abs__", name := "__abs__", qual := "Telling.__abs__", params := defArgs s_Telling_abs, body := defBody s_Telling_abs, scope := defScope s_Telling_abs },
  { at_ := fun K => ma K (ga K "Telling") "no_steeper", name := "no_steeper", qual := "Telling.no_steeper", params := defArgs s_Telling_no_steeper, body := defBody s_Telling_no_steeper, scope := defScope s_Telling_no_steeper },
  { at_ := fun K => ma K (ga K "Telling") "moved", name := "moved", qual := "Telling.moved", params := defArgs s_Telling_moved, body := defBody s_Telling_moved, scope := defScope s_Telling_moved, dfl := [.int 1] },
  { at_ := fun K => ma K (ga K "Telling") "_check_place", name := "_check_place", qual := "Telling._check_place", params := defArgs s_Telling_check_place, body := defBody s_Telling_check_place, scope := defScope s_Telling_check_place },
  { at_ := fun K => ma K (ga K "Telling") "_check_alike", name := "_check_alike", qual := "Telling._check_alike", params := defArgs s_Telling_check_alike, body := defBody s_Telling_check_alike, scope := defScope s_Telling_check_alike },
  { at_ := fun K => ma K (ga K "Bounds") "__init__", name := "__init__", qual := "Bounds.__init__", params := defArgs s_Bounds_init, body := defBody s_Bounds_init, scope := defScope s_Bounds_init },
  { at_ := fun K => wf K (ga K "Bounds") "classmethod" "exact", name := "exact", qual := "Bounds.exact", params := defArgs s_Bounds_exact, body := defBody s_Bounds_exact, scope := defScope s_Bounds_exact },
  { at_ := fun K => wf K (ga K "Bounds") "classmethod" "up_to", name := "up_to", qual := "Bounds.up_to", params := defArgs s_Bounds_up_to, body := defBody s_Bounds_up_to, scope := defScope s_Bounds_up_to },
  { at_ := fun K => ma K (ga K "Bounds") "__len__", name := "__len__", qual := "Bounds.__len__", params := defArgs s_Bounds_len, body := defBody s_Bounds_len, scope := defScope s_Bounds_len },
  { at_ := fun K => ma K (ga K "Bounds") "__and__", name := "__and__", qual := "Bounds.__and__", params := defArgs s_Bounds_and, body := defBody s_Bounds_and, scope := defScope s_Bounds_and },
  { at_ := fun K => ma K (ga K "Bounds") "__or__", name := "__or__", qual := "Bounds.__or__", params := defArgs s_Bounds_or, body := defBody s_Bounds_or, scope := defScope s_Bounds_or },
  { at_ := fun K => ma K (ga K "Bounds") "__contains__", name := "__contains__", qual := "Bounds.__contains__", params := defArgs s_Bounds_contains, body := defBody s_Bounds_contains, scope := defScope s_Bounds_contains },
  { at_ := fun K => ma K (ga K "Bounds") "crossed", name := "crossed", qual := "Bounds.crossed", params := defArgs s_Bounds_crossed, body := defBody s_Bounds_crossed, scope := defScope s_Bounds_crossed },
  { at_ := fun K => ma K (ga K "Bounds") "pinned", name := "pinned", qual := "Bounds.pinned", params := defArgs s_Bounds_pinned, body := defBody s_Bounds_pinned, scope := defScope s_Bounds_pinned },
  { at_ := fun K => ma K (ga K "Bounds") "_check_alike", name := "_check_alike", qual := "Bounds._check_alike", params := defArgs s_Bounds_check_alike, body := defBody s_Bounds_check_alike, scope := defScope s_Bounds_check_alike },
  { at_ := fun K => ga K "_law_pool", name := "_law_pool", qual := "_law_pool", params := defArgs s_law_pool, body := defBody s_law_pool, scope := defScope s_law_pool },
  { at_ := fun K => ga K "_law_draw", name := "_law_draw", qual := "_law_draw", params := defArgs s_law_draw, body := defBody s_law_draw, scope := defScope s_law_draw },
  { at_ := fun K => ga K "_law_size", name := "_law_size", qual := "_law_size", params := defArgs s_law_size, body := defBody s_law_size, scope := defScope s_law_size },
  { at_ := fun K => ga K "_law_number", name := "_law_number", qual := "_law_number", params := defArgs s_law_number, body := defBody s_law_number, scope := defScope s_law_number },
  { at_ := fun K => ga K "_law_pair", name := "_law_pair", qual := "_law_pair", params := defArgs s_law_pair, body := defBody s_law_pair, scope := defScope s_law_pair },
  { at_ := fun K => ga K "_law_perhaps_bad", name := "_law_perhaps_bad", qual := "_law_perhaps_bad", params := defArgs s_law_perhaps_bad, body := defBody s_law_perhaps_bad, scope := defScope s_law_perhaps_bad },
  { at_ := fun K => ga K "_law_spoiled", name := "_law_spoiled", qual := "_law_spoiled", params := defArgs s_law_spoiled, body := defBody s_law_spoiled, scope := defScope s_law_spoiled },
  { at_ := fun K => ga K "_law_asked", name := "_law_asked", qual := "_law_asked", params := defArgs s_law_asked, body := defBody s_law_asked, scope := defScope s_law_asked },
  { at_ := fun K => ga K "_law_int", name := "_law_int", qual := "_law_int", params := defArgs s_law_int, body := defBody s_law_int, scope := defScope s_law_int },
  { at_ := fun K => ga K "_law_same", name := "_law_same", qual := "_law_same", params := defArgs s_law_same, body := defBody s_law_same, scope := defScope s_law_same },
  { at_ := fun K => ga K "_law_first_bad", name := "_law_first_bad", qual := "_law_first_bad", params := defArgs s_law_first_bad, body := defBody s_law_first_bad, scope := defScope s_law_first_bad },
  { at_ := fun K => ga K "_law_due_made", name := "_law_due_made", qual := "_law_due_made", params := defArgs s_law_due_made, body := defBody s_law_due_made, scope := defScope s_law_due_made },
  { at_ := fun K => ga K "_law_shown", name := "_law_shown", qual := "_law_shown", params := defArgs s_law_shown, body := defBody s_law_shown, scope := defScope s_law_shown },
  { at_ := fun K => ga K "_law_try_made", name := "_law_try_made", qual := "_law_try_made", params := defArgs s_law_try_made, body := defBody s_law_try_made, scope := defScope s_law_try_made },
  { at_ := fun K => ga K "_law_caught_as_base", name := "_law_caught_as_base", qual := "_law_caught_as_base", params := defArgs s_law_caught_as_base, body := defBody s_law_caught_as_base, scope := defScope s_law_caught_as_base },
  { at_ := fun K => ga K "_law_handed", name := "_law_handed", qual := "_law_handed", params := defArgs s_law_handed, body := defBody s_law_handed, scope := defScope s_law_handed },
  { at_ := fun K => ga K "_law_making_right", name := "_law_making_right", qual := "_law_making_right", params := defArgs s_law_making_right, body := defBody s_law_making_right, scope := defScope s_law_making_right },
  { at_ := fun K => ga K "_law_try_joined", name := "_law_try_joined", qual := "_law_try_joined", params := defArgs s_law_try_joined, body := defBody s_law_try_joined, scope := defScope s_law_try_joined },
  { at_ := fun K => ga K "_law_joining_right", name := "_law_joining_right", qual := "_law_joining_right", params := defArgs s_law_joining_right, body := defBody s_law_joining_right, scope := defScope s_law_joining_right },
  { at_ := fun K => ga K "_law_lies", name := "_law_lies", qual := "_law_lies", params := defArgs s_law_lies, body := defBody s_law_lies, scope := defScope s_law_lies },
  { at_ := fun K => ga K "_law_lying_right", name := "_law_lying_right", qual := "_law_lying_right", params := defArgs s_law_lying_right, body := defBody s_law_lying_right, scope := defScope s_law_lying_right },
  { at_ := fun K => ga K "_law_crossing_right", name := "_law_crossing_right", qual := "_law_crossing_right", params := defArgs s_law_crossing_right, body := defBody s_law_crossing_right, scope := defScope s_law_crossing_right },
  { at_ := fun K => ga K "_law_try_pinned", name := "_law_try_pinned", qual := "_law_try_pinned", params := defArgs s_law_try_pinned, body := defBody s_law_try_pinned, scope := defScope s_law_try_pinned },
  { at_ := fun K => ga K "_law_due_pinned", name := "_law_due_pinned", qual := "_law_due_pinned", params := defArgs s_law_due_pinned, body := defBody s_law_due_pinned, scope := defScope s_law_due_pinned },
  { at_ := fun K => ga K "_law_pinning_right", name := "_law_pinning_right", qual := "_law_pinning_right", params := defArgs s_law_pinning_right, body := defBody s_law_pinning_right, scope := defScope s_law_pinning_right },
  { at_ := fun K => ga K "law", name := "law", qual := "law", params := defArgs s_law, body := defBody s_law, scope := defScope s_law }]
def er : List ErrD := [⟨"NoPerson", e_NoPerson, "NoPerson.__init__", ["person"]⟩, ⟨"BadNumber", e_BadNumber, "BadNumber.__init__", ["place", "number"]⟩, ⟨"TooLong", e_TooLong, "TooLong.__init__", ["count"]⟩, ⟨"WrongLength", e_WrongLength, "WrongLength.__init__", ["found", "wanted"]⟩]
def bl (K : Frag) : List Bool := [
  (Fa.free "super").ok K,
  eqO (nsIn K cStatics "thirdparty.any") (some none),
  (Fa.free "len").ok K,
  (Fa.free "enumerate").ok K,
  (Fa.free "tuple").ok K,
  (Fa.free "iter").ok K,
  (Fa.free "sum").ok K,
  (Fa.free "abs").ok K,
  (Fa.free "int").ok K,
  (Fa.free "range").ok K,
  (Fa.free "isinstance").ok K,
  (Fa.free "bool").ok K,
  (Fa.free "str").ok K,
  (Fa.free "list").ok K,
  (Fa.free "zip").ok K,
  (Fa.free "all").ok K,
  (Fa.free "ValueError").ok K,
  (Fa.free "max").ok K,
  (Fa.free "min").ok K,
  (Fa.glo "_wall").ok K,
  (Fa.glo "check_count").ok K,
  (Fa.glo "check_number").ok K,
  (Fa.glo "check_numbers").ok K,
  (Fa.glo "check_not_negative").ok K,
  (Fa.glo "_law_pool").ok K,
  (Fa.glo "_law_draw").ok K,
  (Fa.glo "_law_size").ok K,
  (Fa.glo "_law_number").ok K,
  (Fa.glo "_law_pair").ok K,
  (Fa.glo "_law_perhaps_bad").ok K,
  (Fa.glo "_law_spoiled").ok K,
  (Fa.glo "_law_asked").ok K,
  (Fa.glo "_law_int").ok K,
  (Fa.glo "_law_same").ok K,
  (Fa.glo "_law_first_bad").ok K,
  (Fa.glo "_law_due_made").ok K,
  (Fa.glo "_law_shown").ok K,
  (Fa.glo "_law_try_made").ok K,
  (Fa.glo "_law_caught_as_base").ok K,
  (Fa.glo "_law_handed").ok K,
  (Fa.glo "_law_making_right").ok K,
  (Fa.glo "_law_try_joined").ok K,
  (Fa.glo "_law_joining_right").ok K,
  (Fa.glo "_law_lies").ok K,
  (Fa.glo "_law_lying_right").ok K,
  (Fa.glo "_law_crossing_right").ok K,
  (Fa.glo "_law_try_pinned").ok K,
  (Fa.glo "_law_due_pinned").ok K,
  (Fa.glo "_law_pinning_right").ok K,
  (Fa.glo "law").ok K,
  (Fa.cls "Telling").ok K,
  (Fa.glo "Telling").ok K,
  EF.clsB K (ga K "Telling"),
  (Fa.mkr "Telling").ok K,
  (Fa.noat "Telling" "entries").ok K,
  (Fa.cls "Bounds").ok K,
  (Fa.glo "Bounds").ok K,
  EF.clsB K (ga K "Bounds"),
  (Fa.mkr "Bounds").ok K,
  (Fa.noat "Bounds" "lows").ok K,
  (Fa.noat "Bounds" "highs").ok K,
  FB.creadB K (ga K "Bounds"),
  (Fa.int "MOST_PEOPLE" 30).ok K,
  (Fa.int "LIMIT" 1000000000000000000000000000000).ok K,
  FB.spB K (ga K "Telling") "__len__" (ma K (ga K "Telling") "__len__"),
  FB.spB K (ga K "Telling") "__iter__" (ma K (ga K "Telling") "__iter__"),
  FB.spB K (ga K "Bounds") "__len__" (ma K (ga K "Bounds") "__len__"),
  FB.spB K (ga K "Bounds") "__contains__" (ma K (ga K "Bounds") "__contains__"),
  FB.opB K (ga K "Bounds") .BitAnd (ma K (ga K "Bounds") "__and__"),
  FB.opB K (ga K "Bounds") .BitOr (ma K (ga K "Bounds") "__or__"),
  (Fa.meth "Bounds" "crossed").ok K,
  (Fa.meth "Bounds" "pinned").ok K,
  (Fa.meth "Bounds" "_check_alike").ok K,
  FB.cmetB K (ga K "Bounds") "exact" (wf K (ga K "Bounds") "classmethod" "exact"),
  FB.cmetB K (ga K "Bounds") "up_to" (wf K (ga K "Bounds") "classmethod" "up_to"),
  (Fa.glo "NightsError").ok K,
  EF.excB K (ga K "NoPerson"),
  (Fa.noat "NoPerson" "person").ok K,
  (Fa.exm "NoPerson" "NightsError" true).ok K,
  decide (kitOne K (.ref (ga K "NoPerson")) (.ref (ga K "NightsError")) = some true),
  decide (kitOne K (.ref (ga K "NoPerson")) (.type "ValueError") = some true),
  EF.excB K (ga K "TooLong"),
  (Fa.noat "TooLong" "count").ok K,
  (Fa.exm "TooLong" "NightsError" true).ok K,
  decide (kitOne K (.ref (ga K "TooLong")) (.ref (ga K "NightsError")) = some true),
  decide (kitOne K (.ref (ga K "TooLong")) (.type "ValueError") = some true),
  EF.excB K (ga K "BadNumber"),
  (Fa.noat "BadNumber" "place").ok K,
  (Fa.noat "BadNumber" "number").ok K,
  (Fa.exm "BadNumber" "NightsError" true).ok K,
  decide (kitOne K (.ref (ga K "BadNumber")) (.ref (ga K "NightsError")) = some true),
  decide (kitOne K (.ref (ga K "BadNumber")) (.type "ValueError") = some true),
  EF.excB K (ga K "WrongLength"),
  (Fa.noat "WrongLength" "found").ok K,
  (Fa.noat "WrongLength" "wanted").ok K,
  (Fa.exm "WrongLength" "NightsError" true).ok K,
  decide (kitOne K (.ref (ga K "WrongLength")) (.ref (ga K "NightsError")) = some true),
  decide (kitOne K (.ref (ga K "WrongLength")) (.type "ValueError") = some true),
  (Fa.exm "TooLong" "TooLong" true).ok K,
  (Fa.exm "TooLong" "BadNumber" false).ok K,
  decide (kitOne K (.ref (ga K "TooLong")) (.ref (ga K "BadNumber")) = some false),
  (Fa.exm "TooLong" "WrongLength" false).ok K,
  decide (kitOne K (.ref (ga K "TooLong")) (.ref (ga K "WrongLength")) = some false),
  (Fa.exm "BadNumber" "TooLong" false).ok K,
  decide (kitOne K (.ref (ga K "BadNumber")) (.ref (ga K "TooLong")) = some false),
  (Fa.exm "BadNumber" "BadNumber" true).ok K,
  (Fa.exm "BadNumber" "WrongLength" false).ok K,
  decide (kitOne K (.ref (ga K "BadNumber")) (.ref (ga K "WrongLength")) = some false),
  (Fa.exm "WrongLength" "TooLong" false).ok K,
  decide (kitOne K (.ref (ga K "WrongLength")) (.ref (ga K "TooLong")) = some false),
  (Fa.exm "WrongLength" "BadNumber" false).ok K,
  decide (kitOne K (.ref (ga K "WrongLength")) (.ref (ga K "BadNumber")) = some false),
  (Fa.exm "WrongLength" "WrongLength" true).ok K,
  (Fa.exm "NoPerson" "NoPerson" true).ok K,
  (Fa.exm "BadNumber" "NoPerson" false).ok K,
  decide (kitOne K (.ref (ga K "NoPerson")) (.ref (ga K "BadNumber")) = some false),
  decide (kitOne K (.ref (ga K "BadNumber")) (.ref (ga K "NoPerson")) = some false),
  decide (kitOne K (.ref (ga K "Bounds")) (.ref (ga K "Bounds")) = some true)]
def bx (K : Frag) : Bool := (bl K).all fun b => b
abbrev R : OpenRow := OpenLaw.row PySem.Challenge.rw_nightsoff_k24_bounds
abbrev hk : Hook := hookX 6 bx fn er "/claim/cut.py"
def ob (s : SharedT) : AlX := obsXG 6 bx fn er "/claim/cut.py" (HandSHeadRun.getT s)
theorem ob_eq (s : SharedT) : ob s = hk.obs s.abs := obsXG_eq (HandSHeadRun.getT_eq s)
def nm0 : List Str := ["_wall", "NightsError", "NoPerson", "BadNumber", "TooLong", "WrongLength", "MOST_PEOPLE", "check_count", "check_number", "check_numbers", "check_not_negative", "LIMIT", "Telling", "Bounds", "_law_pool", "_law_draw", "_law_size", "_law_number", "_law_pair", "_law_perhaps_bad", "_law_spoiled", "_law_asked", "_law_int", "_law_same", "_law_first_bad", "_law_due_made", "_law_shown", "_law_try_made", "_law_caught_as_base", "_law_handed"]
def nm1 : List Str := ["_law_making_right", "_law_try_joined", "_law_joining_right", "_law_lies", "_law_lying_right", "_law_crossing_right", "_law_try_pinned", "_law_due_pinned", "_law_pinning_right"]
def names : List Str := nm0 ++ nm1
theorem run (w : World) : HandSHeadRun.RunEq R (view R.prog [44]) hk ob 20000 names w := by
  intro os
  kernel_rfl
theorem fact {K : Frag} (c : SaysX bx fn er "/claim/cut.py" K) (i : Nat) {b : Bool} (h : (bl K)[i]? = some b := by rfl) : b = true := List.all_eq_true.mp (SaysX.bool c) b (List.mem_of_getElem? h)
/-! ### where the defs stand, their names, their facts in one bundle -/
abbrev c_NightsError (K : Frag) : Addr := ga K "NightsError"
abbrev c_NoPerson (K : Frag) : Addr := ga K "NoPerson"
abbrev c_BadNumber (K : Frag) : Addr := ga K "BadNumber"
abbrev c_TooLong (K : Frag) : Addr := ga K "TooLong"
abbrev c_WrongLength (K : Frag) : Addr := ga K "WrongLength"
abbrev c_Telling (K : Frag) : Addr := ga K "Telling"
abbrev c_Bounds (K : Frag) : Addr := ga K "Bounds"
abbrev a_wall (K : Frag) : Addr := (fun K => ga K "_wall") K
abbrev a_check_count (K : Frag) : Addr := (fun K => ga K "check_count") K
abbrev a_check_number (K : Frag) : Addr := (fun K => ga K "check_number") K
abbrev a_check_numbers (K : Frag) : Addr := (fun K => ga K "check_numbers") K
abbrev a_check_not_negative (K : Frag) : Addr := (fun K => ga K "check_not_negative") K
abbrev a_Telling_init (K : Frag) : Addr := (fun K => ma K (ga K "Telling") "__init__") K
abbrev a_Telling_len (K : Frag) : Addr := (fun K => ma K (ga K "Telling") "__len__") K
abbrev a_Telling_iter (K : Frag) : Addr := (fun K => ma K (ga K "Telling") "__iter__") K
abbrev a_Telling_getitem (K : Frag) : Addr := (fun K => ma K (ga K "Telling") "__getitem__") K
abbrev a_Telling_eq (K : Frag) : Addr := (fun K => ma K (ga K "Telling") "__eq__") K
abbrev a_Telling_lt (K : Frag) : Addr := (fun K => ma K (ga K "Telling") "__lt__") K
abbrev a_Telling_add (K : Frag) : Addr := (fun K => ma K (ga K "Telling") "__add__") K
abbrev a_Telling_mul (K : Frag) : Addr := (fun K => ma K (ga K "Telling") "__mul__") K
abbrev a_Telling_rmul (K : Frag) : Addr := (fun K => ma K (ga K "Telling") "__rmul__") K
abbrev a_Telling_xor (K : Frag) : Addr := (fun K => ma K (ga K "Telling") "__xor__") K
abbrev a_Telling_abs (K : Frag) : Addr := (fun K => ma K (ga K "Telling") "__abs__") K
abbrev a_Telling_no_steeper (K : Frag) : Addr := (fun K => ma K (ga K "Telling") "no_steeper") K
abbrev a_Telling_moved (K : Frag) : Addr := (fun K => ma K (ga K "Telling") "moved") K
abbrev a_Telling_check_place (K : Frag) : Addr := (fun K => ma K (ga K "Telling") "_check_place") K
abbrev a_Telling_check_alike (K : Frag) : Addr := (fun K => ma K (ga K "Telling") "_check_alike") K
abbrev a_Bounds_init (K : Frag) : Addr := (fun K => ma K (ga K "Bounds") "__init__") K
abbrev a_Bounds_exact (K : Frag) : Addr := (fun K => wf K (ga K "Bounds") "classmethod" "exact") K
abbrev a_Bounds_up_to (K : Frag) : Addr := (fun K => wf K (ga K "Bounds") "classmethod" "up_to") K
abbrev a_Bounds_len (K : Frag) : Addr := (fun K => ma K (ga K "Bounds") "__len__") K
abbrev a_Bounds_and (K : Frag) : Addr := (fun K => ma K (ga K "Bounds") "__and__") K
abbrev a_Bounds_or (K : Frag) : Addr := (fun K => ma K (ga K "Bounds") "__or__") K
abbrev a_Bounds_contains (K : Frag) : Addr := (fun K => ma K (ga K "Bounds") "__contains__") K
abbrev a_Bounds_crossed (K : Frag) : Addr := (fun K => ma K (ga K "Bounds") "crossed") K
abbrev a_Bounds_pinned (K : Frag) : Addr := (fun K => ma K (ga K "Bounds") "pinned") K
abbrev a_Bounds_check_alike (K : Frag) : Addr := (fun K => ma K (ga K "Bounds") "_check_alike") K
abbrev a_law_pool (K : Frag) : Addr := (fun K => ga K "_law_pool") K
abbrev a_law_draw (K : Frag) : Addr := (fun K => ga K "_law_draw") K
abbrev a_law_size (K : Frag) : Addr := (fun K => ga K "_law_size") K
abbrev a_law_number (K : Frag) : Addr := (fun K => ga K "_law_number") K
abbrev a_law_pair (K : Frag) : Addr := (fun K => ga K "_law_pair") K
abbrev a_law_perhaps_bad (K : Frag) : Addr := (fun K => ga K "_law_perhaps_bad") K
abbrev a_law_spoiled (K : Frag) : Addr := (fun K => ga K "_law_spoiled") K
abbrev a_law_asked (K : Frag) : Addr := (fun K => ga K "_law_asked") K
abbrev a_law_int (K : Frag) : Addr := (fun K => ga K "_law_int") K
abbrev a_law_same (K : Frag) : Addr := (fun K => ga K "_law_same") K
abbrev a_law_first_bad (K : Frag) : Addr := (fun K => ga K "_law_first_bad") K
abbrev a_law_due_made (K : Frag) : Addr := (fun K => ga K "_law_due_made") K
abbrev a_law_shown (K : Frag) : Addr := (fun K => ga K "_law_shown") K
abbrev a_law_try_made (K : Frag) : Addr := (fun K => ga K "_law_try_made") K
abbrev a_law_caught_as_base (K : Frag) : Addr := (fun K => ga K "_law_caught_as_base") K
abbrev a_law_handed (K : Frag) : Addr := (fun K => ga K "_law_handed") K
abbrev a_law_making_right (K : Frag) : Addr := (fun K => ga K "_law_making_right") K
abbrev a_law_try_joined (K : Frag) : Addr := (fun K => ga K "_law_try_joined") K
abbrev a_law_joining_right (K : Frag) : Addr := (fun K => ga K "_law_joining_right") K
abbrev a_law_lies (K : Frag) : Addr := (fun K => ga K "_law_lies") K
abbrev a_law_lying_right (K : Frag) : Addr := (fun K => ga K "_law_lying_right") K
abbrev a_law_crossing_right (K : Frag) : Addr := (fun K => ga K "_law_crossing_right") K
abbrev a_law_try_pinned (K : Frag) : Addr := (fun K => ga K "_law_try_pinned") K
abbrev a_law_due_pinned (K : Frag) : Addr := (fun K => ga K "_law_due_pinned") K
abbrev a_law_pinning_right (K : Frag) : Addr := (fun K => ga K "_law_pinning_right") K
abbrev a_law (K : Frag) : Addr := (fun K => ga K "law") K
abbrev i_NoPerson (K : Frag) : Addr := ma K (ga K "NoPerson") "__init__"
abbrev i_BadNumber (K : Frag) : Addr := ma K (ga K "BadNumber") "__init__"
abbrev i_TooLong (K : Frag) : Addr := ma K (ga K "TooLong") "__init__"
abbrev i_WrongLength (K : Frag) : Addr := ma K (ga K "WrongLength") "__init__"
abbrev n_wall : List Str := ["k"]
abbrev p_wall : List Str := ["k"]
theorem sc_wall : FnScope n_wall p_wall (defScope s_wall) := ⟨rfl, rfl, rfl, by decide +kernel, rfl, by decide +kernel, by decide +kernel⟩
abbrev n_check_count : List Str := ["count", "most"]
abbrev p_check_count : List Str := ["count", "most"]
theorem sc_check_count : FnScope n_check_count p_check_count (defScope s_check_count) := ⟨rfl, rfl, rfl, by decide +kernel, rfl, by decide +kernel, by decide +kernel⟩
abbrev n_check_number : List Str := ["place", "number", "greatest"]
abbrev p_check_number : List Str := ["place", "number", "greatest"]
theorem sc_check_number : FnScope n_check_number p_check_number (defScope s_check_number) := ⟨rfl, rfl, rfl, by decide +kernel, rfl, by decide +kernel, by decide +kernel⟩
abbrev n_check_numbers : List Str := ["numbers", "greatest", "index", "number"]
abbrev p_check_numbers : List Str := ["numbers", "greatest"]
theorem sc_check_numbers : FnScope n_check_numbers p_check_numbers (defScope s_check_numbers) := ⟨rfl, rfl, rfl, by decide +kernel, rfl, by decide +kernel, by decide +kernel⟩
abbrev n_check_not_negative : List Str := ["number"]
abbrev p_check_not_negative : List Str := ["number"]
theorem sc_check_not_negative : FnScope n_check_not_negative p_check_not_negative (defScope s_check_not_negative) := ⟨rfl, rfl, rfl, by decide +kernel, rfl, by decide +kernel, by decide +kernel⟩
abbrev n_Telling_init : List Str := ["self", "entries"]
abbrev p_Telling_init : List Str := ["self", "entries"]
theorem sc_Telling_init : FnScope n_Telling_init p_Telling_init (defScope s_Telling_init) := ⟨rfl, rfl, rfl, by decide +kernel, rfl, by decide +kernel, by decide +kernel⟩
abbrev n_Telling_len : List Str := ["self"]
abbrev p_Telling_len : List Str := ["self"]
theorem sc_Telling_len : FnScope n_Telling_len p_Telling_len (defScope s_Telling_len) := ⟨rfl, rfl, rfl, by decide +kernel, rfl, by decide +kernel, by decide +kernel⟩
abbrev n_Telling_iter : List Str := ["self"]
abbrev p_Telling_iter : List Str := ["self"]
theorem sc_Telling_iter : FnScope n_Telling_iter p_Telling_iter (defScope s_Telling_iter) := ⟨rfl, rfl, rfl, by decide +kernel, rfl, by decide +kernel, by decide +kernel⟩
abbrev n_Telling_getitem : List Str := ["self", "at"]
abbrev p_Telling_getitem : List Str := ["self", "at"]
theorem sc_Telling_getitem : FnScope n_Telling_getitem p_Telling_getitem (defScope s_Telling_getitem) := ⟨rfl, rfl, rfl, by decide +kernel, rfl, by decide +kernel, by decide +kernel⟩
abbrev n_Telling_eq : List Str := ["self", "other"]
abbrev p_Telling_eq : List Str := ["self", "other"]
theorem sc_Telling_eq : FnScope n_Telling_eq p_Telling_eq (defScope s_Telling_eq) := ⟨rfl, rfl, rfl, by decide +kernel, rfl, by decide +kernel, by decide +kernel⟩
abbrev n_Telling_lt : List Str := ["self", "other"]
abbrev p_Telling_lt : List Str := ["self", "other"]
theorem sc_Telling_lt : FnScope n_Telling_lt p_Telling_lt (defScope s_Telling_lt) := ⟨rfl, rfl, rfl, by decide +kernel, rfl, by decide +kernel, by decide +kernel⟩
abbrev n_Telling_add : List Str := ["self", "other", "one", "two"]
abbrev p_Telling_add : List Str := ["self", "other"]
theorem sc_Telling_add : FnScope n_Telling_add p_Telling_add (defScope s_Telling_add) := ⟨rfl, rfl, rfl, by decide +kernel, rfl, by decide +kernel, by decide +kernel⟩
abbrev n_Telling_mul : List Str := ["self", "other", "entry"]
abbrev p_Telling_mul : List Str := ["self", "other"]
theorem sc_Telling_mul : FnScope n_Telling_mul p_Telling_mul (defScope s_Telling_mul) := ⟨rfl, rfl, rfl, by decide +kernel, rfl, by decide +kernel, by decide +kernel⟩
abbrev n_Telling_rmul : List Str := ["self", "other"]
abbrev p_Telling_rmul : List Str := ["self", "other"]
theorem sc_Telling_rmul : FnScope n_Telling_rmul p_Telling_rmul (defScope s_Telling_rmul) := ⟨rfl, rfl, rfl, by decide +kernel, rfl, by decide +kernel, by decide +kernel⟩
abbrev n_Telling_xor : List Str := ["self", "other", "one", "two"]
abbrev p_Telling_xor : List Str := ["self", "other"]
theorem sc_Telling_xor : FnScope n_Telling_xor p_Telling_xor (defScope s_Telling_xor) := ⟨rfl, rfl, rfl, by decide +kernel, rfl, by decide +kernel, by decide +kernel⟩
abbrev n_Telling_abs : List Str := ["self"]
abbrev p_Telling_abs : List Str := ["self"]
theorem sc_Telling_abs : FnScope n_Telling_abs p_Telling_abs (defScope s_Telling_abs) := ⟨rfl, rfl, rfl, by decide +kernel, rfl, by decide +kernel, by decide +kernel⟩
abbrev n_Telling_no_steeper : List Str := ["self", "other"]
abbrev p_Telling_no_steeper : List Str := ["self", "other"]
theorem sc_Telling_no_steeper : FnScope n_Telling_no_steeper p_Telling_no_steeper (defScope s_Telling_no_steeper) := ⟨rfl, rfl, rfl, by decide +kernel, rfl, by decide +kernel, by decide +kernel⟩
abbrev n_Telling_moved : List Str := ["self", "giver", "taker", "count"]
abbrev p_Telling_moved : List Str := ["self", "giver", "taker", "count"]
theorem sc_Telling_moved : FnScope n_Telling_moved p_Telling_moved (defScope s_Telling_moved) := ⟨rfl, rfl, rfl, by decide +kernel, rfl, by decide +kernel, by decide +kernel⟩
abbrev n_Telling_check_place : List Str := ["self", "person"]
abbrev p_Telling_check_place : List Str := ["self", "person"]
theorem sc_Telling_check_place : FnScope n_Telling_check_place p_Telling_check_place (defScope s_Telling_check_place) := ⟨rfl, rfl, rfl, by decide +kernel, rfl, by decide +kernel, by decide +kernel⟩
abbrev n_Telling_check_alike : List Str := ["self", "other"]
abbrev p_Telling_check_alike : List Str := ["self", "other"]
theorem sc_Telling_check_alike : FnScope n_Telling_check_alike p_Telling_check_alike (defScope s_Telling_check_alike) := ⟨rfl, rfl, rfl, by decide +kernel, rfl, by decide +kernel, by decide +kernel⟩
abbrev n_Bounds_init : List Str := ["self", "lows", "highs"]
abbrev p_Bounds_init : List Str := ["self", "lows", "highs"]
theorem sc_Bounds_init : FnScope n_Bounds_init p_Bounds_init (defScope s_Bounds_init) := ⟨rfl, rfl, rfl, by decide +kernel, rfl, by decide +kernel, by decide +kernel⟩
abbrev n_Bounds_exact : List Str := ["cls", "numbers"]
abbrev p_Bounds_exact : List Str := ["cls", "numbers"]
theorem sc_Bounds_exact : FnScope n_Bounds_exact p_Bounds_exact (defScope s_Bounds_exact) := ⟨rfl, rfl, rfl, by decide +kernel, rfl, by decide +kernel, by decide +kernel⟩
abbrev n_Bounds_up_to : List Str := ["cls", "people", "most"]
abbrev p_Bounds_up_to : List Str := ["cls", "people", "most"]
theorem sc_Bounds_up_to : FnScope n_Bounds_up_to p_Bounds_up_to (defScope s_Bounds_up_to) := ⟨rfl, rfl, rfl, by decide +kernel, rfl, by decide +kernel, by decide +kernel⟩
abbrev n_Bounds_len : List Str := ["self"]
abbrev p_Bounds_len : List Str := ["self"]
theorem sc_Bounds_len : FnScope n_Bounds_len p_Bounds_len (defScope s_Bounds_len) := ⟨rfl, rfl, rfl, by decide +kernel, rfl, by decide +kernel, by decide +kernel⟩
abbrev n_Bounds_and : List Str := ["self", "other", "one", "two"]
abbrev p_Bounds_and : List Str := ["self", "other"]
theorem sc_Bounds_and : FnScope n_Bounds_and p_Bounds_and (defScope s_Bounds_and) := ⟨rfl, rfl, rfl, by decide +kernel, rfl, by decide +kernel, by decide +kernel⟩
abbrev n_Bounds_or : List Str := ["self", "other", "one", "two"]
abbrev p_Bounds_or : List Str := ["self", "other"]
theorem sc_Bounds_or : FnScope n_Bounds_or p_Bounds_or (defScope s_Bounds_or) := ⟨rfl, rfl, rfl, by decide +kernel, rfl, by decide +kernel, by decide +kernel⟩
abbrev n_Bounds_contains : List Str := ["self", "x", "numbers", "low", "number", "high"]
abbrev p_Bounds_contains : List Str := ["self", "x"]
theorem sc_Bounds_contains : FnScope n_Bounds_contains p_Bounds_contains (defScope s_Bounds_contains) := ⟨rfl, rfl, rfl, by decide +kernel, rfl, by decide +kernel, by decide +kernel⟩
abbrev n_Bounds_crossed : List Str := ["self", "person", "low"]
abbrev p_Bounds_crossed : List Str := ["self"]
theorem sc_Bounds_crossed : FnScope n_Bounds_crossed p_Bounds_crossed (defScope s_Bounds_crossed) := ⟨rfl, rfl, rfl, by decide +kernel, rfl, by decide +kernel, by decide +kernel⟩
abbrev n_Bounds_pinned : List Str := ["self", "person", "low", "high", "lows", "highs"]
abbrev p_Bounds_pinned : List Str := ["self", "person", "low", "high"]
theorem sc_Bounds_pinned : FnScope n_Bounds_pinned p_Bounds_pinned (defScope s_Bounds_pinned) := ⟨rfl, rfl, rfl, by decide +kernel, rfl, by decide +kernel, by decide +kernel⟩
abbrev n_Bounds_check_alike : List Str := ["self", "other"]
abbrev p_Bounds_check_alike : List Str := ["self", "other"]
theorem sc_Bounds_check_alike : FnScope n_Bounds_check_alike p_Bounds_check_alike (defScope s_Bounds_check_alike) := ⟨rfl, rfl, rfl, by decide +kernel, rfl, by decide +kernel, by decide +kernel⟩
abbrev n_law_pool : List Str := ["script", "at", "cell"]
abbrev p_law_pool : List Str := ["script", "at"]
theorem sc_law_pool : FnScope n_law_pool p_law_pool (defScope s_law_pool) := ⟨rfl, rfl, rfl, by decide +kernel, rfl, by decide +kernel, by decide +kernel⟩
abbrev n_law_draw : List Str := ["pool", "many", "value", "mixed"]
abbrev p_law_draw : List Str := ["pool", "many"]
theorem sc_law_draw : FnScope n_law_draw p_law_draw (defScope s_law_draw) := ⟨rfl, rfl, rfl, by decide +kernel, rfl, by decide +kernel, by decide +kernel⟩
abbrev n_law_size : List Str := ["pool", "most"]
abbrev p_law_size : List Str := ["pool", "most"]
theorem sc_law_size : FnScope n_law_size p_law_size (defScope s_law_size) := ⟨rfl, rfl, rfl, by decide +kernel, rfl, by decide +kernel, by decide +kernel⟩
abbrev n_law_number : List Str := ["pool", "way"]
abbrev p_law_number : List Str := ["pool"]
theorem sc_law_number : FnScope n_law_number p_law_number (defScope s_law_number) := ⟨rfl, rfl, rfl, by decide +kernel, rfl, by decide +kernel, by decide +kernel⟩
abbrev n_law_pair : List Str := ["pool", "people", "lows", "highs", "straight", "person", "low", "high"]
abbrev p_law_pair : List Str := ["pool", "people"]
theorem sc_law_pair : FnScope n_law_pair p_law_pair (defScope s_law_pair) := ⟨rfl, rfl, rfl, by decide +kernel, rfl, by decide +kernel, by decide +kernel⟩
abbrev n_law_perhaps_bad : List Str := ["pool", "number", "way", "far"]
abbrev p_law_perhaps_bad : List Str := ["pool", "number"]
theorem sc_law_perhaps_bad : FnScope n_law_perhaps_bad p_law_perhaps_bad (defScope s_law_perhaps_bad) := ⟨rfl, rfl, rfl, by decide +kernel, rfl, by decide +kernel, by decide +kernel⟩
abbrev n_law_spoiled : List Str := ["pool", "pair", "lows", "highs", "low", "high", "way", "more"]
abbrev p_law_spoiled : List Str := ["pool", "pair"]
theorem sc_law_spoiled : FnScope n_law_spoiled p_law_spoiled (defScope s_law_spoiled) := ⟨rfl, rfl, rfl, by decide +kernel, rfl, by decide +kernel, by decide +kernel⟩
abbrev n_law_asked : List Str := ["pool", "lows", "highs", "numbers", "place", "width", "other", "way"]
abbrev p_law_asked : List Str := ["pool", "lows", "highs"]
theorem sc_law_asked : FnScope n_law_asked p_law_asked (defScope s_law_asked) := ⟨rfl, rfl, rfl, by decide +kernel, rfl, by decide +kernel, by decide +kernel⟩
abbrev n_law_int : List Str := ["x"]
abbrev p_law_int : List Str := ["x"]
theorem sc_law_int : FnScope n_law_int p_law_int (defScope s_law_int) := ⟨rfl, rfl, rfl, by decide +kernel, rfl, by decide +kernel, by decide +kernel⟩
abbrev n_law_same : List Str := ["got", "due", "place"]
abbrev p_law_same : List Str := ["got", "due"]
theorem sc_law_same : FnScope n_law_same p_law_same (defScope s_law_same) := ⟨rfl, rfl, rfl, by decide +kernel, rfl, by decide +kernel, by decide +kernel⟩
abbrev n_law_first_bad : List Str := ["numbers", "place"]
abbrev p_law_first_bad : List Str := ["numbers"]
theorem sc_law_first_bad : FnScope n_law_first_bad p_law_first_bad (defScope s_law_first_bad) := ⟨rfl, rfl, rfl, by decide +kernel, rfl, by decide +kernel, by decide +kernel⟩
abbrev n_law_due_made : List Str := ["lows", "highs", "bad"]
abbrev p_law_due_made : List Str := ["lows", "highs"]
theorem sc_law_due_made : FnScope n_law_due_made p_law_due_made (defScope s_law_due_made) := ⟨rfl, rfl, rfl, by decide +kernel, rfl, by decide +kernel, by decide +kernel⟩
abbrev n_law_shown : List Str := ["box"]
abbrev p_law_shown : List Str := ["box"]
theorem sc_law_shown : FnScope n_law_shown p_law_shown (defScope s_law_shown) := ⟨rfl, rfl, rfl, by decide +kernel, rfl, by decide +kernel, by decide +kernel⟩
abbrev n_law_try_made : List Str := ["way", "one", "two", "box", "word", "e"]
abbrev p_law_try_made : List Str := ["way", "one", "two"]
theorem sc_law_try_made : FnScope n_law_try_made p_law_try_made (defScope s_law_try_made) := ⟨rfl, rfl, rfl, by decide +kernel, rfl, by decide +kernel, by decide +kernel⟩
abbrev n_law_caught_as_base : List Str := ["lows", "highs", "caught", "e"]
abbrev p_law_caught_as_base : List Str := ["lows", "highs"]
theorem sc_law_caught_as_base : FnScope n_law_caught_as_base p_law_caught_as_base (defScope s_law_caught_as_base) := ⟨rfl, rfl, rfl, by decide +kernel, rfl, by decide +kernel, by decide +kernel⟩
abbrev n_law_handed : List Str := ["numbers", "way"]
abbrev p_law_handed : List Str := ["numbers", "way"]
theorem sc_law_handed : FnScope n_law_handed p_law_handed (defScope s_law_handed) := ⟨rfl, rfl, rfl, by decide +kernel, rfl, by decide +kernel, by decide +kernel⟩
abbrev n_law_making_right : List Str := ["pool", "pair", "lows", "highs", "way", "one", "two", "due", "alone", "people", "most"]
abbrev p_law_making_right : List Str := ["pool", "pair"]
theorem sc_law_making_right : FnScope n_law_making_right p_law_making_right (defScope s_law_making_right) := ⟨rfl, rfl, rfl, by decide +kernel, rfl, by decide +kernel, by decide +kernel⟩
abbrev n_law_try_joined : List Str := ["way", "box", "other", "joined", "word", "e"]
abbrev p_law_try_joined : List Str := ["way", "box", "other"]
theorem sc_law_try_joined : FnScope n_law_try_joined p_law_try_joined (defScope s_law_try_joined) := ⟨rfl, rfl, rfl, by decide +kernel, rfl, by decide +kernel, by decide +kernel⟩
abbrev n_law_joining_right : List Str := ["box", "other", "pair", "second", "lows", "highs", "people", "due", "inner", "place", "upper"]
abbrev p_law_joining_right : List Str := ["box", "other", "pair", "second"]
theorem sc_law_joining_right : FnScope n_law_joining_right p_law_joining_right (defScope s_law_joining_right) := ⟨rfl, rfl, rfl, by decide +kernel, rfl, by decide +kernel, by decide +kernel⟩
abbrev n_law_lies : List Str := ["numbers", "lows", "highs", "place"]
abbrev p_law_lies : List Str := ["numbers", "lows", "highs"]
theorem sc_law_lies : FnScope n_law_lies p_law_lies (defScope s_law_lies) := ⟨rfl, rfl, rfl, by decide +kernel, rfl, by decide +kernel, by decide +kernel⟩
abbrev n_law_lying_right : List Str := ["box", "numbers", "lows", "highs", "due", "handed", "odd", "number", "long", "strange"]
abbrev p_law_lying_right : List Str := ["box", "numbers", "lows", "highs"]
theorem sc_law_lying_right : FnScope n_law_lying_right p_law_lying_right (defScope s_law_lying_right) := ⟨rfl, rfl, rfl, by decide +kernel, rfl, by decide +kernel, by decide +kernel⟩
abbrev n_law_crossing_right : List Str := ["box", "lows", "highs", "due", "place", "found"]
abbrev p_law_crossing_right : List Str := ["box", "lows", "highs"]
theorem sc_law_crossing_right : FnScope n_law_crossing_right p_law_crossing_right (defScope s_law_crossing_right) := ⟨rfl, rfl, rfl, by decide +kernel, rfl, by decide +kernel, by decide +kernel⟩
abbrev n_law_try_pinned : List Str := ["box", "person", "low", "high", "pinned", "word", "e"]
abbrev p_law_try_pinned : List Str := ["box", "person", "low", "high"]
theorem sc_law_try_pinned : FnScope n_law_try_pinned p_law_try_pinned (defScope s_law_try_pinned) := ⟨rfl, rfl, rfl, by decide +kernel, rfl, by decide +kernel, by decide +kernel⟩
abbrev n_law_due_pinned : List Str := ["lows", "highs", "person", "low", "high", "below", "above"]
abbrev p_law_due_pinned : List Str := ["lows", "highs", "person", "low", "high"]
theorem sc_law_due_pinned : FnScope n_law_due_pinned p_law_due_pinned (defScope s_law_due_pinned) := ⟨rfl, rfl, rfl, by decide +kernel, rfl, by decide +kernel, by decide +kernel⟩
abbrev n_law_pinning_right : List Str := ["pool", "box", "lows", "highs", "low", "high", "person", "due"]
abbrev p_law_pinning_right : List Str := ["pool", "box", "lows", "highs"]
theorem sc_law_pinning_right : FnScope n_law_pinning_right p_law_pinning_right (defScope s_law_pinning_right) := ⟨rfl, rfl, rfl, by decide +kernel, rfl, by decide +kernel, by decide +kernel⟩
abbrev n_law : List Str := ["script", "pool", "people", "pair", "more", "second", "one", "two", "box", "due", "other", "numbers"]
abbrev p_law : List Str := ["script"]
theorem sc_law : FnScope n_law p_law (defScope s_law) := ⟨rfl, rfl, rfl, by decide +kernel, rfl, by decide +kernel, by decide +kernel⟩
theorem bi_wall {K : Frag} {fd : FuncData} (F : FunD K "_wall" "_wall" (defArgs s_wall) (defBody s_wall) (defScope s_wall) [] [] (a_wall K) fd) : Binds K fd p_wall [] := F.bindsN fun _ _ _ _ _ _ us hl => (match us, hl with | [_], _ => rfl)
theorem bi_check_count {K : Frag} {fd : FuncData} (F : FunD K "check_count" "check_count" (defArgs s_check_count) (defBody s_check_count) (defScope s_check_count) [] [] (a_check_count K) fd) : Binds K fd p_check_count [] := F.bindsN fun _ _ _ _ _ _ us hl => (match us, hl with | [_, _], _ => rfl)
theorem bi_check_number {K : Frag} {fd : FuncData} (F : FunD K "check_number" "check_number" (defArgs s_check_number) (defBody s_check_number) (defScope s_check_number) [] [] (a_check_number K) fd) : Binds K fd p_check_number [] := F.bindsN fun _ _ _ _ _ _ us hl => (match us, hl with | [_, _, _], _ => rfl)
theorem bi_check_numbers {K : Frag} {fd : FuncData} (F : FunD K "check_numbers" "check_numbers" (defArgs s_check_numbers) (defBody s_check_numbers) (defScope s_check_numbers) [] [] (a_check_numbers K) fd) : Binds K fd p_check_numbers [] := F.bindsN fun _ _ _ _ _ _ us hl => (match us, hl with | [_, _], _ => rfl)
theorem bi_check_not_negative {K : Frag} {fd : FuncData} (F : FunD K "check_not_negative" "check_not_negative" (defArgs s_check_not_negative) (defBody s_check_not_negative) (defScope s_check_not_negative) [] [] (a_check_not_negative K) fd) : Binds K fd p_check_not_negative [] := F.bindsN fun _ _ _ _ _ _ us hl => (match us, hl with | [_], _ => rfl)
theorem bi_Telling_init {K : Frag} {fd : FuncData} (F : FunD K "__init__" "Telling.__init__" (defArgs s_Telling_init) (defBody s_Telling_init) (defScope s_Telling_init) [] [] (a_Telling_init K) fd) : Binds K fd p_Telling_init [] := F.bindsN fun _ _ _ _ _ _ us hl => (match us, hl with | [_, _], _ => rfl)
theorem bi_Telling_len {K : Frag} {fd : FuncData} (F : FunD K "__len__" "Telling.__len__" (defArgs s_Telling_len) (defBody s_Telling_len) (defScope s_Telling_len) [] [] (a_Telling_len K) fd) : Binds K fd p_Telling_len [] := F.bindsN fun _ _ _ _ _ _ us hl => (match us, hl with | [_], _ => rfl)
theorem bi_Telling_iter {K : Frag} {fd : FuncData} (F : FunD K "__iter__" "Telling.__iter__" (defArgs s_Telling_iter) (defBody s_Telling_iter) (defScope s_Telling_iter) [] [] (a_Telling_iter K) fd) : Binds K fd p_Telling_iter [] := F.bindsN fun _ _ _ _ _ _ us hl => (match us, hl with | [_], _ => rfl)
theorem bi_Telling_getitem {K : Frag} {fd : FuncData} (F : FunD K "__getitem__" "Telling.__getitem__" (defArgs s_Telling_getitem) (defBody s_Telling_getitem) (defScope s_Telling_getitem) [] [] (a_Telling_getitem K) fd) : Binds K fd p_Telling_getitem [] := F.bindsN fun _ _ _ _ _ _ us hl => (match us, hl with | [_, _], _ => rfl)
theorem bi_Telling_eq {K : Frag} {fd : FuncData} (F : FunD K "__eq__" "Telling.__eq__" (defArgs s_Telling_eq) (defBody s_Telling_eq) (defScope s_Telling_eq) [] [] (a_Telling_eq K) fd) : Binds K fd p_Telling_eq [] := F.bindsN fun _ _ _ _ _ _ us hl => (match us, hl with | [_, _], _ => rfl)
theorem bi_Telling_lt {K : Frag} {fd : FuncData} (F : FunD K "__lt__" "Telling.__lt__" (defArgs s_Telling_lt) (defBody s_Telling_lt) (defScope s_Telling_lt) [] [] (a_Telling_lt K) fd) : Binds K fd p_Telling_lt [] := F.bindsN fun _ _ _ _ _ _ us hl => (match us, hl with | [_, _], _ => rfl)
theorem bi_Telling_add {K : Frag} {fd : FuncData} (F : FunD K "__add__" "Telling.__add__" (defArgs s_Telling_add) (defBody s_Telling_add) (defScope s_Telling_add) [] [] (a_Telling_add K) fd) : Binds K fd p_Telling_add [] := F.bindsN fun _ _ _ _ _ _ us hl => (match us, hl with | [_, _], _ => rfl)
theorem bi_Telling_mul {K : Frag} {fd : FuncData} (F : FunD K "__mul__" "Telling.__mul__" (defArgs s_Telling_mul) (defBody s_Telling_mul) (defScope s_Telling_mul) [] [] (a_Telling_mul K) fd) : Binds K fd p_Telling_mul [] := F.bindsN fun _ _ _ _ _ _ us hl => (match us, hl with | [_, _], _ => rfl)
theorem bi_Telling_rmul {K : Frag} {fd : FuncData} (F : FunD K "__rmul__" "Telling.__rmul__" (defArgs s_Telling_rmul) (defBody s_Telling_rmul) (defScope s_Telling_rmul) [] [] (a_Telling_rmul K) fd) : Binds K fd p_Telling_rmul [] := F.bindsN fun _ _ _ _ _ _ us hl => (match us, hl with | [_, _], _ => rfl)
theorem bi_Telling_xor {K : Frag} {fd : FuncData} (F : FunD K "__xor__" "Telling.__xor__" (defArgs s_Telling_xor) (defBody s_Telling_xor) (defScope s_Telling_xor) [] [] (a_Telling_xor K) fd) : Binds K fd p_Telling_xor [] := F.bindsN fun _ _ _ _ _ _ us hl => (match us, hl with | [_, _], _ => rfl)
theorem bi_Telling_abs {K : Frag} {fd : FuncData} (F : FunD K "__abs__" "Telling.__abs__" (defArgs s_Telling_abs) (defBody s_Telling_abs) (defScope s_Telling_abs) [] [] (a_Telling_abs K) fd) : Binds K fd p_Telling_abs [] := F.bindsN fun _ _ _ _ _ _ us hl => (match us, hl with | [_], _ => rfl)
theorem bi_Telling_no_steeper {K : Frag} {fd : FuncData} (F : FunD K "no_steeper" "Telling.no_steeper" (defArgs s_Telling_no_steeper) (defBody s_Telling_no_steeper) (defScope s_Telling_no_steeper) [] [] (a_Telling_no_steeper K) fd) : Binds K fd p_Telling_no_steeper [] := F.bindsN fun _ _ _ _ _ _ us hl => (match us, hl with | [_, _], _ => rfl)
theorem bi_Telling_check_place {K : Frag} {fd : FuncData} (F : FunD K "_check_place" "Telling._check_place" (defArgs s_Telling_check_place) (defBody s_Telling_check_place) (defScope s_Telling_check_place) [] [] (a_Telling_check_place K) fd) : Binds K fd p_Telling_check_place [] := F.bindsN fun _ _ _ _ _ _ us hl => (match us, hl with | [_, _], _ => rfl)
theorem bi_Telling_check_alike {K : Frag} {fd : FuncData} (F : FunD K "_check_alike" "Telling._check_alike" (defArgs s_Telling_check_alike) (defBody s_Telling_check_alike) (defScope s_Telling_check_alike) [] [] (a_Telling_check_alike K) fd) : Binds K fd p_Telling_check_alike [] := F.bindsN fun _ _ _ _ _ _ us hl => (match us, hl with | [_, _], _ => rfl)
theorem bi_Bounds_init {K : Frag} {fd : FuncData} (F : FunD K "__init__" "Bounds.__init__" (defArgs s_Bounds_init) (defBody s_Bounds_init) (defScope s_Bounds_init) [] [] (a_Bounds_init K) fd) : Binds K fd p_Bounds_init [] := F.bindsN fun _ _ _ _ _ _ us hl => (match us, hl with | [_, _, _], _ => rfl)
theorem bi_Bounds_exact {K : Frag} {fd : FuncData} (F : FunD K "exact" "Bounds.exact" (defArgs s_Bounds_exact) (defBody s_Bounds_exact) (defScope s_Bounds_exact) [] [] (a_Bounds_exact K) fd) : Binds K fd p_Bounds_exact [] := F.bindsN fun _ _ _ _ _ _ us hl => (match us, hl with | [_, _], _ => rfl)
theorem bi_Bounds_up_to {K : Frag} {fd : FuncData} (F : FunD K "up_to" "Bounds.up_to" (defArgs s_Bounds_up_to) (defBody s_Bounds_up_to) (defScope s_Bounds_up_to) [] [] (a_Bounds_up_to K) fd) : Binds K fd p_Bounds_up_to [] := F.bindsN fun _ _ _ _ _ _ us hl => (match us, hl with | [_, _, _], _ => rfl)
theorem bi_Bounds_len {K : Frag} {fd : FuncData} (F : FunD K "__len__" "Bounds.__len__" (defArgs s_Bounds_len) (defBody s_Bounds_len) (defScope s_Bounds_len) [] [] (a_Bounds_len K) fd) : Binds K fd p_Bounds_len [] := F.bindsN fun _ _ _ _ _ _ us hl => (match us, hl with | [_], _ => rfl)
theorem bi_Bounds_and {K : Frag} {fd : FuncData} (F : FunD K "__and__" "Bounds.__and__" (defArgs s_Bounds_and) (defBody s_Bounds_and) (defScope s_Bounds_and) [] [] (a_Bounds_and K) fd) : Binds K fd p_Bounds_and [] := F.bindsN fun _ _ _ _ _ _ us hl => (match us, hl with | [_, _], _ => rfl)
theorem bi_Bounds_or {K : Frag} {fd : FuncData} (F : FunD K "__or__" "Bounds.__or__" (defArgs s_Bounds_or) (defBody s_Bounds_or) (defScope s_Bounds_or) [] [] (a_Bounds_or K) fd) : Binds K fd p_Bounds_or [] := F.bindsN fun _ _ _ _ _ _ us hl => (match us, hl with | [_, _], _ => rfl)
theorem bi_Bounds_contains {K : Frag} {fd : FuncData} (F : FunD K "__contains__" "Bounds.__contains__" (defArgs s_Bounds_contains) (defBody s_Bounds_contains) (defScope s_Bounds_contains) [] [] (a_Bounds_contains K) fd) : Binds K fd p_Bounds_contains [] := F.bindsN fun _ _ _ _ _ _ us hl => (match us, hl with | [_, _], _ => rfl)
theorem bi_Bounds_crossed {K : Frag} {fd : FuncData} (F : FunD K "crossed" "Bounds.crossed" (defArgs s_Bounds_crossed) (defBody s_Bounds_crossed) (defScope s_Bounds_crossed) [] [] (a_Bounds_crossed K) fd) : Binds K fd p_Bounds_crossed [] := F.bindsN fun _ _ _ _ _ _ us hl => (match us, hl with | [_], _ => rfl)
theorem bi_Bounds_pinned {K : Frag} {fd : FuncData} (F : FunD K "pinned" "Bounds.pinned" (defArgs s_Bounds_pinned) (defBody s_Bounds_pinned) (defScope s_Bounds_pinned) [] [] (a_Bounds_pinned K) fd) : Binds K fd p_Bounds_pinned [] := F.bindsN fun _ _ _ _ _ _ us hl => (match us, hl with | [_, _, _, _], _ => rfl)
theorem bi_Bounds_check_alike {K : Frag} {fd : FuncData} (F : FunD K "_check_alike" "Bounds._check_alike" (defArgs s_Bounds_check_alike) (defBody s_Bounds_check_alike) (defScope s_Bounds_check_alike) [] [] (a_Bounds_check_alike K) fd) : Binds K fd p_Bounds_check_alike [] := F.bindsN fun _ _ _ _ _ _ us hl => (match us, hl with | [_, _], _ => rfl)
theorem bi_law_pool {K : Frag} {fd : FuncData} (F : FunD K "_law_pool" "_law_pool" (defArgs s_law_pool) (defBody s_law_pool) (defScope s_law_pool) [] [] (a_law_pool K) fd) : Binds K fd p_law_pool [] := F.bindsN fun _ _ _ _ _ _ us hl => (match us, hl with | [_, _], _ => rfl)
theorem bi_law_draw {K : Frag} {fd : FuncData} (F : FunD K "_law_draw" "_law_draw" (defArgs s_law_draw) (defBody s_law_draw) (defScope s_law_draw) [] [] (a_law_draw K) fd) : Binds K fd p_law_draw [] := F.bindsN fun _ _ _ _ _ _ us hl => (match us, hl with | [_, _], _ => rfl)
theorem bi_law_size {K : Frag} {fd : FuncData} (F : FunD K "_law_size" "_law_size" (defArgs s_law_size) (defBody s_law_size) (defScope s_law_size) [] [] (a_law_size K) fd) : Binds K fd p_law_size [] := F.bindsN fun _ _ _ _ _ _ us hl => (match us, hl with | [_, _], _ => rfl)
theorem bi_law_number {K : Frag} {fd : FuncData} (F : FunD K "_law_number" "_law_number" (defArgs s_law_number) (defBody s_law_number) (defScope s_law_number) [] [] (a_law_number K) fd) : Binds K fd p_law_number [] := F.bindsN fun _ _ _ _ _ _ us hl => (match us, hl with | [_], _ => rfl)
theorem bi_law_pair {K : Frag} {fd : FuncData} (F : FunD K "_law_pair" "_law_pair" (defArgs s_law_pair) (defBody s_law_pair) (defScope s_law_pair) [] [] (a_law_pair K) fd) : Binds K fd p_law_pair [] := F.bindsN fun _ _ _ _ _ _ us hl => (match us, hl with | [_, _], _ => rfl)
theorem bi_law_perhaps_bad {K : Frag} {fd : FuncData} (F : FunD K "_law_perhaps_bad" "_law_perhaps_bad" (defArgs s_law_perhaps_bad) (defBody s_law_perhaps_bad) (defScope s_law_perhaps_bad) [] [] (a_law_perhaps_bad K) fd) : Binds K fd p_law_perhaps_bad [] := F.bindsN fun _ _ _ _ _ _ us hl => (match us, hl with | [_, _], _ => rfl)
theorem bi_law_spoiled {K : Frag} {fd : FuncData} (F : FunD K "_law_spoiled" "_law_spoiled" (defArgs s_law_spoiled) (defBody s_law_spoiled) (defScope s_law_spoiled) [] [] (a_law_spoiled K) fd) : Binds K fd p_law_spoiled [] := F.bindsN fun _ _ _ _ _ _ us hl => (match us, hl with | [_, _], _ => rfl)
theorem bi_law_asked {K : Frag} {fd : FuncData} (F : FunD K "_law_asked" "_law_asked" (defArgs s_law_asked) (defBody s_law_asked) (defScope s_law_asked) [] [] (a_law_asked K) fd) : Binds K fd p_law_asked [] := F.bindsN fun _ _ _ _ _ _ us hl => (match us, hl with | [_, _, _], _ => rfl)
theorem bi_law_int {K : Frag} {fd : FuncData} (F : FunD K "_law_int" "_law_int" (defArgs s_law_int) (defBody s_law_int) (defScope s_law_int) [] [] (a_law_int K) fd) : Binds K fd p_law_int [] := F.bindsN fun _ _ _ _ _ _ us hl => (match us, hl with | [_], _ => rfl)
theorem bi_law_same {K : Frag} {fd : FuncData} (F : FunD K "_law_same" "_law_same" (defArgs s_law_same) (defBody s_law_same) (defScope s_law_same) [] [] (a_law_same K) fd) : Binds K fd p_law_same [] := F.bindsN fun _ _ _ _ _ _ us hl => (match us, hl with | [_, _], _ => rfl)
theorem bi_law_first_bad {K : Frag} {fd : FuncData} (F : FunD K "_law_first_bad" "_law_first_bad" (defArgs s_law_first_bad) (defBody s_law_first_bad) (defScope s_law_first_bad) [] [] (a_law_first_bad K) fd) : Binds K fd p_law_first_bad [] := F.bindsN fun _ _ _ _ _ _ us hl => (match us, hl with | [_], _ => rfl)
theorem bi_law_due_made {K : Frag} {fd : FuncData} (F : FunD K "_law_due_made" "_law_due_made" (defArgs s_law_due_made) (defBody s_law_due_made) (defScope s_law_due_made) [] [] (a_law_due_made K) fd) : Binds K fd p_law_due_made [] := F.bindsN fun _ _ _ _ _ _ us hl => (match us, hl with | [_, _], _ => rfl)
theorem bi_law_shown {K : Frag} {fd : FuncData} (F : FunD K "_law_shown" "_law_shown" (defArgs s_law_shown) (defBody s_law_shown) (defScope s_law_shown) [] [] (a_law_shown K) fd) : Binds K fd p_law_shown [] := F.bindsN fun _ _ _ _ _ _ us hl => (match us, hl with | [_], _ => rfl)
theorem bi_law_try_made {K : Frag} {fd : FuncData} (F : FunD K "_law_try_made" "_law_try_made" (defArgs s_law_try_made) (defBody s_law_try_made) (defScope s_law_try_made) [] [] (a_law_try_made K) fd) : Binds K fd p_law_try_made [] := F.bindsN fun _ _ _ _ _ _ us hl => (match us, hl with | [_, _, _], _ => rfl)
theorem bi_law_caught_as_base {K : Frag} {fd : FuncData} (F : FunD K "_law_caught_as_base" "_law_caught_as_base" (defArgs s_law_caught_as_base) (defBody s_law_caught_as_base) (defScope s_law_caught_as_base) [] [] (a_law_caught_as_base K) fd) : Binds K fd p_law_caught_as_base [] := F.bindsN fun _ _ _ _ _ _ us hl => (match us, hl with | [_, _], _ => rfl)
theorem bi_law_handed {K : Frag} {fd : FuncData} (F : FunD K "_law_handed" "_law_handed" (defArgs s_law_handed) (defBody s_law_handed) (defScope s_law_handed) [] [] (a_law_handed K) fd) : Binds K fd p_law_handed [] := F.bindsN fun _ _ _ _ _ _ us hl => (match us, hl with | [_, _], _ => rfl)
theorem bi_law_making_right {K : Frag} {fd : FuncData} (F : FunD K "_law_making_right" "_law_making_right" (defArgs s_law_making_right) (defBody s_law_making_right) (defScope s_law_making_right) [] [] (a_law_making_right K) fd) : Binds K fd p_law_making_right [] := F.bindsN fun _ _ _ _ _ _ us hl => (match us, hl with | [_, _], _ => rfl)
theorem bi_law_try_joined {K : Frag} {fd : FuncData} (F : FunD K "_law_try_joined" "_law_try_joined" (defArgs s_law_try_joined) (defBody s_law_try_joined) (defScope s_law_try_joined) [] [] (a_law_try_joined K) fd) : Binds K fd p_law_try_joined [] := F.bindsN fun _ _ _ _ _ _ us hl => (match us, hl with | [_, _, _], _ => rfl)
theorem bi_law_joining_right {K : Frag} {fd : FuncData} (F : FunD K "_law_joining_right" "_law_joining_right" (defArgs s_law_joining_right) (defBody s_law_joining_right) (defScope s_law_joining_right) [] [] (a_law_joining_right K) fd) : Binds K fd p_law_joining_right [] := F.bindsN fun _ _ _ _ _ _ us hl => (match us, hl with | [_, _, _, _], _ => rfl)
theorem bi_law_lies {K : Frag} {fd : FuncData} (F : FunD K "_law_lies" "_law_lies" (defArgs s_law_lies) (defBody s_law_lies) (defScope s_law_lies) [] [] (a_law_lies K) fd) : Binds K fd p_law_lies [] := F.bindsN fun _ _ _ _ _ _ us hl => (match us, hl with | [_, _, _], _ => rfl)
theorem bi_law_lying_right {K : Frag} {fd : FuncData} (F : FunD K "_law_lying_right" "_law_lying_right" (defArgs s_law_lying_right) (defBody s_law_lying_right) (defScope s_law_lying_right) [] [] (a_law_lying_right K) fd) : Binds K fd p_law_lying_right [] := F.bindsN fun _ _ _ _ _ _ us hl => (match us, hl with | [_, _, _, _], _ => rfl)
theorem bi_law_crossing_right {K : Frag} {fd : FuncData} (F : FunD K "_law_crossing_right" "_law_crossing_right" (defArgs s_law_crossing_right) (defBody s_law_crossing_right) (defScope s_law_crossing_right) [] [] (a_law_crossing_right K) fd) : Binds K fd p_law_crossing_right [] := F.bindsN fun _ _ _ _ _ _ us hl => (match us, hl with | [_, _, _], _ => rfl)
theorem bi_law_try_pinned {K : Frag} {fd : FuncData} (F : FunD K "_law_try_pinned" "_law_try_pinned" (defArgs s_law_try_pinned) (defBody s_law_try_pinned) (defScope s_law_try_pinned) [] [] (a_law_try_pinned K) fd) : Binds K fd p_law_try_pinned [] := F.bindsN fun _ _ _ _ _ _ us hl => (match us, hl with | [_, _, _, _], _ => rfl)
theorem bi_law_due_pinned {K : Frag} {fd : FuncData} (F : FunD K "_law_due_pinned" "_law_due_pinned" (defArgs s_law_due_pinned) (defBody s_law_due_pinned) (defScope s_law_due_pinned) [] [] (a_law_due_pinned K) fd) : Binds K fd p_law_due_pinned [] := F.bindsN fun _ _ _ _ _ _ us hl => (match us, hl with | [_, _, _, _, _], _ => rfl)
theorem bi_law_pinning_right {K : Frag} {fd : FuncData} (F : FunD K "_law_pinning_right" "_law_pinning_right" (defArgs s_law_pinning_right) (defBody s_law_pinning_right) (defScope s_law_pinning_right) [] [] (a_law_pinning_right K) fd) : Binds K fd p_law_pinning_right [] := F.bindsN fun _ _ _ _ _ _ us hl => (match us, hl with | [_, _, _, _], _ => rfl)
theorem bi_law {K : Frag} {fd : FuncData} (F : FunD K "law" "law" (defArgs s_law) (defBody s_law) (defScope s_law) [] [] (a_law K) fd) : Binds K fd p_law [] := F.bindsN fun _ _ _ _ _ _ us hl => (match us, hl with | [_], _ => rfl)
structure Tx (K : Frag) (mg : Str → Option Value) : Prop where
  any : nsIn K cStatics "thirdparty.any" = some none
  m_super : mg "super" = none
  m_len : mg "len" = none
  m_enumerate : mg "enumerate" = none
  m_tuple : mg "tuple" = none
  m_iter : mg "iter" = none
  m_sum : mg "sum" = none
  m_abs : mg "abs" = none
  m_int : mg "int" = none
  m_range : mg "range" = none
  m_isinstance : mg "isinstance" = none
  m_bool : mg "bool" = none
  m_str : mg "str" = none
  m_list : mg "list" = none
  m_zip : mg "zip" = none
  m_all : mg "all" = none
  m_ValueError : mg "ValueError" = none
  m_max : mg "max" = none
  m_min : mg "min" = none
  g_wall : mg "_wall" = some (.ref (a_wall K))
  g_check_count : mg "check_count" = some (.ref (a_check_count K))
  g_check_number : mg "check_number" = some (.ref (a_check_number K))
  g_check_numbers : mg "check_numbers" = some (.ref (a_check_numbers K))
  g_check_not_negative : mg "check_not_negative" = some (.ref (a_check_not_negative K))
  g_law_pool : mg "_law_pool" = some (.ref (a_law_pool K))
  g_law_draw : mg "_law_draw" = some (.ref (a_law_draw K))
  g_law_size : mg "_law_size" = some (.ref (a_law_size K))
  g_law_number : mg "_law_number" = some (.ref (a_law_number K))
  g_law_pair : mg "_law_pair" = some (.ref (a_law_pair K))
  g_law_perhaps_bad : mg "_law_perhaps_bad" = some (.ref (a_law_perhaps_bad K))
  g_law_spoiled : mg "_law_spoiled" = some (.ref (a_law_spoiled K))
  g_law_asked : mg "_law_asked" = some (.ref (a_law_asked K))
  g_law_int : mg "_law_int" = some (.ref (a_law_int K))
  g_law_same : mg "_law_same" = some (.ref (a_law_same K))
  g_law_first_bad : mg "_law_first_bad" = some (.ref (a_law_first_bad K))
  g_law_due_made : mg "_law_due_made" = some (.ref (a_law_due_made K))
  g_law_shown : mg "_law_shown" = some (.ref (a_law_shown K))
  g_law_try_made : mg "_law_try_made" = some (.ref (a_law_try_made K))
  g_law_caught_as_base : mg "_law_caught_as_base" = some (.ref (a_law_caught_as_base K))
  g_law_handed : mg "_law_handed" = some (.ref (a_law_handed K))
  g_law_making_right : mg "_law_making_right" = some (.ref (a_law_making_right K))
  g_law_try_joined : mg "_law_try_joined" = some (.ref (a_law_try_joined K))
  g_law_joining_right : mg "_law_joining_right" = some (.ref (a_law_joining_right K))
  g_law_lies : mg "_law_lies" = some (.ref (a_law_lies K))
  g_law_lying_right : mg "_law_lying_right" = some (.ref (a_law_lying_right K))
  g_law_crossing_right : mg "_law_crossing_right" = some (.ref (a_law_crossing_right K))
  g_law_try_pinned : mg "_law_try_pinned" = some (.ref (a_law_try_pinned K))
  g_law_due_pinned : mg "_law_due_pinned" = some (.ref (a_law_due_pinned K))
  g_law_pinning_right : mg "_law_pinning_right" = some (.ref (a_law_pinning_right K))
  g_law : mg "law" = some (.ref (a_law K))
  f_wall : ∃ fd, FunD K "_wall" "_wall" (defArgs s_wall) (defBody s_wall) (defScope s_wall) [] [] (a_wall K) fd
  f_check_count : ∃ fd, FunD K "check_count" "check_count" (defArgs s_check_count) (defBody s_check_count) (defScope s_check_count) [] [] (a_check_count K) fd
  f_check_number : ∃ fd, FunD K "check_number" "check_number" (defArgs s_check_number) (defBody s_check_number) (defScope s_check_number) [] [] (a_check_number K) fd
  f_check_numbers : ∃ fd, FunD K "check_numbers" "check_numbers" (defArgs s_check_numbers) (defBody s_check_numbers) (defScope s_check_numbers) [] [] (a_check_numbers K) fd
  f_check_not_negative : ∃ fd, FunD K "check_not_negative" "check_not_negative" (defArgs s_check_not_negative) (defBody s_check_not_negative) (defScope s_check_not_negative) [] [] (a_check_not_negative K) fd
  f_Telling_init : ∃ fd, FunD K "__init__" "Telling.__init__" (defArgs s_Telling_init) (defBody s_Telling_init) (defScope s_Telling_init) [] [] (a_Telling_init K) fd
  f_Telling_len : ∃ fd, FunD K "__len__" "Telling.__len__" (defArgs s_Telling_len) (defBody s_Telling_len) (defScope s_Telling_len) [] [] (a_Telling_len K) fd
  f_Telling_iter : ∃ fd, FunD K "__iter__" "Telling.__iter__" (defArgs s_Telling_iter) (defBody s_Telling_iter) (defScope s_Telling_iter) [] [] (a_Telling_iter K) fd
  f_Telling_getitem : ∃ fd, FunD K "__getitem__" "Telling.__getitem__" (defArgs s_Telling_getitem) (defBody s_Telling_getitem) (defScope s_Telling_getitem) [] [] (a_Telling_getitem K) fd
  f_Telling_eq : ∃ fd, FunD K "__eq__" "Telling.__eq__" (defArgs s_Telling_eq) (defBody s_Telling_eq) (defScope s_Telling_eq) [] [] (a_Telling_eq K) fd
  f_Telling_lt : ∃ fd, FunD K "__lt__" "Telling.__lt__" (defArgs s_Telling_lt) (defBody s_Telling_lt) (defScope s_Telling_lt) [] [] (a_Telling_lt K) fd
  f_Telling_add : ∃ fd, FunD K "__add__" "Telling.__add__" (defArgs s_Telling_add) (defBody s_Telling_add) (defScope s_Telling_add) [] [] (a_Telling_add K) fd
  f_Telling_mul : ∃ fd, FunD K "__mul__" "Telling.__mul__" (defArgs s_Telling_mul) (defBody s_Telling_mul) (defScope s_Telling_mul) [] [] (a_Telling_mul K) fd
  f_Telling_rmul : ∃ fd, FunD K "__rmul__" "Telling.__rmul__" (defArgs s_Telling_rmul) (defBody s_Telling_rmul) (defScope s_Telling_rmul) [] [] (a_Telling_rmul K) fd
  f_Telling_xor : ∃ fd, FunD K "__xor__" "Telling.__xor__" (defArgs s_Telling_xor) (defBody s_Telling_xor) (defScope s_Telling_xor) [] [] (a_Telling_xor K) fd
  f_Telling_abs : ∃ fd, FunD K "__abs__" "Telling.__abs__" (defArgs s_Telling_abs) (defBody s_Telling_abs) (defScope s_Telling_abs) [] [] (a_Telling_abs K) fd
  f_Telling_no_steeper : ∃ fd, FunD K "no_steeper" "Telling.no_steeper" (defArgs s_Telling_no_steeper) (defBody s_Telling_no_steeper) (defScope s_Telling_no_steeper) [] [] (a_Telling_no_steeper K) fd
  f_Telling_moved : ∃ fd, FunD K "moved" "Telling.moved" (defArgs s_Telling_moved) (defBody s_Telling_moved) (defScope s_Telling_moved) [.int (1)] [] (a_Telling_moved K) fd
  f_Telling_check_place : ∃ fd, FunD K "_check_place" "Telling._check_place" (defArgs s_Telling_check_place) (defBody s_Telling_check_place) (defScope s_Telling_check_place) [] [] (a_Telling_check_place K) fd
  f_Telling_check_alike : ∃ fd, FunD K "_check_alike" "Telling._check_alike" (defArgs s_Telling_check_alike) (defBody s_Telling_check_alike) (defScope s_Telling_check_alike) [] [] (a_Telling_check_alike K) fd
  f_Bounds_init : ∃ fd, FunD K "__init__" "Bounds.__init__" (defArgs s_Bounds_init) (defBody s_Bounds_init) (defScope s_Bounds_init) [] [] (a_Bounds_init K) fd
  f_Bounds_exact : ∃ fd, FunD K "exact" "Bounds.exact" (defArgs s_Bounds_exact) (defBody s_Bounds_exact) (defScope s_Bounds_exact) [] [] (a_Bounds_exact K) fd
  f_Bounds_up_to : ∃ fd, FunD K "up_to" "Bounds.up_to" (defArgs s_Bounds_up_to) (defBody s_Bounds_up_to) (defScope s_Bounds_up_to) [] [] (a_Bounds_up_to K) fd
  f_Bounds_len : ∃ fd, FunD K "__len__" "Bounds.__len__" (defArgs s_Bounds_len) (defBody s_Bounds_len) (defScope s_Bounds_len) [] [] (a_Bounds_len K) fd
  f_Bounds_and : ∃ fd, FunD K "__and__" "Bounds.__and__" (defArgs s_Bounds_and) (defBody s_Bounds_and) (defScope s_Bounds_and) [] [] (a_Bounds_and K) fd
  f_Bounds_or : ∃ fd, FunD K "__or__" "Bounds.__or__" (defArgs s_Bounds_or) (defBody s_Bounds_or) (defScope s_Bounds_or) [] [] (a_Bounds_or K) fd
  f_Bounds_contains : ∃ fd, FunD K "__contains__" "Bounds.__contains__" (defArgs s_Bounds_contains) (defBody s_Bounds_contains) (defScope s_Bounds_contains) [] [] (a_Bounds_contains K) fd
  f_Bounds_crossed : ∃ fd, FunD K "crossed" "Bounds.crossed" (defArgs s_Bounds_crossed) (defBody s_Bounds_crossed) (defScope s_Bounds_crossed) [] [] (a_Bounds_crossed K) fd
  f_Bounds_pinned : ∃ fd, FunD K "pinned" "Bounds.pinned" (defArgs s_Bounds_pinned) (defBody s_Bounds_pinned) (defScope s_Bounds_pinned) [] [] (a_Bounds_pinned K) fd
  f_Bounds_check_alike : ∃ fd, FunD K "_check_alike" "Bounds._check_alike" (defArgs s_Bounds_check_alike) (defBody s_Bounds_check_alike) (defScope s_Bounds_check_alike) [] [] (a_Bounds_check_alike K) fd
  f_law_pool : ∃ fd, FunD K "_law_pool" "_law_pool" (defArgs s_law_pool) (defBody s_law_pool) (defScope s_law_pool) [] [] (a_law_pool K) fd
  f_law_draw : ∃ fd, FunD K "_law_draw" "_law_draw" (defArgs s_law_draw) (defBody s_law_draw) (defScope s_law_draw) [] [] (a_law_draw K) fd
  f_law_size : ∃ fd, FunD K "_law_size" "_law_size" (defArgs s_law_size) (defBody s_law_size) (defScope s_law_size) [] [] (a_law_size K) fd
  f_law_number : ∃ fd, FunD K "_law_number" "_law_number" (defArgs s_law_number) (defBody s_law_number) (defScope s_law_number) [] [] (a_law_number K) fd
  f_law_pair : ∃ fd, FunD K "_law_pair" "_law_pair" (defArgs s_law_pair) (defBody s_law_pair) (defScope s_law_pair) [] [] (a_law_pair K) fd
  f_law_perhaps_bad : ∃ fd, FunD K "_law_perhaps_bad" "_law_perhaps_bad" (defArgs s_law_perhaps_bad) (defBody s_law_perhaps_bad) (defScope s_law_perhaps_bad) [] [] (a_law_perhaps_bad K) fd
  f_law_spoiled : ∃ fd, FunD K "_law_spoiled" "_law_spoiled" (defArgs s_law_spoiled) (defBody s_law_spoiled) (defScope s_law_spoiled) [] [] (a_law_spoiled K) fd
  f_law_asked : ∃ fd, FunD K "_law_asked" "_law_asked" (defArgs s_law_asked) (defBody s_law_asked) (defScope s_law_asked) [] [] (a_law_asked K) fd
  f_law_int : ∃ fd, FunD K "_law_int" "_law_int" (defArgs s_law_int) (defBody s_law_int) (defScope s_law_int) [] [] (a_law_int K) fd
  f_law_same : ∃ fd, FunD K "_law_same" "_law_same" (defArgs s_law_same) (defBody s_law_same) (defScope s_law_same) [] [] (a_law_same K) fd
  f_law_first_bad : ∃ fd, FunD K "_law_first_bad" "_law_first_bad" (defArgs s_law_first_bad) (defBody s_law_first_bad) (defScope s_law_first_bad) [] [] (a_law_first_bad K) fd
  f_law_due_made : ∃ fd, FunD K "_law_due_made" "_law_due_made" (defArgs s_law_due_made) (defBody s_law_due_made) (defScope s_law_due_made) [] [] (a_law_due_made K) fd
  f_law_shown : ∃ fd, FunD K "_law_shown" "_law_shown" (defArgs s_law_shown) (defBody s_law_shown) (defScope s_law_shown) [] [] (a_law_shown K) fd
  f_law_try_made : ∃ fd, FunD K "_law_try_made" "_law_try_made" (defArgs s_law_try_made) (defBody s_law_try_made) (defScope s_law_try_made) [] [] (a_law_try_made K) fd
  f_law_caught_as_base : ∃ fd, FunD K "_law_caught_as_base" "_law_caught_as_base" (defArgs s_law_caught_as_base) (defBody s_law_caught_as_base) (defScope s_law_caught_as_base) [] [] (a_law_caught_as_base K) fd
  f_law_handed : ∃ fd, FunD K "_law_handed" "_law_handed" (defArgs s_law_handed) (defBody s_law_handed) (defScope s_law_handed) [] [] (a_law_handed K) fd
  f_law_making_right : ∃ fd, FunD K "_law_making_right" "_law_making_right" (defArgs s_law_making_right) (defBody s_law_making_right) (defScope s_law_making_right) [] [] (a_law_making_right K) fd
  f_law_try_joined : ∃ fd, FunD K "_law_try_joined" "_law_try_joined" (defArgs s_law_try_joined) (defBody s_law_try_joined) (defScope s_law_try_joined) [] [] (a_law_try_joined K) fd
  f_law_joining_right : ∃ fd, FunD K "_law_joining_right" "_law_joining_right" (defArgs s_law_joining_right) (defBody s_law_joining_right) (defScope s_law_joining_right) [] [] (a_law_joining_right K) fd
  f_law_lies : ∃ fd, FunD K "_law_lies" "_law_lies" (defArgs s_law_lies) (defBody s_law_lies) (defScope s_law_lies) [] [] (a_law_lies K) fd
  f_law_lying_right : ∃ fd, FunD K "_law_lying_right" "_law_lying_right" (defArgs s_law_lying_right) (defBody s_law_lying_right) (defScope s_law_lying_right) [] [] (a_law_lying_right K) fd
  f_law_crossing_right : ∃ fd, FunD K "_law_crossing_right" "_law_crossing_right" (defArgs s_law_crossing_right) (defBody s_law_crossing_right) (defScope s_law_crossing_right) [] [] (a_law_crossing_right K) fd
  f_law_try_pinned : ∃ fd, FunD K "_law_try_pinned" "_law_try_pinned" (defArgs s_law_try_pinned) (defBody s_law_try_pinned) (defScope s_law_try_pinned) [] [] (a_law_try_pinned K) fd
  f_law_due_pinned : ∃ fd, FunD K "_law_due_pinned" "_law_due_pinned" (defArgs s_law_due_pinned) (defBody s_law_due_pinned) (defScope s_law_due_pinned) [] [] (a_law_due_pinned K) fd
  f_law_pinning_right : ∃ fd, FunD K "_law_pinning_right" "_law_pinning_right" (defArgs s_law_pinning_right) (defBody s_law_pinning_right) (defScope s_law_pinning_right) [] [] (a_law_pinning_right K) fd
  f_law : ∃ fd, FunD K "law" "law" (defArgs s_law) (defBody s_law) (defScope s_law) [] [] (a_law K) fd
  e_NoPerson : Exn PG K mg "NoPerson" (c_NoPerson K) (i_NoPerson K) ["person"] [("person", "person")]
  e_BadNumber : Exn PG K mg "BadNumber" (c_BadNumber K) (i_BadNumber K) ["place", "number"] [("place", "place"), ("number", "number")]
  e_TooLong : Exn PG K mg "TooLong" (c_TooLong K) (i_TooLong K) ["count"] [("count", "count")]
  e_WrongLength : Exn PG K mg "WrongLength" (c_WrongLength K) (i_WrongLength K) ["found", "wanted"] [("found", "found"), ("wanted", "wanted")]
  cTelling : Cls K (c_Telling K)
  gTelling : mg "Telling" = some (.ref (c_Telling K))
  tTelling : EF.ClsT K (c_Telling K)
  kTelling : Mk K (c_Telling K) (a_Telling_init K)
  nTelling_entries : NoAttr K (c_Telling K) "entries"
  cBounds : Cls K (c_Bounds K)
  gBounds : mg "Bounds" = some (.ref (c_Bounds K))
  tBounds : EF.ClsT K (c_Bounds K)
  kBounds : Mk K (c_Bounds K) (a_Bounds_init K)
  nBounds_lows : NoAttr K (c_Bounds K) "lows"
  nBounds_highs : NoAttr K (c_Bounds K) "highs"
  rBounds : ClX.CRead K (c_Bounds K) FB.mT
  v_MOST_PEOPLE : ∃ t, mg "MOST_PEOPLE" = some (.int 30 t)
  v_LIMIT : ∃ t, mg "LIMIT" = some (.int 1000000000000000000000000000000 t)
  wTelling_len : findIn K (.ref (c_Telling K)) "__len__" = some (some (.ref (a_Telling_len K))) ∧ isFn K (.ref (a_Telling_len K)) = true
  wTelling_iter : findIn K (.ref (c_Telling K)) "__iter__" = some (some (.ref (a_Telling_iter K))) ∧ isFn K (.ref (a_Telling_iter K)) = true
  wBounds_len : findIn K (.ref (c_Bounds K)) "__len__" = some (some (.ref (a_Bounds_len K))) ∧ isFn K (.ref (a_Bounds_len K)) = true
  wBounds_contains : findIn K (.ref (c_Bounds K)) "__contains__" = some (some (.ref (a_Bounds_contains K))) ∧ isFn K (.ref (a_Bounds_contains K)) = true
  wBounds_and : OwnOp K (c_Bounds K) .BitAnd (a_Bounds_and K)
  wBounds_or : OwnOp K (c_Bounds K) .BitOr (a_Bounds_or K)
  wBounds_crossed : Meth K (c_Bounds K) "crossed" (a_Bounds_crossed K)
  wBounds_pinned : Meth K (c_Bounds K) "pinned" (a_Bounds_pinned K)
  wBounds_check_alike : Meth K (c_Bounds K) "_check_alike" (a_Bounds_check_alike K)
  wBounds_exact : ∃ p, ClX.CMet K (c_Bounds K) FB.mT "exact" p (a_Bounds_exact K)
  wBounds_up_to : ∃ p, ClX.CMet K (c_Bounds K) FB.mT "up_to" p (a_Bounds_up_to K)
  gNightsError : mg "NightsError" = some (.ref (c_NightsError K))
  xNoPerson : XfC K (c_NoPerson K) ∧ ExcC K (c_NoPerson K)
  nNoPerson_person : findIn K (.ref (c_NoPerson K)) "person" = some none
  mNoPerson_NightsError : exmOne K (.ref (c_NoPerson K)) (.ref (c_NightsError K)) = some true
  kNoPerson_NightsError : kitOne K (.ref (c_NoPerson K)) (.ref (c_NightsError K)) = some true
  kNoPerson_ValueError : kitOne K (.ref (c_NoPerson K)) (.type "ValueError") = some true
  xTooLong : XfC K (c_TooLong K) ∧ ExcC K (c_TooLong K)
  nTooLong_count : findIn K (.ref (c_TooLong K)) "count" = some none
  mTooLong_NightsError : exmOne K (.ref (c_TooLong K)) (.ref (c_NightsError K)) = some true
  kTooLong_NightsError : kitOne K (.ref (c_TooLong K)) (.ref (c_NightsError K)) = some true
  kTooLong_ValueError : kitOne K (.ref (c_TooLong K)) (.type "ValueError") = some true
  xBadNumber : XfC K (c_BadNumber K) ∧ ExcC K (c_BadNumber K)
  nBadNumber_place : findIn K (.ref (c_BadNumber K)) "place" = some none
  nBadNumber_number : findIn K (.ref (c_BadNumber K)) "number" = some none
  mBadNumber_NightsError : exmOne K (.ref (c_BadNumber K)) (.ref (c_NightsError K)) = some true
  kBadNumber_NightsError : kitOne K (.ref (c_BadNumber K)) (.ref (c_NightsError K)) = some true
  kBadNumber_ValueError : kitOne K (.ref (c_BadNumber K)) (.type "ValueError") = some true
  xWrongLength : XfC K (c_WrongLength K) ∧ ExcC K (c_WrongLength K)
  nWrongLength_found : findIn K (.ref (c_WrongLength K)) "found" = some none
  nWrongLength_wanted : findIn K (.ref (c_WrongLength K)) "wanted" = some none
  mWrongLength_NightsError : exmOne K (.ref (c_WrongLength K)) (.ref (c_NightsError K)) = some true
  kWrongLength_NightsError : kitOne K (.ref (c_WrongLength K)) (.ref (c_NightsError K)) = some true
  kWrongLength_ValueError : kitOne K (.ref (c_WrongLength K)) (.type "ValueError") = some true
  mTooLong_TooLong : exmOne K (.ref (c_TooLong K)) (.ref (c_TooLong K)) = some true
  mTooLong_BadNumber : exmOne K (.ref (c_TooLong K)) (.ref (c_BadNumber K)) = some false
  kTooLong_BadNumber : kitOne K (.ref (c_TooLong K)) (.ref (c_BadNumber K)) = some false
  mTooLong_WrongLength : exmOne K (.ref (c_TooLong K)) (.ref (c_WrongLength K)) = some false
  kTooLong_WrongLength : kitOne K (.ref (c_TooLong K)) (.ref (c_WrongLength K)) = some false
  mBadNumber_TooLong : exmOne K (.ref (c_BadNumber K)) (.ref (c_TooLong K)) = some false
  kBadNumber_TooLong : kitOne K (.ref (c_BadNumber K)) (.ref (c_TooLong K)) = some false
  mBadNumber_BadNumber : exmOne K (.ref (c_BadNumber K)) (.ref (c_BadNumber K)) = some true
  mBadNumber_WrongLength : exmOne K (.ref (c_BadNumber K)) (.ref (c_WrongLength K)) = some false
  kBadNumber_WrongLength : kitOne K (.ref (c_BadNumber K)) (.ref (c_WrongLength K)) = some false
  mWrongLength_TooLong : exmOne K (.ref (c_WrongLength K)) (.ref (c_TooLong K)) = some false
  kWrongLength_TooLong : kitOne K (.ref (c_WrongLength K)) (.ref (c_TooLong K)) = some false
  mWrongLength_BadNumber : exmOne K (.ref (c_WrongLength K)) (.ref (c_BadNumber K)) = some false
  kWrongLength_BadNumber : kitOne K (.ref (c_WrongLength K)) (.ref (c_BadNumber K)) = some false
  mWrongLength_WrongLength : exmOne K (.ref (c_WrongLength K)) (.ref (c_WrongLength K)) = some true
  mNoPerson_NoPerson : exmOne K (.ref (c_NoPerson K)) (.ref (c_NoPerson K)) = some true
  mBadNumber_NoPerson : exmOne K (.ref (c_BadNumber K)) (.ref (c_NoPerson K)) = some false
  kNoPerson_BadNumber : kitOne K (.ref (c_NoPerson K)) (.ref (c_BadNumber K)) = some false
  kBadNumber_NoPerson : kitOne K (.ref (c_BadNumber K)) (.ref (c_NoPerson K)) = some false
  kBounds_Bounds : kitOne K (.ref (c_Bounds K)) (.ref (c_Bounds K)) = some true
theorem tx_of {K : Frag} {h : Heap} {mg : Str → Option Value} (c : SaysX bx fn er "/claim/cut.py" K) (X : K.In h) (G : h.Ns mainGlobals mg) : Tx K mg where
  any := eqO_ok (fact c 1)
  m_super := free_ok X G (x := "super") (fact c 0)
  m_len := free_ok X G (x := "len") (fact c 2)
  m_enumerate := free_ok X G (x := "enumerate") (fact c 3)
  m_tuple := free_ok X G (x := "tuple") (fact c 4)
  m_iter := free_ok X G (x := "iter") (fact c 5)
  m_sum := free_ok X G (x := "sum") (fact c 6)
  m_abs := free_ok X G (x := "abs") (fact c 7)
  m_int := free_ok X G (x := "int") (fact c 8)
  m_range := free_ok X G (x := "range") (fact c 9)
  m_isinstance := free_ok X G (x := "isinstance") (fact c 10)
  m_bool := free_ok X G (x := "bool") (fact c 11)
  m_str := free_ok X G (x := "str") (fact c 12)
  m_list := free_ok X G (x := "list") (fact c 13)
  m_zip := free_ok X G (x := "zip") (fact c 14)
  m_all := free_ok X G (x := "all") (fact c 15)
  m_ValueError := free_ok X G (x := "ValueError") (fact c 16)
  m_max := free_ok X G (x := "max") (fact c 17)
  m_min := free_ok X G (x := "min") (fact c 18)
  g_wall := glo_ok X G (x := "_wall") (fact c 19)
  g_check_count := glo_ok X G (x := "check_count") (fact c 20)
  g_check_number := glo_ok X G (x := "check_number") (fact c 21)
  g_check_numbers := glo_ok X G (x := "check_numbers") (fact c 22)
  g_check_not_negative := glo_ok X G (x := "check_not_negative") (fact c 23)
  g_law_pool := glo_ok X G (x := "_law_pool") (fact c 24)
  g_law_draw := glo_ok X G (x := "_law_draw") (fact c 25)
  g_law_size := glo_ok X G (x := "_law_size") (fact c 26)
  g_law_number := glo_ok X G (x := "_law_number") (fact c 27)
  g_law_pair := glo_ok X G (x := "_law_pair") (fact c 28)
  g_law_perhaps_bad := glo_ok X G (x := "_law_perhaps_bad") (fact c 29)
  g_law_spoiled := glo_ok X G (x := "_law_spoiled") (fact c 30)
  g_law_asked := glo_ok X G (x := "_law_asked") (fact c 31)
  g_law_int := glo_ok X G (x := "_law_int") (fact c 32)
  g_law_same := glo_ok X G (x := "_law_same") (fact c 33)
  g_law_first_bad := glo_ok X G (x := "_law_first_bad") (fact c 34)
  g_law_due_made := glo_ok X G (x := "_law_due_made") (fact c 35)
  g_law_shown := glo_ok X G (x := "_law_shown") (fact c 36)
  g_law_try_made := glo_ok X G (x := "_law_try_made") (fact c 37)
  g_law_caught_as_base := glo_ok X G (x := "_law_caught_as_base") (fact c 38)
  g_law_handed := glo_ok X G (x := "_law_handed") (fact c 39)
  g_law_making_right := glo_ok X G (x := "_law_making_right") (fact c 40)
  g_law_try_joined := glo_ok X G (x := "_law_try_joined") (fact c 41)
  g_law_joining_right := glo_ok X G (x := "_law_joining_right") (fact c 42)
  g_law_lies := glo_ok X G (x := "_law_lies") (fact c 43)
  g_law_lying_right := glo_ok X G (x := "_law_lying_right") (fact c 44)
  g_law_crossing_right := glo_ok X G (x := "_law_crossing_right") (fact c 45)
  g_law_try_pinned := glo_ok X G (x := "_law_try_pinned") (fact c 46)
  g_law_due_pinned := glo_ok X G (x := "_law_due_pinned") (fact c 47)
  g_law_pinning_right := glo_ok X G (x := "_law_pinning_right") (fact c 48)
  g_law := glo_ok X G (x := "law") (fact c 49)
  f_wall := c.def_ 0
  f_check_count := c.def_ 1
  f_check_number := c.def_ 2
  f_check_numbers := c.def_ 3
  f_check_not_negative := c.def_ 4
  f_Telling_init := c.def_ 5
  f_Telling_len := c.def_ 6
  f_Telling_iter := c.def_ 7
  f_Telling_getitem := c.def_ 8
  f_Telling_eq := c.def_ 9
  f_Telling_lt := c.def_ 10
  f_Telling_add := c.def_ 11
  f_Telling_mul := c.def_ 12
  f_Telling_rmul := c.def_ 13
  f_Telling_xor := c.def_ 14
  f_Telling_abs := c.def_ 15
  f_Telling_no_steeper := c.def_ 16
  f_Telling_moved := c.def_ 17
  f_Telling_check_place := c.def_ 18
  f_Telling_check_alike := c.def_ 19
  f_Bounds_init := c.def_ 20
  f_Bounds_exact := c.def_ 21
  f_Bounds_up_to := c.def_ 22
  f_Bounds_len := c.def_ 23
  f_Bounds_and := c.def_ 24
  f_Bounds_or := c.def_ 25
  f_Bounds_contains := c.def_ 26
  f_Bounds_crossed := c.def_ 27
  f_Bounds_pinned := c.def_ 28
  f_Bounds_check_alike := c.def_ 29
  f_law_pool := c.def_ 30
  f_law_draw := c.def_ 31
  f_law_size := c.def_ 32
  f_law_number := c.def_ 33
  f_law_pair := c.def_ 34
  f_law_perhaps_bad := c.def_ 35
  f_law_spoiled := c.def_ 36
  f_law_asked := c.def_ 37
  f_law_int := c.def_ 38
  f_law_same := c.def_ 39
  f_law_first_bad := c.def_ 40
  f_law_due_made := c.def_ 41
  f_law_shown := c.def_ 42
  f_law_try_made := c.def_ 43
  f_law_caught_as_base := c.def_ 44
  f_law_handed := c.def_ 45
  f_law_making_right := c.def_ 46
  f_law_try_joined := c.def_ 47
  f_law_joining_right := c.def_ 48
  f_law_lies := c.def_ 49
  f_law_lying_right := c.def_ 50
  f_law_crossing_right := c.def_ 51
  f_law_try_pinned := c.def_ 52
  f_law_due_pinned := c.def_ 53
  f_law_pinning_right := c.def_ 54
  f_law := c.def_ 55
  e_NoPerson := errD_ok (d := ⟨"NoPerson", e_NoPerson, "NoPerson.__init__", ["person"]⟩) X G tx_NoPerson rfl (free_ok X G (x := "super") (fact c 0)) (eqO_ok (fact c 1)) (c.err_ (d := ⟨"NoPerson", e_NoPerson, "NoPerson.__init__", ["person"]⟩) 0).1 (c.err_ (d := ⟨"NoPerson", e_NoPerson, "NoPerson.__init__", ["person"]⟩) 0).2
  e_BadNumber := errD_ok (d := ⟨"BadNumber", e_BadNumber, "BadNumber.__init__", ["place", "number"]⟩) X G tx_BadNumber rfl (free_ok X G (x := "super") (fact c 0)) (eqO_ok (fact c 1)) (c.err_ (d := ⟨"BadNumber", e_BadNumber, "BadNumber.__init__", ["place", "number"]⟩) 1).1 (c.err_ (d := ⟨"BadNumber", e_BadNumber, "BadNumber.__init__", ["place", "number"]⟩) 1).2
  e_TooLong := errD_ok (d := ⟨"TooLong", e_TooLong, "TooLong.__init__", ["count"]⟩) X G tx_TooLong rfl (free_ok X G (x := "super") (fact c 0)) (eqO_ok (fact c 1)) (c.err_ (d := ⟨"TooLong", e_TooLong, "TooLong.__init__", ["count"]⟩) 2).1 (c.err_ (d := ⟨"TooLong", e_TooLong, "TooLong.__init__", ["count"]⟩) 2).2
  e_WrongLength := errD_ok (d := ⟨"WrongLength", e_WrongLength, "WrongLength.__init__", ["found", "wanted"]⟩) X G tx_WrongLength rfl (free_ok X G (x := "super") (fact c 0)) (eqO_ok (fact c 1)) (c.err_ (d := ⟨"WrongLength", e_WrongLength, "WrongLength.__init__", ["found", "wanted"]⟩) 3).1 (c.err_ (d := ⟨"WrongLength", e_WrongLength, "WrongLength.__init__", ["found", "wanted"]⟩) 3).2
  cTelling := cls_ok (fact c 50)
  gTelling := glo_ok X G (x := "Telling") (fact c 51)
  tTelling := EF.cls_ok (fact c 52)
  kTelling := mkr_ok (fact c 53)
  nTelling_entries := noat_ok (x := "Telling") (f := "entries") (fact c 54)
  cBounds := cls_ok (fact c 55)
  gBounds := glo_ok X G (x := "Bounds") (fact c 56)
  tBounds := EF.cls_ok (fact c 57)
  kBounds := mkr_ok (fact c 58)
  nBounds_lows := noat_ok (x := "Bounds") (f := "lows") (fact c 59)
  nBounds_highs := noat_ok (x := "Bounds") (f := "highs") (fact c 60)
  rBounds := FB.cread_ok (fact c 61)
  v_MOST_PEOPLE := int_ok X G (x := "MOST_PEOPLE") (i := 30) (fact c 62)
  v_LIMIT := int_ok X G (x := "LIMIT") (i := 1000000000000000000000000000000) (fact c 63)
  wTelling_len := FB.sp_ok (fact c 64)
  wTelling_iter := FB.sp_ok (fact c 65)
  wBounds_len := FB.sp_ok (fact c 66)
  wBounds_contains := FB.sp_ok (fact c 67)
  wBounds_and := FB.op_ok (fact c 68)
  wBounds_or := FB.op_ok (fact c 69)
  wBounds_crossed := meth_ok (x := "Bounds") (m := "crossed") (fact c 70)
  wBounds_pinned := meth_ok (x := "Bounds") (m := "pinned") (fact c 71)
  wBounds_check_alike := meth_ok (x := "Bounds") (m := "_check_alike") (fact c 72)
  wBounds_exact := FB.cmet_ok (fact c 73)
  wBounds_up_to := FB.cmet_ok (fact c 74)
  gNightsError := glo_ok X G (x := "NightsError") (fact c 75)
  xNoPerson := EF.exc_ok (fact c 76)
  nNoPerson_person := noat_ok (x := "NoPerson") (f := "person") (fact c 77)
  mNoPerson_NightsError := of_decide_eq_true (fact c 78)
  kNoPerson_NightsError := of_decide_eq_true (fact c 79)
  kNoPerson_ValueError := of_decide_eq_true (fact c 80)
  xTooLong := EF.exc_ok (fact c 81)
  nTooLong_count := noat_ok (x := "TooLong") (f := "count") (fact c 82)
  mTooLong_NightsError := of_decide_eq_true (fact c 83)
  kTooLong_NightsError := of_decide_eq_true (fact c 84)
  kTooLong_ValueError := of_decide_eq_true (fact c 85)
  xBadNumber := EF.exc_ok (fact c 86)
  nBadNumber_place := noat_ok (x := "BadNumber") (f := "place") (fact c 87)
  nBadNumber_number := noat_ok (x := "BadNumber") (f := "number") (fact c 88)
  mBadNumber_NightsError := of_decide_eq_true (fact c 89)
  kBadNumber_NightsError := of_decide_eq_true (fact c 90)
  kBadNumber_ValueError := of_decide_eq_true (fact c 91)
  xWrongLength := EF.exc_ok (fact c 92)
  nWrongLength_found := noat_ok (x := "WrongLength") (f := "found") (fact c 93)
  nWrongLength_wanted := noat_ok (x := "WrongLength") (f := "wanted") (fact c 94)
  mWrongLength_NightsError := of_decide_eq_true (fact c 95)
  kWrongLength_NightsError := of_decide_eq_true (fact c 96)
  kWrongLength_ValueError := of_decide_eq_true (fact c 97)
  mTooLong_TooLong := of_decide_eq_true (fact c 98)
  mTooLong_BadNumber := of_decide_eq_true (fact c 99)
  kTooLong_BadNumber := of_decide_eq_true (fact c 100)
  mTooLong_WrongLength := of_decide_eq_true (fact c 101)
  kTooLong_WrongLength := of_decide_eq_true (fact c 102)
  mBadNumber_TooLong := of_decide_eq_true (fact c 103)
  kBadNumber_TooLong := of_decide_eq_true (fact c 104)
  mBadNumber_BadNumber := of_decide_eq_true (fact c 105)
  mBadNumber_WrongLength := of_decide_eq_true (fact c 106)
  kBadNumber_WrongLength := of_decide_eq_true (fact c 107)
  mWrongLength_TooLong := of_decide_eq_true (fact c 108)
  kWrongLength_TooLong := of_decide_eq_true (fact c 109)
  mWrongLength_BadNumber := of_decide_eq_true (fact c 110)
  kWrongLength_BadNumber := of_decide_eq_true (fact c 111)
  mWrongLength_WrongLength := of_decide_eq_true (fact c 112)
  mNoPerson_NoPerson := of_decide_eq_true (fact c 113)
  mBadNumber_NoPerson := of_decide_eq_true (fact c 114)
  kNoPerson_BadNumber := of_decide_eq_true (fact c 115)
  kBadNumber_NoPerson := of_decide_eq_true (fact c 116)
  kBounds_Bounds := of_decide_eq_true (fact c 117)
end K24

set_option maxRecDepth 100000
set_option maxHeartbeats 4000000
namespace K24
open PySem PySem.Spec PyProof.Rows L2
section
variable {w : World} {K : PySem.W.Frag} {mg : Str → Option Value} {base : Heap}
/-! ### the law's draws -/
def spPool (K : PySem.W.Frag) : Sp := fun vs H Q _ => ∃ (a : Addr) (ns : List Int) (i : Nat), vs = [.ref a, .int (i : Nat)] ∧ SqL K H a (ns.map V.int) ∧ ∀ l st, H l = none → PoolOk st → Q (.ref l) (upd H l (.lst st))
theorem ok_law_pool (T : Tx K mg) : Ok PG w K mg base CX0 2 (a_law_pool K) p_law_pool (spPool K) := by
  refine Ok.of 1 T.f_law_pool sc_law_pool bi_law_pool (by decide) (fun vs H Q E h => ?_) (fun cdv A outer s H vs Q E hr h => ?_)
  · obtain ⟨_, _, _, rfl, _⟩ := h
    rfl
  · obtain ⟨a, ns, i, rfl, hs, q⟩ := h
    have nd := sc_law_pool.nd
    refine ⟨_, pss_cons (ps_set (i := 2) nd rfl (.inl rfl) pe_int)
      (pss_cons (ps_if (pt_cmpR op_lt (pv 1) (pe_callB call_len_seq (by rfl) T.m_len PySem.boot_len (pa_cons (pv 0) pa_nil)) (nomark _)) (pss_one (ps_set (i := 2) nd rfl (.inl rfl) (pe_callB call_abs (by rfl) T.m_abs (by decide +kernel) (pa_cons (pe_ix ix_list (pv 0) (pv 1) (fun _ _ => rfl)) pa_nil)))) pss_nil)
      (pss_cons (ps_if (pt_cmpR op_ge (pv 2) (pe_op op_pow pe_int pe_int) (nomark _)) (pss_one (ps_ret (pe_lst (pa_cons (pe_op op_sub (pv 2) (pe_op op_pow pe_int pe_int)) (pa_cons pe_int (pa_cons pe_int pa_nil)))))) pss_nil)
      (pss_one (ps_ret (pe_lst (pa_cons (pe_un un_neg pe_int) (pa_cons (pe_op op_modN (pe_callTy call_int1 (by rfl) T.m_int (by decide +kernel) (pa_cons (pv 2) pa_nil)) pe_int) (pa_cons (pe_op op_add (pv 1) pe_int) pa_nil)))))))), ?_⟩
    refine ⟨_, rfl, _, rfl, a, _, rfl, .inl hs, _, _, rfl, rfl, _, rfl, ?_⟩
    refine ite2 (fun c => ?_) (fun c => ?_)
    · have hi : i < ns.length := by
        have := of_decide_eq_true c
        rw [List.length_map] at this
        omega
      refine ⟨_, rfl, _, rfl, a, _, _, .int ns[i], rfl, rfl, hs, atI_nat (by rw [List.getElem?_map, List.getElem?_eq_getElem hi]; rfl), _, rfl, ?_⟩
      generalize (if ns[i] < 0 then -ns[i] else ns[i]) = z
      refine ⟨_, rfl, _, _, rfl, rfl, ⟨by decide, by decide, by decide⟩, _, _, rfl, rfl, _, rfl, ?_⟩
      refine ite2 (fun c => ?_) (fun c => ?_)
      · exact ⟨_, rfl, _, _, rfl, rfl, ⟨by decide, by decide, by decide⟩, _, _, rfl, rfl, by show 3 ≤ sizeLine; decide, fun l hl => q l _ hl ⟨_, _, _, rfl, by decide, by decide⟩⟩
      · exact ⟨_, rfl, _, rfl, .inl ⟨_, rfl, _, _, rfl, rfl, (by show (2147483399 : Int) ≠ 0; decide), _, rfl, _, _, rfl, rfl, by show 3 ≤ sizeLine; decide, fun l hl => q l _ hl ⟨_, _, _, rfl, (mod_lt (by decide)).1, Int.lt_trans (mod_lt (by decide)).2 (by decide)⟩⟩⟩
    · refine ⟨_, rfl, _, _, rfl, rfl, ⟨by decide, by decide, by decide⟩, _, _, rfl, rfl, _, rfl, ?_⟩
      refine ite2 (fun c => ?_) (fun c => ?_)
      · exact ⟨_, rfl, _, _, rfl, rfl, ⟨by decide, by decide, by decide⟩, _, _, rfl, rfl, by show 3 ≤ sizeLine; decide, fun l hl => q l _ hl ⟨_, _, _, rfl, by decide, by decide⟩⟩
      · exact ⟨_, rfl, _, rfl, .inl ⟨_, rfl, _, _, rfl, rfl, (by show (2147483399 : Int) ≠ 0; decide), _, rfl, _, _, rfl, rfl, by show 3 ≤ sizeLine; decide, fun l hl => q l _ hl ⟨_, _, _, rfl, (mod_lt (by decide)).1, Int.lt_trans (mod_lt (by decide)).2 (by decide)⟩⟩⟩
def spDraw (_K : PySem.W.Frag) : Sp := fun vs H Q _ => ∃ (p : Addr) (st : List V) (m : Int), vs = [.ref p, .int m] ∧ 0 < m ∧ m.natAbs < 2 ^ 200 ∧ H p = some (.lst st) ∧ PoolOk st ∧ ∀ v st', 0 ≤ v → v < m → PoolOk st' → Q (.int v) (upd H p (.lst st'))
theorem ok_law_draw (T : Tx K mg) : Ok PG w K mg base CX0 2 (a_law_draw K) p_law_draw (spDraw K) := by
  refine Ok.of 1 T.f_law_draw sc_law_draw bi_law_draw (by decide) (fun vs H Q E h => ?_) (fun cdv A outer s H vs Q E hr h => ?_)
  · obtain ⟨_, _, _, rfl, _⟩ := h
    rfl
  · obtain ⟨p, st, m, rfl, m0, mw, hp, ⟨a, b, c, rfl, b0, b1⟩, q⟩ := h
    have nd := sc_law_draw.nd
    refine ⟨_, pss_cons (ps_if (pt_cmpR op_ge (pe_ix ix_list (pv 0) pe_int (fun _ _ => rfl)) pe_int (nomark _)) (pss_cons (ps_set (i := 2) nd rfl (.inl rfl) (pe_op op_modN (pe_callTy call_int1 (by rfl) T.m_int (by decide +kernel) (pa_cons (pe_ix ix_list (pv 0) pe_int (fun _ _ => rfl)) pa_nil)) (pv 1)))
        (pss_cons (ps_asg (pe_op op_fdivW (pe_ix ix_list (pv 0) pe_int (fun _ _ => rfl)) (pv 1)) (pg_sub (pv 0) pe_int set_list)) (pss_one (ps_ret (pv 2))))) pss_nil)
      (pss_cons (ps_asg (pe_op op_add (pe_ix ix_list (pv 0) pe_int (fun _ _ => rfl)) pe_int) (pg_sub (pv 0) pe_int set_list))
      (pss_cons (ps_set (i := 3) nd rfl (.inl rfl) (pe_ix ix_list (pv 0) pe_int (fun _ _ => rfl)))
      (pss_cons (ps_set (i := 3) nd rfl (.inl rfl) (pe_op op_modN (pe_callTy call_int1 (by rfl) T.m_int (by decide +kernel) (pa_cons (pe_op op_add (pe_op op_add (pe_op op_mul (pv 3) (pv 3)) (pe_op op_mul (pe_ix ix_list (pv 0) pe_int (fun _ _ => rfl)) pe_int)) pe_int) pa_nil)) pe_int))
      (pss_cons (ps_set (i := 3) nd rfl (.inl rfl) (pe_op op_modN (pe_callTy call_int1 (by rfl) T.m_int (by decide +kernel) (pa_cons (pe_op op_add (pe_op op_mul (pv 3) (pv 3)) (pe_op op_fdiv (pv 3) pe_int)) pa_nil)) pe_int))
      (pss_cons (ps_asg (pv 3) (pg_sub (pv 0) pe_int set_list))
      (pss_one (ps_ret (pe_op op_modN (pe_callTy call_int1 (by rfl) T.m_int (by decide +kernel) (pa_cons (pe_op op_fdiv (pv 3) pe_int) pa_nil)) (pv 1))))))))), ?_⟩
    have at0 : ∀ x y z : V, atI [x, y, z] (0 : Int) = some x := fun _ _ _ => rfl
    have at1 : ∀ x y z : V, atI [x, y, z] (1 : Int) = some y := fun _ _ _ => rfl
    have at2 : ∀ x y z : V, atI [x, y, z] (2 : Int) = some z := fun _ _ _ => rfl
    refine ⟨_, rfl, p, _, _, _, rfl, rfl, SqL.of hp, at0 _ _ _, _, _, rfl, rfl, _, rfl, ?_⟩
    refine ite2 (fun ca => ?_) (fun ca => ?_)
    · refine ⟨_, rfl, p, _, _, _, rfl, rfl, SqL.of hp, at0 _ _ _, .inl ⟨_, rfl, _, rfl, _, _, rfl, rfl, by omega, ?_⟩⟩
      refine ⟨_, rfl, p, _, _, _, rfl, rfl, SqL.of hp, at0 _ _ _, _, rfl, _, _, rfl, rfl, wide_div m0 mw (by decide) (by decide), ?_⟩
      refine ⟨_, rfl, p, _, _, 0, rfl, rfl, hp, rfl, _, rfl, ?_⟩
      exact q _ _ (mod_lt m0).1 (mod_lt m0).2 ⟨_, _, _, rfl, b0, b1⟩
    · refine ⟨_, rfl, p, _, _, _, rfl, rfl, SqL.of hp, at2 _ _ _, _, _, rfl, rfl, ?_⟩
      refine ⟨_, rfl, p, _, _, 2, rfl, rfl, hp, rfl, ?_⟩
      refine ⟨_, rfl, p, _, _, _, rfl, rfl, SqL.of upd_same, at1 _ _ _, ?_⟩
      refine ⟨_, rfl, _, rfl, _, _, rfl, rfl, .inl ⟨by omega, by omega⟩, ?_⟩
      refine ⟨_, rfl, p, _, _, _, rfl, rfl, SqL.of upd_same, at2 _ _ _, _, _, rfl, rfl, .inr ⟨by decide, by decide⟩, ?_⟩
      refine ⟨_, _, rfl, rfl, _, _, rfl, rfl, .inl ⟨_, rfl, _, _, rfl, rfl, (by show (2147483399 : Int) ≠ 0; decide), ?_⟩⟩
      have x1 := mod_lt (a := (b * b + (c + 1) * 3571 + 40692 : Int)) (m := 2147483399) (by decide)
      refine ⟨_, rfl, _, rfl, _, _, rfl, rfl, .inl ⟨Int.lt_of_lt_of_le (by decide : -(2 ^ 64 : Int) < 0) x1.1, Int.lt_trans x1.2 (by decide)⟩, _, rfl, _, _, rfl, rfl, ⟨by decide, by decide⟩, _, _, rfl, rfl, .inl ⟨_, rfl, _, _, rfl, rfl, (by show (2147483629 : Int) ≠ 0; decide), ?_⟩⟩
      refine ⟨_, rfl, _, rfl, p, _, _, 1, rfl, rfl, upd_same, rfl, ?_⟩
      refine ⟨_, rfl, _, _, rfl, rfl, ⟨by decide, by decide⟩, .inl ⟨_, rfl, _, rfl, _, _, rfl, rfl, by omega, ?_⟩⟩
      rw [upd_upd]
      exact q _ _ (mod_lt m0).1 (mod_lt m0).2 ⟨_, _, _, rfl, (mod_lt (m := 2147483629) (by decide)).1, Int.lt_trans (mod_lt (m := 2147483629) (by decide)).2 (by decide)⟩
end
end K24
namespace K24
open PySem PySem.Spec PyProof.Rows L2
section
variable {w : World} {K : PySem.W.Frag} {mg : Str → Option Value} {base : Heap}
def spInt : Sp := fun vs H Q _ => ∃ (n : Int), vs = [.int n] ∧ Q (.bl true) H
theorem ok_law_int (T : Tx K mg) : Ok PG w K mg base CX0 2 (a_law_int K) p_law_int spInt := by
  refine Ok.of 1 T.f_law_int sc_law_int bi_law_int (by decide) (fun vs H Q E h => ?_) (fun cdv A outer s H vs Q E hr h => ?_)
  · obtain ⟨_, rfl, _⟩ := h
    rfl
  · obtain ⟨n, rfl, q⟩ := h
    refine ⟨_, pss_one (ps_ret (pe_and (pe_callB call_isi (by rfl) T.m_isinstance (by decide +kernel) (pa_cons (pv 0) (pa_cons (pe_bltn (v := .ty "int") (by rfl) T.m_int (by decide +kernel) rfl) pa_nil)))
      (pe_one (pe_not (pe_callB call_isi (by rfl) T.m_isinstance (by decide +kernel) (pa_cons (pv 0) (pa_cons (pe_bltn (v := .ty "bool") (by rfl) T.m_bool (by decide +kernel) rfl) pa_nil))))))), ?_⟩
    refine ⟨_, rfl, _, _, _, _, true, rfl, .ty _, .base (.int n), kit_ty (by decide +kernel), _, rfl, yep rfl ?_⟩
    exact ⟨_, rfl, _, _, _, _, false, rfl, .ty _, .base (.int n), kit_ty (by decide +kernel), _, rfl, q⟩
def spSame (K : PySem.W.Frag) (n : Nat) : Sp := fun vs H Q _ => ∃ (x y : V), vs = [x, y] ∧ Eqd K n H x y ∧ Q (.bl true) H
def spLow (K : PySem.W.Frag) : Nat → Sp
  | 0 => fun _ _ _ _ => False
  | n + 1 => spSame K n
theorem same_at (T : Tx K mg) (n k : Nat) (R0 : Ok PG w K mg base CX0 k (a_law_same K) p_law_same (spLow K n)) (hk : 2 ≤ k) : Ok PG w K mg base CX0 (k + 1) (a_law_same K) p_law_same (spSame K n) := by
  refine Ok.of k T.f_law_same sc_law_same bi_law_same (Nat.le_refl _) (fun vs H Q E h => ?_) (fun cdv A outer s H vs Q E hr h => ?_)
  · obtain ⟨_, _, rfl, _⟩ := h
    rfl
  · obtain ⟨x, y, rfl, hd, q⟩ := h
    have nd := sc_law_same.nd
    refine ⟨_, pss_cons (ps_if (pt_cmpR op_isN (pv 1) pe_non (nomark _)) (pss_one (ps_ret (pe_cmpR op_isN (pv 0) pe_non (nomark _)))) pss_nil)
      (pss_cons (ps_if (pt_cmpR op_isTF (pv 1) pe_bl (nomark _)) (pss_one (ps_ret (pe_cmpR op_isTF (pv 0) pe_bl (nomark _)))) pss_nil)
      (pss_cons (ps_if (pt_cmpR op_isTF (pv 1) pe_bl (nomark _)) (pss_one (ps_ret (pe_cmpR op_isTF (pv 0) pe_bl (nomark _)))) pss_nil)
      (pss_cons (ps_if (pt_val (pe_callB call_isi (by rfl) T.m_isinstance (by decide +kernel) (pa_cons (pv 1) (pa_cons (pe_bltn (v := .ty "int") (by rfl) T.m_int (by decide +kernel) rfl) pa_nil)))) (pss_one (ps_ret (pe_and (pc (ok_law_int T) (hr.mono hk) T.g_law_int pass0 (pa_cons (pv 0) pa_nil)) (pe_one (pe_cmpR op_eq (pv 0) (pv 1) (nomark _)))))) pss_nil)
      (pss_cons (ps_if (pt_val (pe_callB call_isi (by rfl) T.m_isinstance (by decide +kernel) (pa_cons (pv 1) (pa_cons (pe_bltn (v := .ty "str") (by rfl) T.m_str (by decide +kernel) rfl) pa_nil)))) (pss_one (ps_ret (pe_and (pe_callB call_isi (by rfl) T.m_isinstance (by decide +kernel) (pa_cons (pv 0) (pa_cons (pe_bltn (v := .ty "str") (by rfl) T.m_str (by decide +kernel) rfl) pa_nil))) (pe_one (pe_cmpR op_eq (pv 0) (pv 1) (nomark _)))))) pss_nil)
      (pss_cons (ps_if (pt_val (pe_callB call_isi (by rfl) T.m_isinstance (by decide +kernel) (pa_cons (pv 1) (pa_cons (pe_bltn (v := .ty "tuple") (by rfl) T.m_tuple (by decide +kernel) rfl) pa_nil))))
        (pss_one (ps_if (PW.pt (pw_or (pt_not (pt_val (pe_callB call_isi (by rfl) T.m_isinstance (by decide +kernel) (pa_cons (pv 0) (pa_cons (pe_bltn (v := .ty "tuple") (by rfl) T.m_tuple (by decide +kernel) rfl) pa_nil))))) (pw_or1 (pt_cmpR op_ne (pe_callB call_len_seq (by rfl) T.m_len PySem.boot_len (pa_cons (pv 0) pa_nil)) (pe_callB call_len_seq (by rfl) T.m_len PySem.boot_len (pa_cons (pv 1) pa_nil)) (nomark _))))) (pss_one (ps_ret pe_bl)) pss_nil))
        (pss_one (ps_if (PW.pt (pw_or (pt_not (pt_val (pe_callB call_isi (by rfl) T.m_isinstance (by decide +kernel) (pa_cons (pv 0) (pa_cons (pe_bltn (v := .ty "list") (by rfl) T.m_list (by decide +kernel) rfl) pa_nil))))) (pw_or1 (pt_cmpR op_ne (pe_callB call_len_seq (by rfl) T.m_len PySem.boot_len (pa_cons (pv 0) pa_nil)) (pe_callB call_len_seq (by rfl) T.m_len PySem.boot_len (pa_cons (pv 1) pa_nil)) (nomark _))))) (pss_one (ps_ret pe_bl)) pss_nil)))
      (pss_cons (ps_for (passX rfl) rfl (pi_range1 rfl T.m_range (pa_cons (pe_callB call_len_seq (by rfl) T.m_len PySem.boot_len (pa_cons (pv 1) pa_nil)) pa_nil)) (pg_name (i := 2) nd rfl (.inl rfl))
        (pss_one (ps_if (pt_not (pt_val (pc R0 hr T.g_law_same pass0 (pa_cons (pe_ix ix_seq (pv 0) (pv 2) (fun _ _ => rfl)) (pa_cons (pe_ix ix_seq (pv 1) (pv 2) (fun _ _ => rfl)) pa_nil))))) (pss_one (ps_ret pe_bl)) pss_nil)))
      (pss_one (ps_ret pe_bl)))))))), ?_⟩
    have hd2 : (x = y ∧ Atom x) ∨ ∃ m, n = m + 1 ∧ ∃ a b xs ys, x = .ref a ∧ y = .ref b ∧ ((SqT K H a xs ∧ SqT K H b ys) ∨ (SqL K H a xs ∧ SqL K H b ys)) ∧ xs.length = ys.length ∧ xs.length ≤ sizeLine ∧ ∀ (i : Nat) (u v : V), xs[i]? = some u → ys[i]? = some v → Eqd K m H u v := by
      cases n with
      | zero => exact .inl hd
      | succ m => exact hd.imp id fun z => ⟨m, rfl, z⟩
    rcases hd2 with ⟨rfl, ha⟩ | ⟨m, rfl, a, b, xs, ys, rfl, rfl, hs, hl, hz, hi⟩
    · cases ha with
      | non =>
        refine ⟨_, rfl, rfl, _, rfl, yep (by simp) ?_⟩
        exact ⟨_, rfl, rfl, by simpa using q⟩
      | bl b =>
        refine ⟨_, rfl, rfl, _, rfl, nope (by simp) ?_⟩
        cases b with
        | true =>
          refine ⟨_, rfl, _, rfl, _, rfl, yep (by simp) ?_⟩
          exact ⟨_, rfl, _, rfl, by simpa using q⟩
        | false =>
          refine ⟨_, rfl, _, rfl, _, rfl, nope (by simp) ?_⟩
          refine ⟨_, rfl, _, rfl, _, rfl, yep (by simp) ?_⟩
          exact ⟨_, rfl, _, rfl, by simpa using q⟩
      | int i =>
        refine ⟨_, rfl, rfl, _, rfl, nope (by simp) ?_⟩
        refine ⟨_, rfl, _, rfl, _, rfl, nope (by simp) ?_⟩
        refine ⟨_, rfl, _, rfl, _, rfl, nope (by simp) ?_⟩
        refine ⟨_, rfl, _, _, _, _, true, rfl, .ty _, .base (.int i), kit_ty (by decide +kernel), _, rfl, yep rfl ?_⟩
        refine ⟨_, rfl, i, rfl, _, rfl, yep rfl ?_⟩
        exact ⟨_, rfl, _, rfl, rfl, by simpa using q⟩
      | str z =>
        refine ⟨_, rfl, rfl, _, rfl, nope (by simp) ?_⟩
        refine ⟨_, rfl, _, rfl, _, rfl, nope (by simp) ?_⟩
        refine ⟨_, rfl, _, rfl, _, rfl, nope (by simp) ?_⟩
        refine ⟨_, rfl, _, _, _, _, false, rfl, .ty _, .base (.str z), kit_ty (by decide +kernel), _, rfl, nope rfl ?_⟩
        refine ⟨_, rfl, _, _, _, _, true, rfl, .ty _, .base (.str z), kit_ty (by decide +kernel), _, rfl, yep rfl ?_⟩
        refine ⟨_, rfl, _, _, _, _, true, rfl, .ty _, .base (.str z), kit_ty (by decide +kernel), _, rfl, yep rfl ?_⟩
        exact ⟨_, rfl, _, rfl, rfl, by simpa using q⟩
    · refine ⟨_, rfl, rfl, _, rfl, nope (by simp) ?_⟩
      refine ⟨_, rfl, _, rfl, _, rfl, nope (by simp) ?_⟩
      refine ⟨_, rfl, _, rfl, _, rfl, nope (by simp) ?_⟩
      have hsz : ys.length < 2 ^ 62 := by rw [← hl]; rw [sizeLine_eq] at hz; omega
      rcases hs with ⟨h1, h2⟩ | ⟨h1, h2⟩
      · refine ⟨_, rfl, _, _, _, _, false, rfl, .ty _, h2.ty, kit_ty (by decide +kernel), _, rfl, nope rfl ?_⟩
        refine ⟨_, rfl, _, _, _, _, false, rfl, .ty _, h2.ty, kit_ty (by decide +kernel), _, rfl, nope rfl ?_⟩
        refine ⟨_, rfl, _, _, _, _, true, rfl, .ty _, h2.ty, kit_ty (by decide +kernel), _, rfl, yep rfl ?_⟩
        refine ⟨_, rfl, _, _, _, _, true, rfl, .ty _, h1.ty, kit_ty (by decide +kernel), _, rfl, nope rfl ?_⟩
        refine ⟨_, rfl, a, xs, rfl, .inr h1, _, rfl, b, ys, rfl, .inr h2, rfl, _, rfl, nope (by simp [hl]) ?_⟩
        refine ⟨_, rfl, b, ys, rfl, .inr h2, _, rfl, by omega, by omega, ?_⟩
        refine for_range (lo := 0) (n := ys.length) (fun i σ H' => H' = H ∧ σ.length = 3 ∧ σ[0]? = some (some (.ref a)) ∧ σ[1]? = some (some (.ref b))) ⟨rfl, rfl, rfl, rfl⟩ ?_ ?_
        · rintro i σ H' hi' ⟨rfl, hl3, z0, z1⟩
          have hx : xs[i]? = some xs[i] := List.getElem?_eq_getElem (by omega)
          have hy : ys[i]? = some ys[i] := List.getElem?_eq_getElem hi'
          have w0 : (σ.set 2 (some (.int (0 + (i : Nat)))))[0]? = some (some (.ref a)) := by rw [List.getElem?_set_ne (by decide)]; exact z0
          have w1 : (σ.set 2 (some (.int (0 + (i : Nat)))))[1]? = some (some (.ref b)) := by rw [List.getElem?_set_ne (by decide)]; exact z1
          have w2 : (σ.set 2 (some (.int (0 + (i : Nat)))))[2]? = some (some (.int (i : Nat))) := by rw [List.getElem?_set_self (by omega), Int.zero_add]
          refine ⟨_, w0, _, w2, .inr (.inl ⟨a, xs, _, _, rfl, rfl, h1, atI_nat hx, _, w1, _, w2, .inr (.inl ⟨b, ys, _, _, rfl, rfl, h2, atI_nat hy, ?_⟩)⟩)⟩
          exact ⟨_, _, rfl, hi i _ _ hx hy, _, rfl, nope rfl ⟨rfl, by simp [hl3], w0, w1⟩⟩
        · rintro σ H' ⟨rfl, _⟩
          exact q
      · refine ⟨_, rfl, _, _, _, _, false, rfl, .ty _, h2.ty, kit_ty (by decide +kernel), _, rfl, nope rfl ?_⟩
        refine ⟨_, rfl, _, _, _, _, false, rfl, .ty _, h2.ty, kit_ty (by decide +kernel), _, rfl, nope rfl ?_⟩
        refine ⟨_, rfl, _, _, _, _, false, rfl, .ty _, h2.ty, kit_ty (by decide +kernel), _, rfl, nope rfl ?_⟩
        refine ⟨_, rfl, _, _, _, _, true, rfl, .ty _, h1.ty, kit_ty (by decide +kernel), _, rfl, nope rfl ?_⟩
        refine ⟨_, rfl, a, xs, rfl, .inl h1, _, rfl, b, ys, rfl, .inl h2, rfl, _, rfl, nope (by simp [hl]) ?_⟩
        refine ⟨_, rfl, b, ys, rfl, .inl h2, _, rfl, by omega, by omega, ?_⟩
        refine for_range (lo := 0) (n := ys.length) (fun i σ H' => H' = H ∧ σ.length = 3 ∧ σ[0]? = some (some (.ref a)) ∧ σ[1]? = some (some (.ref b))) ⟨rfl, rfl, rfl, rfl⟩ ?_ ?_
        · rintro i σ H' hi' ⟨rfl, hl3, z0, z1⟩
          have hx : xs[i]? = some xs[i] := List.getElem?_eq_getElem (by omega)
          have hy : ys[i]? = some ys[i] := List.getElem?_eq_getElem hi'
          have w0 : (σ.set 2 (some (.int (0 + (i : Nat)))))[0]? = some (some (.ref a)) := by rw [List.getElem?_set_ne (by decide)]; exact z0
          have w1 : (σ.set 2 (some (.int (0 + (i : Nat)))))[1]? = some (some (.ref b)) := by rw [List.getElem?_set_ne (by decide)]; exact z1
          have w2 : (σ.set 2 (some (.int (0 + (i : Nat)))))[2]? = some (some (.int (i : Nat))) := by rw [List.getElem?_set_self (by omega), Int.zero_add]
          refine ⟨_, w0, _, w2, .inl ⟨a, xs, _, _, rfl, rfl, h1, atI_nat hx, _, w1, _, w2, .inl ⟨b, ys, _, _, rfl, rfl, h2, atI_nat hy, ?_⟩⟩⟩
          exact ⟨_, _, rfl, hi i _ _ hx hy, _, rfl, nope rfl ⟨rfl, by simp [hl3], w0, w1⟩⟩
        · rintro σ H' ⟨rfl, _⟩
          exact q
theorem ok_law_same (T : Tx K mg) : ∀ n, Ok PG w K mg base CX0 (3 + n) (a_law_same K) p_law_same (spSame K n)
  | 0 => same_at T 0 2 (by
      obtain ⟨fd, F⟩ := T.f_law_same
      exact ⟨fd, ⟨fun _ _ _ _ h => h.elim, fun _ _ _ _ _ _ _ _ _ _ _ _ _ h => h.elim⟩, bi_law_same F, F.kp⟩) (Nat.le_refl _)
  | n + 1 => same_at T (n + 1) (3 + n) (ok_law_same T n) (by omega)
end
end K24
namespace K24
open PySem PySem.Spec PyProof.Rows L2
section
variable {w : World} {K : PySem.W.Frag} {mg : Str → Option Value} {base : Heap}
abbrev xT (n : Int) : HO := .xd [("count", .int n)]
abbrev xB (i n : Int) : HO := .xd [("number", .int n), ("place", .int i)]
def spCount (K : PySem.W.Frag) : Sp := fun vs H Q E => ∃ (n m : Int), vs = [.int n, .int m] ∧ (n > m → Rs (c_TooLong K) (xT n) H E) ∧ (¬ n > m → Q .non H)
theorem ok_check_count (T : Tx K mg) : Ok PG w K mg base (L2.CX PG w) 3 (a_check_count K) p_check_count (spCount K) := by
  refine Ok.of 2 T.f_check_count sc_check_count bi_check_count (by decide) (fun vs H Q E h => ?_) (fun cdv A outer s H vs Q E hr h => ?_)
  · obtain ⟨n, m, rfl, _⟩ := h
    rfl
  · obtain ⟨n, m, rfl, h1, h2⟩ := h
    refine ⟨_, pss_one (ps_if (pt_cmpR op_gt (pv 0) (pv 1) (nomark _)) (pss_one (ps_raiseX rfl T.e_TooLong (by decide) (by decide) hr (takes_of rfl rfl rfl rfl) rfl (pa_cons (pv 0) pa_nil))) pss_nil), ?_⟩
    refine ⟨_, rfl, _, rfl, _, _, rfl, rfl, _, rfl, ?_⟩
    refine ite2 (fun c => ?_) (fun c => ?_)
    · refine ⟨_, rfl, rfl, fun d hd => (h1 (of_decide_eq_true c)).now d hd⟩
    · exact h2 (of_decide_eq_false (by simpa using c))
def spNeg (K : PySem.W.Frag) : Sp := fun vs H Q E => ∃ (n : Int), vs = [.int n] ∧ (n < 0 → Rs (c_BadNumber K) (xB 0 n) H E) ∧ (¬ n < 0 → Q .non H)
theorem ok_check_not_negative (T : Tx K mg) : Ok PG w K mg base (L2.CX PG w) 3 (a_check_not_negative K) p_check_not_negative (spNeg K) := by
  refine Ok.of 2 T.f_check_not_negative sc_check_not_negative bi_check_not_negative (by decide) (fun vs H Q E h => ?_) (fun cdv A outer s H vs Q E hr h => ?_)
  · obtain ⟨n, rfl, _⟩ := h
    rfl
  · obtain ⟨n, rfl, h1, h2⟩ := h
    refine ⟨_, pss_one (ps_if (pt_cmpR op_lt (pv 0) pe_int (nomark _)) (pss_one (ps_raiseX rfl T.e_BadNumber (by decide) (by decide) hr (takes_of rfl rfl rfl rfl) rfl (pa_cons pe_int (pa_cons (pv 0) pa_nil)))) pss_nil), ?_⟩
    refine ⟨_, rfl, _, _, rfl, rfl, _, rfl, ?_⟩
    refine ite2 (fun c => ?_) (fun c => ?_)
    · refine ⟨_, rfl, rfl, fun d hd => (h1 (of_decide_eq_true c)).now d hd⟩
    · exact h2 (of_decide_eq_false (by simpa using c))
/-- the first of ns that is not from 0 to g -/
def bad (g : Int) : Nat → List Int → Option (Nat × Int)
  | _, [] => none
  | i, n :: ns => if 0 ≤ n ∧ n ≤ g then bad g (i + 1) ns else some (i, n)
theorem bad_step {g : Int} : ∀ {k : Nat} {ns : List Int} {i : Nat}, bad g (k + i) (ns.drop i) = bad g k ns → ∀ {n : Int}, ns[i]? = some n → (0 ≤ n ∧ n ≤ g → bad g (k + (i + 1)) (ns.drop (i + 1)) = bad g k ns) ∧ (¬ (0 ≤ n ∧ n ≤ g) → bad g k ns = some (k + i, n)) := by
  intro k ns i h n hn
  obtain ⟨hi, e⟩ := List.getElem?_eq_some_iff.mp hn
  rw [List.drop_eq_getElem_cons hi, e] at h
  constructor
  · intro c
    rw [← h, bad, if_pos c]
    rfl
  · intro c
    rw [← h, bad, if_neg c]
theorem bad_end {g : Int} {k : Nat} {ns : List Int} (h : bad g (k + ns.length) (ns.drop ns.length) = bad g k ns) : bad g k ns = none := by
  rw [← h, List.drop_length]
  rfl
theorem bad_none {g : Int} : ∀ {k : Nat} {ns : List Int}, bad g k ns = none ↔ ∀ n ∈ ns, 0 ≤ n ∧ n ≤ g
  | _, [] => by simp [bad]
  | k, n :: ns => by
    rw [bad]
    split
    · rename_i c
      rw [bad_none (ns := ns)]
      simp [c]
    · rename_i c
      simp [c]
def spOneNum (K : PySem.W.Frag) : Sp := fun vs H Q E => ∃ (i n g : Int), vs = [.int i, .int n, .int g] ∧ (¬ (0 ≤ n ∧ n ≤ g) → Rs (c_BadNumber K) (xB i n) H E) ∧ (0 ≤ n ∧ n ≤ g → Q .non H)
theorem ok_check_number (T : Tx K mg) : Ok PG w K mg base (L2.CX PG w) 2 (a_check_number K) p_check_number (spOneNum K) := by
  refine Ok.of 1 T.f_check_number sc_check_number bi_check_number (by decide) (fun vs H Q E h => ?_) (fun cdv A outer s H vs Q E hr h => ?_)
  · obtain ⟨_, _, _, rfl, _⟩ := h
    rfl
  · obtain ⟨i, n, g, rfl, h1, h2⟩ := h
    refine ⟨_, pss_one (ps_if (pt_not (pt_chain op_le op_le pe_int (pv 1) (pv 2))) (pss_one (ps_raiseX rfl T.e_BadNumber (by decide) (by decide) hr (takes_of rfl rfl rfl rfl) rfl (pa_cons (pv 0) (pa_cons (pv 1) pa_nil)))) pss_nil), ?_⟩
    refine ⟨_, rfl, _, _, rfl, rfl, _, rfl, ite2 (fun c => ?_) (fun c => ?_)⟩
    · refine ⟨_, rfl, _, _, rfl, rfl, _, rfl, ite2 (fun d => ?_) (fun d => ?_)⟩
      · exact ⟨_, rfl, _, rfl, rfl, fun z hz => (h1 (fun y => by simp [y.2] at d)).now z hz⟩
      · exact h2 ⟨of_decide_eq_true c, by simpa using d⟩
    · refine ⟨_, rfl, iteT ?_⟩
      exact ⟨_, rfl, _, rfl, rfl, fun z hz => (h1 (fun y => c (decide_eq_true y.1))).now z hz⟩
def spNums (K : PySem.W.Frag) : Sp := fun vs H Q E => ∃ (a : Addr) (ns : List Int) (g : Int), vs = [.ref a, .int g] ∧ SqA K H a (ns.map V.int) ∧
  (∀ i n, bad g 0 ns = some (i, n) → Rs (c_BadNumber K) (xB (i : Nat) n) H E) ∧ (bad g 0 ns = none → ∀ H', Same H H' → Q .non H')
theorem ok_check_numbers (T : Tx K mg) : Ok PG w K mg base (L2.CX PG w) 3 (a_check_numbers K) p_check_numbers (spNums K) := by
  refine Ok.of 2 T.f_check_numbers sc_check_numbers bi_check_numbers (by decide) (fun vs H Q E h => ?_) (fun cdv A outer s H vs Q E hr h => ?_)
  · obtain ⟨n, m, _, rfl, _⟩ := h
    rfl
  · obtain ⟨a, ns, g, rfl, hs, h1, h2⟩ := h
    have nd := sc_check_numbers.nd
    refine ⟨_, pss_one (ps_for (passX rfl) rfl (pi_enumW (by rfl) T.m_enumerate (pa_cons (pv 0) pa_nil)) (pg_tup rfl (pgs_cons (pg_name (i := 2) nd rfl (.inl rfl)) (pgs_cons (pg_name (i := 3) nd rfl (.inl rfl)) pgs_nil)))
      (pss_one (ps_expr (pc (ok_check_number T) hr T.g_check_number px (pa_cons (pv 2) (pa_cons (pv 3) (pa_cons (pv 1) pa_nil))))))), ?_⟩
    refine ⟨_, rfl, a, ns.map V.int, rfl, hs, fun J G hG wk => ?_⟩
    refine for_it wk (fun i σ H' => Same H H' ∧ bad g (0 + i) (ns.drop i) = bad g 0 ns ∧ σ.length = 4 ∧ σ[1]? = some (some (.int g))) ⟨.refl _, rfl, rfl, rfl⟩ (fun i σ H' _ p => hG H' p.1) (fun i x σ H0 H1 hi p y => ?_) (fun σ H' p => ?_)
    · obtain ⟨sm, hb, hl, hg⟩ := p
      obtain ⟨T', x', y', rfl, hT, rfl, e1, e2⟩ := y
      obtain ⟨n, hn, rfl⟩ := map_get e2
      cases e1
      have sm' : Same H (upd H0 T' (.tup [.int (i : Nat), .int n])) := sm.new' hT
      obtain ⟨b1, b2⟩ := bad_step hb hn
      have z2 : ((σ.set 2 (some (V.int (i : Nat)))).set 3 (some (V.int n)))[2]? = some (some (.int (i : Nat))) := by
        rw [List.getElem?_set_ne (by decide), List.getElem?_set_self (by omega)]
      have z3 : ((σ.set 2 (some (V.int (i : Nat)))).set 3 (some (V.int n)))[3]? = some (some (.int n)) := by
        rw [List.getElem?_set_self (by rw [List.length_set]; omega)]
      have z1 : ((σ.set 2 (some (V.int (i : Nat)))).set 3 (some (V.int n)))[1]? = some (some (.int g)) := by
        rw [List.getElem?_set_ne (by decide), List.getElem?_set_ne (by decide)]; exact hg
      refine ⟨T', _, rfl, SqT.of upd_same, rfl, _, _, rfl, _, _, rfl, rfl, ?_⟩
      exact ⟨_, z2, _, z3, _, z1, (i : Nat), n, g, rfl, fun c d H2 s2 hd => h1 i n (by have := b2 c; rwa [Nat.zero_add] at this) _ _ (sm'.trans s2) hd, fun c => ⟨sm', b1 c, by simp [hl], z1⟩⟩
    · refine h2 (bad_end (k := 0) ?_) H' p.1
      have := p.2.1
      rwa [List.length_map] at this
end
end K24

set_option maxRecDepth 100000
set_option maxHeartbeats 4000000
/-! # zip(t, u), two tuples -/
namespace L2
open PySem PySem.Spec PyProof.Rows
def ItzT (K : PySem.W.Frag) (a b : Addr) : It :=
  ⟨fun i H => ∃ xs ys : List V, SqT K H a xs ∧ SqT K H b ys ∧ i < xs.length ∧ i < ys.length,
   fun i H v H' => ∃ T x y, v = .ref T ∧ H T = none ∧ H' = upd H T (.tup [x, y]) ∧ (∀ xs, SqT K H a xs → xs[i]? = some x) ∧ ∀ ys, SqT K H b ys → ys[i]? = some y,
   fun i H => ∃ xs ys : List V, SqT K H a xs ∧ SqT K H b ys ∧ min xs.length ys.length = i⟩
/-- what the five cells of the walk look like at turn i -/
def ZipAt (z TI TO i1 i2 a b : Addr) (i : Nat) (h : Heap) : Prop := IsZip h z TI TO .none ∧ IsTupOf2 h TI (.ref i1) (.ref i2) ∧ (∃ a1 a2, IsTupOf2 h TO a1 a2) ∧ h.IsTupleIter i1 a i ∧ h.IsTupleIter i2 b i
theorem turn_zipT {P : Program} {w : World} {K : PySem.W.Frag} {elts : List Expr} {kk : Nat} {tpos : Pos} {a b z TI TO i1 i2 : Addr} (S : ZipSep2 z TI TO i1 i2 [i1, a] [i2, b]) :
    Turn P w K (.Tuple elts kk tpos) (ItzT K a b) [z, TI, TO, i1, i2] z (ZipAt z TI TO i1 i2 a b) where
  mem := by simp
  obj := fun i h st c hc => by
    obtain ⟨h1, h2, ⟨a1, a2, h3⟩, ⟨o4, h4, _, d4⟩, ⟨o5, h5, _, d5⟩⟩ := st
    have e' : c = z ∨ c = TI ∨ c = TO ∨ c = i1 ∨ c = i2 := by simpa using hc
    rcases e' with q | q | q | q | q <;> subst q
    · exact ⟨_, h1, fun v q => nomatch q⟩
    · exact ⟨_, h2, fun v q => nomatch q⟩
    · exact ⟨_, h3, fun v q => nomatch q⟩
    · exact ⟨o4, h4, fun v q => by rw [d4] at q; cases q⟩
    · exact ⟨o5, h5, fun v q => by rw [d5] at q; cases q⟩
  keep := fun i h h' st k => by
    obtain ⟨h1, h2, ⟨a1, a2, h3⟩, h4, h5⟩ := st
    exact ⟨k z (by simp) _ h1, k TI (by simp) _ h2, ⟨a1, a2, k TO (by simp) _ h3⟩, h4.at fun o q => k i1 (by simp) o q, h5.at fun o q => k i2 (by simp) o q⟩
  item := by
    intro X hP hw hK hc i pins s σ H E I hf st hg
    subst hP hw hK
    obtain ⟨h1, h2, h3, h4, h5⟩ := st
    obtain ⟨xs, ys, hx, hy, lx, ly⟩ := hg
    obtain ⟨its, rv, p, _⟩ := I.tuple hx
    obtain ⟨its2, rv2, p2, _⟩ := I.tuple hy
    have dif : ∀ {t u : Addr} {j : Nat} {js : Array Value}, s.heap.IsTupleIter t u j → ∀ {c : Addr}, s.heap.IsTuple c js → c ≠ t := fun {t u j js} hi {c} ht e => by
      obtain ⟨o, ho, hcls, _⟩ := ht
      obtain ⟨o2, ho2, hc2, _⟩ := hi
      rw [e, ho2] at ho
      cases ho
      rw [hc2] at hcls
      exact absurd hcls (by decide)
    have W := GoesN.zip2 (prog := X.prog) (w := X.w) (A := X.A) (elts := elts) (x1 := kk) (pos := tpos) S (Draws.tuple (prog := X.prog) (w := X.w) (A := X.A.in1) (I.ok.hd hc) i1 a (dif h4 p) its.toArray) (Draws.tuple (prog := X.prog) (w := X.w) (A := X.A.in1) (I.ok.hd hc) i2 b (dif h5 p2) its2.toArray)
    have n1 : i < min its.toArray.size its2.toArray.size := by
      rw [List.size_toArray, List.size_toArray, ← rv.length, ← rv2.length]
      omega
    refine wpAny_mono (W.goes i s _ E n1 ⟨h1, h2, h3, ⟨h4, p⟩, h5, p2⟩ fun v h' tk hY st' hk htk => ?_) (fun r s1 hr => hr) fun _ _ q => q
    obtain ⟨T, u1, u2, rfl, hT, e1, e2, hTup⟩ := hY
    obtain ⟨g1, g2, g3, ⟨g4, _⟩, g5, _⟩ := st'
    have hxi : xs[i]? = some xs[i] := List.getElem?_eq_getElem lx
    have hyi : ys[i]? = some ys[i] := List.getElem?_eq_getElem ly
    obtain ⟨v1, hv1, r1⟩ := rv.get hxi
    obtain ⟨v2, hv2, r2⟩ := rv2.get hyi
    have q1 : u1 = v1 := by
      have : its[i]? = some u1 := by simpa using e1
      rw [hv1] at this; exact (Option.some.inj this).symm
    have q2 : u2 = v2 := by
      have : its2[i]? = some u2 := by simpa using e2
      rw [hv2] at this; exact (Option.some.inj this).symm
    subst q1 q2
    have I1 : Inv X pins σ (upd H T (.tup [xs[i], ys[i]])) { s with heap := h', toks := tk } :=
      I.turnedNew (ch := [z, TI, TO, i1, i2]) (fun c o hb q => hk c o (fun m => hb (by
        have e' : c = z ∨ c = TO ∨ c = i1 ∨ c = i2 := by simpa using m
        rcases e' with q | q | q | q <;> simp [q])) q) hf hT ⟨by show 2 ≤ sizeLine; decide, [u1, u2], .cons r1 (.cons r2 .nil), hTup⟩
    refine ⟨.ref T, _, I1, rfl, ⟨T, _, _, rfl, I.hok.fresh hT, rfl, fun l hl => by rw [I.tuple_inj hl hx]; exact hxi, fun l hl => by rw [I.tuple_inj hl hy]; exact hyi⟩, ⟨g1, g2, g3, g4, g5⟩, fun c hc' => ?_⟩
    have lt : c < s.heap.objs.size := by
      have e' : c = z ∨ c = TI ∨ c = TO ∨ c = i1 ∨ c = i2 := by simpa using hc'
      obtain ⟨_, _, g3'⟩ := h3
      obtain ⟨_, w4, _⟩ := h4
      obtain ⟨_, w5, _⟩ := h5
      rcases e' with q | q | q | q | q <;> rw [q]
      · exact Heap.lt_size h1
      · exact Heap.lt_size h2
      · exact Heap.lt_size g3'
      · exact Heap.lt_size w4
      · exact Heap.lt_size w5
    rw [upd_ne (Nat.ne_of_lt (Nat.lt_of_lt_of_le lt hT))]
    exact (hf c hc').1
  done := by
    intro X hP hw hK hc i pins s σ H E I hf st hg
    subst hP hw hK
    obtain ⟨h1, h2, h3, h4, h5⟩ := st
    obtain ⟨xs, ys, hx, hy, hend⟩ := hg
    obtain ⟨its, rv, p, _⟩ := I.tuple hx
    obtain ⟨its2, rv2, p2, _⟩ := I.tuple hy
    have dif : ∀ {t u : Addr} {j : Nat} {js : Array Value}, s.heap.IsTupleIter t u j → ∀ {c : Addr}, s.heap.IsTuple c js → c ≠ t := fun {t u j js} hi {c} ht e => by
      obtain ⟨o, ho, hcls, _⟩ := ht
      obtain ⟨o2, ho2, hc2, _⟩ := hi
      rw [e, ho2] at ho
      cases ho
      rw [hc2] at hcls
      exact absurd hcls (by decide)
    have W := GoesN.zip2 (prog := X.prog) (w := X.w) (A := X.A) (elts := elts) (x1 := kk) (pos := tpos) S (Draws.tuple (prog := X.prog) (w := X.w) (A := X.A.in1) (I.ok.hd hc) i1 a (dif h4 p) its.toArray) (Draws.tuple (prog := X.prog) (w := X.w) (A := X.A.in1) (I.ok.hd hc) i2 b (dif h5 p2) its2.toArray)
    have n1 : min its.toArray.size its2.toArray.size = i := by
      rw [List.size_toArray, List.size_toArray, ← rv.length, ← rv2.length]
      exact hend
    rw [n1] at W
    refine wpAny_mono (W.stops s (fun s1 => Inv X pins σ H s1) E ⟨h1, h2, h3, ⟨h4, p⟩, h5, p2⟩ fun h' tk hk htk => I.turnedL (t' := tk) (ch := [z, TI, TO, i1, i2]) (fun c o hb q => hk c o (fun m => hb ?_) q) hf) (fun r s1 hr => hr) fun _ _ q => q
    have e' : c = z ∨ c = TO ∨ c = i1 ∨ c = i2 := by simpa using m
    rcases e' with q | q | q | q <;> simp [q]
  self := fun A i s Q E st h => wpAny_pyIter_zip st.1 h
theorem walk_zipT {K : PySem.W.Frag} {a b : Addr} {xs ys : List V} : Walk (ItzT K a b) (min xs.length ys.length) (fun H => SqT K H a xs ∧ SqT K H b ys) (YPair (fun i => xs[i]?) (fun i => ys[i]?)) where
  goes := fun i H hi h => ⟨xs, ys, h.1, h.2, by omega, by omega⟩
  stops := fun H h => ⟨xs, ys, h.1, h.2, rfl⟩
  yields := fun i H v H' hi h y => by
    obtain ⟨T, x, y, rfl, hT, rfl, h1, h2⟩ := y
    exact ⟨T, x, y, rfl, hT, rfl, h1 xs h.1, h2 ys h.2⟩
/-- zip(t, u) -/
def iZipT (K : PySem.W.Frag) (ta : TA) : TI := fun σ H R => ta σ H fun vs H1 => ∃ a b xs ys, vs = [.ref a, .ref b] ∧ SqT K H1 a xs ∧ SqT K H1 b ys ∧ R (ItzT K a b) H1
theorem pi_zipT {X : Cx} {e e2 : Expr} {ta : TA} {p pos tpos : Pos} {elts : List Expr} {kk : Nat} (hm : X.mg "zip" = none) (ha : PA X [e, e2] ta) (hg : Gl X "zip" := by rfl)
    (hs : starEach [e, e2] X.env = (false, eval e X.env) :: starEach [e2] X.env := by rfl) (hpl : (backTo pos (starEach [e2] X.env)).any (·.1) = false := by rfl) :
    PI X (.Tuple elts kk tpos) (.Call (.Name "zip" p) [e, e2] [] pos) (iZipT X.K ta) := by
  refine ⟨fun pins s σ H R I h => Call_ (ld_blt I hg hm PyProof.Rows.boot_zip (PyProof.Rows.callWith_type1 (thn (ha.run pos pins s σ H _ I h) fun us s1 ⟨vs, H1, I1, r1, q1⟩ => ?_) hs hpl))⟩
  obtain ⟨a, b, xs, ys, ex, hx, hy, q⟩ := q1
  subst ex
  cases r1 with
  | cons r rr =>
  cases rr with
  | cons r' rr =>
  cases rr
  cases r
  cases r'
  obtain ⟨its, rv, p1, _⟩ := I1.tuple hx
  obtain ⟨its2, rv2, p2, _⟩ := I1.tuple hy
  have lt : ∀ {c : Addr} {js : Array Value}, IsTup s1.heap c js → c < s1.heap.objs.size := fun h => by obtain ⟨_, h, _⟩ := h; exact Heap.lt_size h
  refine zip_begins2 (begins_tuple a its.toArray) (begins_tuple b its2.toArray) p1 p2 fun h' hz hTI hTO h1 h2 hsz hk => wpAny_pyIter_zip hz ?_
  refine ⟨s1.heap.objs.size + 4, [s1.heap.objs.size + 4, s1.heap.objs.size + 2, s1.heap.objs.size + 3, s1.heap.objs.size, s1.heap.objs.size + 1], _, _, H1, rfl, I1.kept (t' := s1.toks) hk, turn_zipT (zip_sep2 (fp1 := [a]) (fp2 := [b]) (fun c m => by rw [List.mem_singleton.mp m]; exact lt p1) (fun c m => by rw [List.mem_singleton.mp m]; exact lt p2)), ⟨hz, hTI, ⟨_, _, hTO⟩, ⟨_, h1, rfl, rfl⟩, ⟨_, h2, rfl, rfl⟩⟩, fun c m => ?_, q⟩
  have le : s1.heap.objs.size ≤ c := by
    have e' : c = s1.heap.objs.size + 4 ∨ c = s1.heap.objs.size + 2 ∨ c = s1.heap.objs.size + 3 ∨ c = s1.heap.objs.size ∨ c = s1.heap.objs.size + 1 := by simpa using m
    rcases e' with z | z | z | z | z <;> rw [z]
    · exact Nat.le_add_right _ _
    · exact Nat.le_add_right _ _
    · exact Nat.le_add_right _ _
    · exact Nat.le_refl _
    · exact Nat.le_add_right _ _
  exact I1.fpOk le (I1.hok.fresh le)
end L2

set_option maxRecDepth 100000
set_option maxHeartbeats 4000000
namespace K24
open PySem PySem.Spec PyProof.Rows L2
section
variable {w : World} {K : PySem.W.Frag} {mg : Str → Option Value} {base : Heap}
abbrev top : Int := 1000000000000000000000000000000
/-- at p a Telling of ns -/
def IsW (K : PySem.W.Frag) (H : Hp) (p : Addr) (ns : List Int) : Prop := ∃ dx t, H p = some (.ins (c_Telling K) dx [("entries", .ref t)]) ∧ SqT K H t (ns.map V.int)
theorem IsW.same {H H' : Hp} {p : Addr} {ns : List Int} (h : IsW K H p ns) (s : Same H H') : IsW K H' p ns := let ⟨dx, t, a, b⟩ := h; ⟨dx, t, s _ _ a, s.seqT b⟩
structure Mkr (K : PySem.W.Frag) (ns : List Int) (H : Hp) (Q : VK) (E : XK) : Prop where
  long : 30 < ns.length → Rs (c_TooLong K) (xT ns.length) H E
  bad_ : ns.length ≤ 30 → ∀ i n, bad top 0 ns = some (i, n) → Rs (c_BadNumber K) (xB (i : Nat) n) H E
  good : ns.length ≤ 30 → bad top 0 ns = none → ∀ H' p, Same H H' → IsW K H' p ns → Q (.ref p) H'
theorem Mkr.same {ns : List Int} {H H' : Hp} {Q : VK} {E : XK} (h : Mkr K ns H Q E) (s : Same H H') : Mkr K ns H' Q E :=
  ⟨fun c => (h.long c).same s, fun c i n e => (h.bad_ c i n e).same s, fun c e H2 p s2 g => h.good c e H2 p (s.trans s2) g⟩
def spInit (K : PySem.W.Frag) : Sp := fun vs H Q E => ∃ (x a dx : Addr) (ns : List Int), vs = [.ref x, .ref a] ∧ H x = some (.ins (c_Telling K) dx []) ∧ SqA K H a (ns.map V.int) ∧
  (30 < ns.length → Rs (c_TooLong K) (xT ns.length) H E) ∧ (ns.length ≤ 30 → ∀ i n, bad top 0 ns = some (i, n) → Rs (c_BadNumber K) (xB (i : Nat) n) H E) ∧
  (ns.length ≤ 30 → bad top 0 ns = none → ∀ H' t, Same H H' → SqT K H' t (ns.map V.int) → Q .non (upd H' x (.ins (c_Telling K) dx [("entries", .ref t)])))
theorem ok_Telling_init (T : Tx K mg) : Ok PG w K mg base (L2.CX PG w) 4 (a_Telling_init K) p_Telling_init (spInit K) := by
  refine Ok.of 3 T.f_Telling_init sc_Telling_init bi_Telling_init (by decide) (fun vs H Q E h => ?_) (fun cdv A outer s H vs Q E hr h => ?_)
  · obtain ⟨n, m, _, _, rfl, _⟩ := h
    rfl
  · obtain ⟨x, a, dx, ns, rfl, hx, ha, h1, h2, h3⟩ := h
    have nd := sc_Telling_init.nd
    obtain ⟨u1, cv1⟩ := T.v_MOST_PEOPLE
    obtain ⟨u2, cv2⟩ := T.v_LIMIT
    refine ⟨_, pss_cons (ps_expr (pc (ok_check_count T) hr T.g_check_count px (pa_cons (pe_callB call_len_seq (by rfl) T.m_len PySem.boot_len (pa_cons (pv 1) pa_nil)) (pa_cons (pe_glob (v := .int 30) rfl cv1 ⟨_, rfl⟩) pa_nil))))
      (pss_cons (ps_expr (pc (ok_check_numbers T) hr T.g_check_numbers px (pa_cons (pv 1) (pa_cons (pe_glob (v := .int top) rfl cv2 ⟨_, rfl⟩) pa_nil))))
      (pss_one (ps_fld (pv 0) (pe_callTy call_tuple_of (by rfl) T.m_tuple (by decide +kernel) (pa_cons (pv 1) pa_nil)) rfl))), ?_⟩
    refine ⟨_, rfl, a, _, rfl, ha, _, _, rfl, fun c => ?_, fun c => ?_⟩
    · have := h1 (by rw [List.length_map] at c; omega)
      rw [List.length_map]
      exact this
    · have hl : ns.length ≤ 30 := by rw [List.length_map] at c; omega
      refine ⟨_, rfl, a, ns, top, rfl, ha, fun i n e => h2 hl i n e, fun e H' sm => ?_⟩
      have fin : ∀ t H2, Same H H2 → SqT K H2 t (ns.map V.int) → Q .non (upd H2 x (.ins (c_Telling K) dx [("entries", .ref t)])) := fun t H2 s2 ht => h3 hl e H2 t s2 ht
      rcases sm.seqA ha with ha' | ha'
      · refine ⟨_, rfl, a, _, rfl, .inl ⟨ha', fun l hl' => ?_⟩⟩
        have hx' : upd H' l (.tup (ns.map V.int)) x = some (.ins (c_Telling K) dx []) := (Same.new hl') _ _ (sm _ _ hx)
        exact ⟨_, rfl, x, c_Telling K, dx, _, rfl, hx', T.cTelling, T.nTelling_entries, by decide, fin l _ (sm.new' hl') (SqT.of upd_same)⟩
      · refine ⟨_, rfl, a, _, rfl, .inr ⟨ha', ?_⟩⟩
        exact ⟨_, rfl, x, c_Telling K, dx, _, rfl, sm _ _ hx, T.cTelling, T.nTelling_entries, by decide, fin a _ sm ha'⟩
theorem mk_tell {H : Hp} {a : Addr} {ns : List Int} {Q : VK} {E : XK} (ha : SqA K H a (ns.map V.int)) (h : Mkr K ns H Q E) : ∀ x dx, H x = none → H dx = none → dx ≠ x →
    spInit K ([.ref x, .ref a]) (upd (upd H dx (.own x)) x (.ins (c_Telling K) dx [])) (fun v H2 => v = .non ∧ Q (.ref x) H2) E := by
  intro x dx hx hdx hne
  have s1 : Same H (upd (upd H dx (.own x)) x (.ins (c_Telling K) dx [])) := (Same.new hdx).new' (by rw [upd_ne (Ne.symm hne)]; exact hx)
  refine ⟨x, a, dx, ns, rfl, upd_same, s1.seqA ha, fun c => (h.long c).same s1, fun c i n e => (h.bad_ c i n e).same s1, fun c e H' t s2 ht => ⟨rfl, ?_⟩⟩
  have hx' : H' x = some (.ins (c_Telling K) dx []) := s2 _ _ upd_same
  have ms : Same H (upd H' x (.ins (c_Telling K) dx [("entries", .ref t)])) := fun b o q => by
    have : b ≠ x := fun z => by rw [z, hx] at q; cases q
    rw [upd_ne this]
    exact s2 _ _ (s1 _ _ q)
  have ht' : SqT K (upd H' x (.ins (c_Telling K) dx [("entries", .ref t)])) t (ns.map V.int) := by
    rcases ht with (ht | ⟨o, ht⟩) | ht
    · exact .inl (.inl (by rw [upd_ne (fun z => by rw [z, hx'] at ht; cases ht)]; exact ht))
    · exact .inl (.inr ⟨o, by rw [upd_ne (fun z => by rw [z, hx'] at ht; cases ht)]; exact ht⟩)
    · exact .inr ht
  exact h.good c e _ x ms ⟨dx, t, upd_same, ht'⟩
def spLen (K : PySem.W.Frag) : Sp := fun vs H Q _ => ∃ (p : Addr) (ns : List Int), vs = [.ref p] ∧ IsW K H p ns ∧ Q (.int ns.length) H
theorem ok_Telling_len (T : Tx K mg) : Ok PG w K mg base CX0 2 (a_Telling_len K) p_Telling_len (spLen K) := by
  refine Ok.of 1 T.f_Telling_len sc_Telling_len bi_Telling_len (by decide) (fun vs H Q E h => ?_) (fun cdv A outer s H vs Q E hr h => ?_)
  · obtain ⟨_, _, rfl, _⟩ := h
    rfl
  · obtain ⟨p, ns, rfl, ⟨dx, t, h1, h2⟩, q⟩ := h
    refine ⟨_, pss_one (ps_ret (pe_callB call_len_seq (by rfl) T.m_len PySem.boot_len (pa_cons (pe_fld (pv 0) rfl) pa_nil))), ?_⟩
    refine ⟨_, rfl, p, _, dx, _, _, rfl, h1, T.cTelling, T.nTelling_entries, rfl, t, _, rfl, .inr h2, ?_⟩
    rw [List.length_map]
    exact q
end
end K24

set_option maxRecDepth 100000
set_option maxHeartbeats 4000000
namespace K24
open PySem PySem.Spec PyProof.Rows L2
section
variable {w : World} {K : PySem.W.Frag} {mg : Str → Option Value} {base : Heap}
theorem it_Telling (T : Tx K mg) : OwnIt K mg (c_Telling K) (a_Telling_iter K) "entries" := by
  obtain ⟨fd, F⟩ := T.f_Telling_iter
  exact ownIt_of T.cTelling T.nTelling_entries T.wTelling_iter.1 T.wTelling_iter.2 T.m_iter F ⟨_, _, _, _, _, rfl, fun env h => by obtain ⟨⟩ := env; cases h; rfl⟩ ⟨rfl, rfl, by decide +kernel, rfl, rfl, rfl⟩ fun s fd v h1 h2 h3 => .of_eq (by obtain ⟨⟩ := fd; cases h1; cases h2; cases h3; rfl)
end
end K24

set_option maxRecDepth 100000
set_option maxHeartbeats 4000000
/-! # zip(a, l): a an own instance whose __iter__ says: return iter(self.field), the field a tuple; l a list -/
namespace L2
open PySem PySem.Spec PyProof.Rows PySem.W
section
variable {X : Cx} {pins : List (Addr × Obj)} {σ : St} {H : Hp} {s : Shared} {a C dx f t : Addr} {fs : List (Str × V)} {fld : Str} {xs : List V} {k : Nat}
theorem own_iterA {A : Around} {E : Value → Shared → Prop} (O : OwnIt X.K X.mg C f fld) (hr : Room k A) (I : Inv X pins σ H s) (ha : H a = some (.ins C dx fs)) (hv : fs.lookup fld = some (.ref t)) (hT : SqT X.K H t xs) {Q : Value → Shared → Prop}
    (hq : ∀ h' tk it, (∀ b o, s.heap.get? b = some o → h'.get? b = some o) → s.heap.objs.size ≤ it → h'.get? it = some (tupIt t) → Q (.ref it) { s with heap := h', toks := tk }) :
    wpAny (model X.prog X.w) A (pyIter (.ref a)) Q E s := by
  obtain ⟨qual, params, scope, p1, p2, p3, p4, p5, ⟨oc, od, kV, doc, pm, an, cdv, ct, osl, hfn, hcd⟩, sc1, sc2, sc3, sc4, sc5, sc6, hb, hbase⟩ := O.txt
  obtain ⟨mA, J0, rel, _⟩ := ins_get I.hok ha
  obtain ⟨oda, J, _⟩ := J0.look
  obtain ⟨m, hF⟩ := I.fr
  obtain ⟨its, rv, hTup, _⟩ := I.tuple hT
  obtain ⟨u, hu, ru⟩ := RelO.some_of (v := V.ref t) (o := mA fld) (by rw [← hv]; exact rel fld)
  cases ru
  have hG : s.heap.Ns mainGlobals X.mg := I.mod.glob.keeps I.bk
  obtain ⟨mb, hB, hbb⟩ := I.mod.blt
  have X0 := I.kIn
  have hlim := I.nolimit
  obtain ⟨hp, g, dr, tk, os⟩ := s
  refine owit_iter hF I.ok.mod.kin J O.at_ O.fn (wpAny_call ?_)
  refine ks_codeAny_call_defAt (binds := [("self", .ref a)]) (by have := hr.dp; omega) (X0 _ _ hfn) rfl hlim (codeRec_of X0 hcd) rfl (hb _ _ _ rfl rfl rfl) sc3 (fun y hy => ?_) (fun h₀ hns hk₀ => ?_) sc5 sc6 sc4
  · have e : y = (("self" : Str), Value.ref a) := by simpa using hy
    rw [e]
    exact sc1
  · have X1 : X.K.In h₀ := X0.keeps hk₀
    have J1 : ObjM h₀ a dx C mA := ⟨hk₀ _ _ J0.obj, J0.ns.at fun o q => hk₀ _ o q, J0.ne⟩
    refine wpAt_of_wpAny (wpAny_execs_cons (wpAny_Return_some ?_))
    refine wpAny_Call_Name_kw (Calls.Name_function_global sc4 sc2 (Calls.loadGlobal_builtin (hG.keeps hk₀) O.free ((hB.keeps I.bk).keeps hk₀) ((hbb _ (by decide)).trans (by decide +kernel : bootBuiltins "iter" = some (.builtin "iter"))) ?_) (by decide))
    refine PyProof.Rows.callWith_builtin1 (spliced_more (attr_of (hbase _ rfl) (PySem.ESX.ldL (v := .ref a) hns (by simp [List.lookup]) ?_ sc4 sc1))) (by rfl) (by rfl)
    refine get_map X1 J1 (O.cls.get _) O.cls.hd O.noA hu rfl (spliced_none ?_)
    refine call_iter_tup (show h₀.IsTuple t its.toArray from let ⟨o, h1, h2⟩ := hTup; ⟨o, hk₀ _ o h1, h2⟩) ?_
    have hT1 : (⟨h₀.push (tupIt t), g, dr, tk + 1 + 1, os⟩ : Shared).TypeIs (.ref h₀.objs.size) "tuple_iterator" := ⟨_, Heap.get?_push_at rfl rfl, rfl⟩
    refine wpAny_specialOf (hT1) F.slot_tuple_iterator_next.lookup ?_
    exact hq _ _ _ (fun b o q => Heap.get?_push_of_some _ (hk₀ b o q)) (by
      have := hns.lt
      exact Nat.le_of_lt this) (Heap.get?_push_at rfl rfl)
end
/-! ## the zip's making over any two iterators -/
abbrev zqT (h : Heap) (i1 i2 : Addr) : Heap := h.push { cls := .type "tuple", data := .seq #[.ref i1, .ref i2] }
abbrev zqO (h : Heap) (i1 i2 : Addr) : Heap := (zqT h i1 i2).push { cls := .type "tuple", data := .seq #[.none, .none] }
abbrev zqZ (h : Heap) (i1 i2 : Addr) : Heap := (zqO h i1 i2).push { cls := .type "zip", data := .fields #[.none, .bool false, .bool false, .ref h.objs.size, .ref (zqT h i1 i2).objs.size] }
/-- how iter(v) goes here, whatever is wanted behind it: the iterator's place and the memory behind it -/
def IterTo (prog : Program) (w : World) (A : Around) (v : Value) (s : Shared) (G : Addr → Shared → Prop) : Prop := ∀ (Q E : Value → Shared → Prop), (∀ it s', G it s' → Q (.ref it) s') → wpAny (model prog w) A (pyIter v) Q E s
theorem meets_zip_q {prog : Program} {w : World} {v1 v2 : Value} :
    MeetsIn prog w (Builtin.«zip.__new__» ⟨[.type "zip", v1, v2], []⟩) (fun A R s => IterTo prog w A.in1 v1 s fun i1 s1 => IterTo prog w A.in1 v2 s1 fun i2 s2 => R (.ok (.ret (.ref (zqO s2.heap i1 i2).objs.size))) { s2 with heap := zqZ s2.heap i1 i2 }) :=
  .of_wp fun A R s h => by
    have hsub := sub_zip
    have q1 : ∀ {E : Value → Shared → Prop} {Q : Value → Shared → Prop}, (∀ it s1, (IterTo prog w A.in1 v2 s1 fun i2 s2 => R (.ok (.ret (.ref (zqO s2.heap it i2).objs.size))) { s2 with heap := zqZ s2.heap it i2 }) → Q (.ref it) s1) → wpAny (model prog w) A.in1 (pyIter v1) Q E s := fun q => h _ _ q
    have q2 : ∀ {E : Value → Shared → Prop} {Q : Value → Shared → Prop} {it : Addr} {s1 : Shared}, (IterTo prog w A.in1 v2 s1 fun i2 s2 => R (.ok (.ret (.ref (zqO s2.heap it i2).objs.size))) { s2 with heap := zqZ s2.heap it i2 }) → (∀ i2 s2, R (.ok (.ret (.ref (zqO s2.heap it i2).objs.size))) { s2 with heap := zqZ s2.heap it i2 } → Q (.ref i2) s2) → wpAny (model prog w) A.in1 (pyIter v2) Q E s1 := fun g q => g _ _ q
    wp_walk using q1
    intro it s1 g
    have q3 : ∀ {E : Value → Shared → Prop} {Q : Value → Shared → Prop}, (∀ i2 s2, R (.ok (.ret (.ref (zqO s2.heap it i2).objs.size))) { s2 with heap := zqZ s2.heap it i2 } → Q (.ref i2) s2) → wpAny (model prog w) A.in1 (pyIter v2) Q E s1 := fun q => q2 g q
    wp_walk using q3
    intro i2 s2 g2
    obtain ⟨hp, gg, d, tk, os⟩ := s2
    wp_walk
    exact ⟨_, rfl, g2⟩
/-- zip(v, u): what is left when both have begun -/
theorem zip_q {prog : Program} {w : World} {A : Around} {E : Value → Shared → Prop} {s : Shared} {v1 v2 : Value} {Q : Value → Shared → Prop}
    (h : IterTo prog w A.in1.in1 v1 s fun i1 s1 => IterTo prog w A.in1.in1 v2 s1 fun i2 s2 => ∀ h', IsZip h' (s2.heap.objs.size + 2) s2.heap.objs.size (s2.heap.objs.size + 1) .none → IsTupOf2 h' s2.heap.objs.size (.ref i1) (.ref i2) →
      IsTupOf2 h' (s2.heap.objs.size + 1) .none .none → h'.objs.size = s2.heap.objs.size + 3 → (∀ c o, s2.heap.get? c = some o → h'.get? c = some o) → Q (.ref (s2.heap.objs.size + 2)) { s2 with heap := h' }) :
    wpAny (model prog w) A (call (.type "zip") [v1, v2]) Q E s := by
  refine callType_newIn F.called_zip (by decide) (F.typeCall_zip_2 _ _) (F.newCall_zip_2 _ _) (fun obj => F.args_object_init_3 obj _ _) F.entry_zip_new meets_zip_q ?_
  refine fun Q1 E1 k1 => h Q1 E1 fun i1 s1 h1 => k1 i1 s1 fun Q2 E2 k2 => h1 Q2 E2 fun i2 s2 h2 => k2 i2 s2 ?_
  have zT : (zqT s2.heap i1 i2).objs.size = s2.heap.objs.size + 1 := by rw [Heap.size_push]
  have zO : (zqO s2.heap i1 i2).objs.size = s2.heap.objs.size + 2 := by rw [Heap.size_push, zT]
  have zZ : (zqZ s2.heap i1 i2).objs.size = s2.heap.objs.size + 3 := by rw [Heap.size_push, zO]
  have gZ : (zqZ s2.heap i1 i2).get? (zqO s2.heap i1 i2).objs.size = some { cls := .type "zip", data := .fields #[.none, .bool false, .bool false, .ref s2.heap.objs.size, .ref (zqT s2.heap i1 i2).objs.size] } := Heap.get?_push_size _ rfl
  have gO : (zqZ s2.heap i1 i2).get? (zqT s2.heap i1 i2).objs.size = some { cls := .type "tuple", data := .seq #[.none, .none] } := Heap.get?_push_of_some _ (Heap.get?_push_size _ rfl)
  have gT : (zqZ s2.heap i1 i2).get? s2.heap.objs.size = some { cls := .type "tuple", data := .seq #[.ref i1, .ref i2] } := Heap.get?_push_of_some _ (Heap.get?_push_of_some _ (Heap.get?_push_size _ rfl))
  rw [zO, zT] at gZ
  rw [zT] at gO
  show _ ∧ _
  rw [zO]
  exact ⟨⟨_, gZ, rfl⟩, h2 _ gZ gT gO zZ fun c o e => Heap.get?_push_of_some _ (Heap.get?_push_of_some _ (Heap.get?_push_of_some _ e))⟩
def ItzO (K : PySem.W.Frag) (a b : Addr) : It :=
  ⟨fun i H => ∃ xs ys : List V, SqT K H a xs ∧ SqL K H b ys ∧ i < xs.length ∧ i < ys.length,
   fun i H v H' => ∃ T x y, v = .ref T ∧ H T = none ∧ H' = upd H T (.tup [x, y]) ∧ (∀ xs, SqT K H a xs → xs[i]? = some x) ∧ ∀ ys, SqL K H b ys → ys[i]? = some y,
   fun i H => ∃ xs ys : List V, SqT K H a xs ∧ SqL K H b ys ∧ min xs.length ys.length = i⟩
/-- what the five cells of the walk look like at turn i -/
def ZipAtO (z TI TO i1 i2 a b : Addr) (i : Nat) (h : Heap) : Prop := IsZip h z TI TO .none ∧ IsTupOf2 h TI (.ref i1) (.ref i2) ∧ (∃ a1 a2, IsTupOf2 h TO a1 a2) ∧ h.IsTupleIter i1 a i ∧ h.IsListIter i2 b i
theorem turn_zipO {P : Program} {w : World} {K : PySem.W.Frag} {elts : List Expr} {kk : Nat} {tpos : Pos} {a b z TI TO i1 i2 : Addr} (S : ZipSep2 z TI TO i1 i2 [i1, a] [i2, b]) :
    Turn P w K (.Tuple elts kk tpos) (ItzO K a b) [z, TI, TO, i1, i2] z (ZipAtO z TI TO i1 i2 a b) where
  mem := by simp
  obj := fun i h st c hc => by
    obtain ⟨h1, h2, ⟨a1, a2, h3⟩, ⟨o4, h4, _, d4⟩, ⟨o5, h5, _, d5⟩⟩ := st
    have e' : c = z ∨ c = TI ∨ c = TO ∨ c = i1 ∨ c = i2 := by simpa using hc
    rcases e' with q | q | q | q | q <;> subst q
    · exact ⟨_, h1, fun v q => nomatch q⟩
    · exact ⟨_, h2, fun v q => nomatch q⟩
    · exact ⟨_, h3, fun v q => nomatch q⟩
    · exact ⟨o4, h4, fun v q => by rw [d4] at q; cases q⟩
    · exact ⟨o5, h5, fun v q => by rw [d5] at q; cases q⟩
  keep := fun i h h' st k => by
    obtain ⟨h1, h2, ⟨a1, a2, h3⟩, h4, h5⟩ := st
    exact ⟨k z (by simp) _ h1, k TI (by simp) _ h2, ⟨a1, a2, k TO (by simp) _ h3⟩, h4.at fun o q => k i1 (by simp) o q, h5.at fun o q => k i2 (by simp) o q⟩
  item := by
    intro X hP hw hK hc i pins s σ H E I hf st hg
    subst hP hw hK
    obtain ⟨h1, h2, h3, h4, h5⟩ := st
    obtain ⟨xs, ys, hx, hy, lx, ly⟩ := hg
    obtain ⟨its, rv, p, _⟩ := I.tuple hx
    obtain ⟨its2, rv2, p2', _⟩ := I.list hy
    have p2 : s.heap.IsList b its2.toArray := p2'.isList
    have da : a ≠ i1 := fun e => by
      obtain ⟨o, ho, hcls, _⟩ := p
      obtain ⟨o2, ho2, hc2, _⟩ := h4
      rw [e, ho2] at ho
      cases ho
      rw [hc2] at hcls
      exact absurd hcls (by decide)
    have db : b ≠ i2 := fun e => by
      obtain ⟨o, ho, hcls, _⟩ := p2
      obtain ⟨o2, ho2, hc2, _⟩ := h5
      rw [e, ho2] at ho
      cases ho
      rw [hc2] at hcls
      exact absurd hcls (by decide)
    have W := GoesN.zip2 (prog := X.prog) (w := X.w) (A := X.A) (elts := elts) (x1 := kk) (pos := tpos) S (Draws.tuple (prog := X.prog) (w := X.w) (A := X.A.in1) (I.ok.hd hc) i1 a da its.toArray) (Draws.list (prog := X.prog) (w := X.w) (A := X.A.in1) (I.ok.hd hc) i2 b db its2.toArray)
    have n1 : i < min its.toArray.size its2.toArray.size := by
      rw [List.size_toArray, List.size_toArray, ← rv.length, ← rv2.length]
      omega
    refine wpAny_mono (W.goes i s _ E n1 ⟨h1, h2, h3, ⟨h4, p⟩, h5, p2⟩ fun v h' tk hY st' hk htk => ?_) (fun r s1 hr => hr) fun _ _ q => q
    obtain ⟨T, u1, u2, rfl, hT, e1, e2, hTup⟩ := hY
    obtain ⟨g1, g2, g3, ⟨g4, _⟩, g5, _⟩ := st'
    have hxi : xs[i]? = some xs[i] := List.getElem?_eq_getElem lx
    have hyi : ys[i]? = some ys[i] := List.getElem?_eq_getElem ly
    obtain ⟨v1, hv1, r1⟩ := rv.get hxi
    obtain ⟨v2, hv2, r2⟩ := rv2.get hyi
    have q1 : u1 = v1 := by
      have : its[i]? = some u1 := by simpa using e1
      rw [hv1] at this; exact (Option.some.inj this).symm
    have q2 : u2 = v2 := by
      have : its2[i]? = some u2 := by simpa using e2
      rw [hv2] at this; exact (Option.some.inj this).symm
    subst q1 q2
    have I1 : Inv X pins σ (upd H T (.tup [xs[i], ys[i]])) { s with heap := h', toks := tk } :=
      I.turnedNew (ch := [z, TI, TO, i1, i2]) (fun c o hb q => hk c o (fun m => hb (by
        have e' : c = z ∨ c = TO ∨ c = i1 ∨ c = i2 := by simpa using m
        rcases e' with q | q | q | q <;> simp [q])) q) hf hT ⟨by show 2 ≤ sizeLine; decide, [u1, u2], .cons r1 (.cons r2 .nil), hTup⟩
    refine ⟨.ref T, _, I1, rfl, ⟨T, _, _, rfl, I.hok.fresh hT, rfl, fun l hl => by rw [I.tuple_inj hl hx]; exact hxi, fun l hl => by rw [I.list_inj hl hy]; exact hyi⟩, ⟨g1, g2, g3, g4, g5⟩, fun c hc' => ?_⟩
    have lt : c < s.heap.objs.size := by
      have e' : c = z ∨ c = TI ∨ c = TO ∨ c = i1 ∨ c = i2 := by simpa using hc'
      obtain ⟨_, _, g3'⟩ := h3
      obtain ⟨_, w4, _⟩ := h4
      obtain ⟨_, w5, _⟩ := h5
      rcases e' with q | q | q | q | q <;> rw [q]
      · exact Heap.lt_size h1
      · exact Heap.lt_size h2
      · exact Heap.lt_size g3'
      · exact Heap.lt_size w4
      · exact Heap.lt_size w5
    rw [upd_ne (Nat.ne_of_lt (Nat.lt_of_lt_of_le lt hT))]
    exact (hf c hc').1
  done := by
    intro X hP hw hK hc i pins s σ H E I hf st hg
    subst hP hw hK
    obtain ⟨h1, h2, h3, h4, h5⟩ := st
    obtain ⟨xs, ys, hx, hy, hend⟩ := hg
    obtain ⟨its, rv, p, _⟩ := I.tuple hx
    obtain ⟨its2, rv2, p2', _⟩ := I.list hy
    have p2 : s.heap.IsList b its2.toArray := p2'.isList
    have da : a ≠ i1 := fun e => by
      obtain ⟨o, ho, hcls, _⟩ := p
      obtain ⟨o2, ho2, hc2, _⟩ := h4
      rw [e, ho2] at ho
      cases ho
      rw [hc2] at hcls
      exact absurd hcls (by decide)
    have db : b ≠ i2 := fun e => by
      obtain ⟨o, ho, hcls, _⟩ := p2
      obtain ⟨o2, ho2, hc2, _⟩ := h5
      rw [e, ho2] at ho
      cases ho
      rw [hc2] at hcls
      exact absurd hcls (by decide)
    have W := GoesN.zip2 (prog := X.prog) (w := X.w) (A := X.A) (elts := elts) (x1 := kk) (pos := tpos) S (Draws.tuple (prog := X.prog) (w := X.w) (A := X.A.in1) (I.ok.hd hc) i1 a da its.toArray) (Draws.list (prog := X.prog) (w := X.w) (A := X.A.in1) (I.ok.hd hc) i2 b db its2.toArray)
    have n1 : min its.toArray.size its2.toArray.size = i := by
      rw [List.size_toArray, List.size_toArray, ← rv.length, ← rv2.length]
      exact hend
    rw [n1] at W
    refine wpAny_mono (W.stops s (fun s1 => Inv X pins σ H s1) E ⟨h1, h2, h3, ⟨h4, p⟩, h5, p2⟩ fun h' tk hk htk => I.turnedL (t' := tk) (ch := [z, TI, TO, i1, i2]) (fun c o hb q => hk c o (fun m => hb ?_) q) hf) (fun r s1 hr => hr) fun _ _ q => q
    have e' : c = z ∨ c = TO ∨ c = i1 ∨ c = i2 := by simpa using m
    rcases e' with q | q | q | q <;> simp [q]
  self := fun A i s Q E st h => wpAny_pyIter_zip st.1 h
theorem walk_zipO {K : PySem.W.Frag} {a b : Addr} {xs ys : List V} : Walk (ItzO K a b) (min xs.length ys.length) (fun H => SqT K H a xs ∧ SqL K H b ys) (YPair (fun i => xs[i]?) (fun i => ys[i]?)) where
  goes := fun i H hi h => ⟨xs, ys, h.1, h.2, by omega, by omega⟩
  stops := fun H h => ⟨xs, ys, h.1, h.2, rfl⟩
  yields := fun i H v H' hi h y => by
    obtain ⟨T, x, y, rfl, hT, rfl, h1, h2⟩ := y
    exact ⟨T, x, y, rfl, hT, rfl, h1 xs h.1, h2 ys h.2⟩
theorem sepO {N i t b : Nat} (h1 : i < N) (h2 : t < N) (h3 : b < N) (nb : i ≠ b) : ZipSep2 (N + 3) (N + 1) (N + 2) i N [i, t] [N, b] where
  TIz := show (N + 1 : Nat) ≠ N + 3 by omega
  TOz := show (N + 2 : Nat) ≠ N + 3 by omega
  TITO := show (N + 1 : Nat) ≠ N + 2 by omega
  TIi1 := show (N + 1 : Nat) ≠ i by omega
  mem1 := List.mem_cons_self ..
  zf1 := fun m => by
    have : (N + 3 : Nat) = i ∨ (N + 3 : Nat) = t := by simpa using m
    omega
  Tf1 := fun m => by
    have : (N + 2 : Nat) = i ∨ (N + 2 : Nat) = t := by simpa using m
    omega
  TIi2 := show (N + 1 : Nat) ≠ N by omega
  mem2 := List.mem_cons_self ..
  zf2 := fun m => by
    rcases List.mem_cons.mp m with m | m
    · exact absurd m (show (N + 3 : Nat) ≠ N by omega)
    · exact absurd (List.mem_singleton.mp m) (show (N + 3 : Nat) ≠ b by omega)
  Tf2 := fun m => by
    rcases List.mem_cons.mp m with m | m
    · exact absurd m (show (N + 2 : Nat) ≠ N by omega)
    · exact absurd (List.mem_singleton.mp m) (show (N + 2 : Nat) ≠ b by omega)
  sep1_2 := fun m => by
    rcases List.mem_cons.mp m with m | m
    · exact absurd m (show (i : Nat) ≠ N by omega)
    · exact nb (List.mem_singleton.mp m)
  sep2_1 := fun m => by
    rcases List.mem_cons.mp m with m | m
    · exact absurd m (show (N : Nat) ≠ i by omega)
    · exact absurd (List.mem_singleton.mp m) (show (N : Nat) ≠ t by omega)
/-- zip(o, l): o an own instance whose __iter__ walks its field fld (a tuple), l a list -/
def iZipO (K : PySem.W.Frag) (C : Addr) (fld : Str) (ta : TA) : TI := fun σ H R => ta σ H fun vs H1 => ∃ a b dx fs t xs ys, vs = [.ref a, .ref b] ∧ H1 a = some (.ins C dx fs) ∧ fs.lookup fld = some (.ref t) ∧ SqT K H1 t xs ∧ SqL K H1 b ys ∧ R (ItzO K t b) H1
theorem pi_zipO {X : Cx} {e e2 : Expr} {ta : TA} {p pos tpos : Pos} {elts : List Expr} {kk : Nat} {C f : Addr} {fld : Str} {k : Nat} (O : OwnIt X.K X.mg C f fld) (hr : Room (k + 2) X.A) (hm : X.mg "zip" = none) (ha : PA X [e, e2] ta) (hg : Gl X "zip" := by rfl)
    (hs : starEach [e, e2] X.env = (false, eval e X.env) :: starEach [e2] X.env := by rfl) (hpl : (backTo pos (starEach [e2] X.env)).any (·.1) = false := by rfl) :
    PI X (.Tuple elts kk tpos) (.Call (.Name "zip" p) [e, e2] [] pos) (iZipO X.K C fld ta) := by
  refine ⟨fun pins s σ H R I h => Call_ (ld_blt I hg hm PyProof.Rows.boot_zip (PyProof.Rows.callWith_type1 (thn (ha.run pos pins s σ H _ I h) fun us s1 ⟨vs, H1, I1, r1, q1⟩ => ?_) hs hpl))⟩
  obtain ⟨a, b, dx, fs, t, xs, ys, ex, hin, hl, hx, hy, q⟩ := q1
  subst ex
  cases r1 with
  | cons r rr =>
  cases rr with
  | cons r' rr =>
  cases rr
  cases r
  cases r'
  refine zip_q fun Q1 E1 k1 => own_iterA O hr.in1.in1 I1 hin hl hx fun h1 tk1 it1 hk1 hit1 ho1 => k1 it1 _ fun Q2 E2 k2 => ?_
  have I2 : Inv X pins σ H1 { s1 with heap := h1, toks := tk1 } := I1.kept (t' := tk1) hk1
  obtain ⟨its2, rv2, p2, _⟩ := I2.list hy
  obtain ⟨its, rv, p1, _⟩ := I2.tuple hx
  refine wpAny_pyIter_list p2.isList (k2 _ _ ?_)
  have zp : (h1.push { cls := .type "list_iterator", data := .fields #[.ref b, .int 0 0] }).objs.size = h1.objs.size + 1 := Heap.size_push ..
  dsimp only
  rw [zp]
  intro h' hz hTI hTO hsz hk
  refine wpAny_pyIter_zip hz ?_
  have hkk : ∀ c o, h1.get? c = some o → h'.get? c = some o := fun c o e => hk c o (Heap.get?_push_of_some _ e)
  have I3 : Inv X pins σ H1 { s1 with heap := h', toks := tk1 } := I2.kept (t' := tk1) hkk
  have l1 : it1 < h1.objs.size := Heap.lt_size ho1
  have lb : b < h1.objs.size := p2.lt
  have lt : t < h1.objs.size := by obtain ⟨_, h, _⟩ := p1; exact Heap.lt_size h
  have hi2 : h'.get? h1.objs.size = some { cls := .type "list_iterator", data := .fields #[.ref b, .int 0 0] } := hk _ _ (Heap.get?_push_size _ rfl)
  have nt : it1 ≠ b := fun e => by
    rw [e] at ho1
    obtain ⟨o, ho, hc, _⟩ := p2.isList
    have ho' : h1.get? b = some o := ho
    rw [ho'] at ho1
    cases ho1
    have hc' : Value.type "tuple_iterator" = Value.type "list" := hc
    exact absurd hc' (by decide)
  have S := sepO l1 lt lb nt
  refine ⟨_, [h1.objs.size + 3, h1.objs.size + 1, h1.objs.size + 2, it1, h1.objs.size], ZipAtO (h1.objs.size + 3) (h1.objs.size + 1) (h1.objs.size + 2) it1 h1.objs.size t b, _, H1, rfl, I3, turn_zipO S, ⟨hz, hTI, ⟨_, _, hTO⟩, ⟨_, hkk _ _ ho1, rfl, rfl⟩, ⟨_, hi2, rfl, rfl⟩⟩, fun c m => ?_, q⟩
  have hlt : s1.heap.objs.size ≤ h1.objs.size := Nat.le_of_lt (Nat.lt_of_le_of_lt hit1 l1)
  have le : s1.heap.objs.size ≤ c := by
    have e' : c = h1.objs.size + 3 ∨ c = h1.objs.size + 1 ∨ c = h1.objs.size + 2 ∨ c = it1 ∨ c = h1.objs.size := by simpa using m
    rcases e' with z | z | z | z | z <;> rw [z]
    · exact Nat.le_trans hlt (Nat.le_add_right _ 3)
    · exact Nat.le_trans hlt (Nat.le_add_right _ 1)
    · exact Nat.le_trans hlt (Nat.le_add_right _ 2)
    · exact hit1
    · exact hlt
  exact I1.fpOk le (I1.hok.fresh le)
end L2

set_option maxRecDepth 100000
set_option maxHeartbeats 4000000
/-! # list(a), a an own instance whose __iter__ says: return iter(self.field), the field a tuple, and that has a __len__ -/
namespace L2
open PySem PySem.Spec PyProof.Rows PySem.W
section
variable {X : Cx} {CX : CXT} {C f g : Addr} {ps : List Str} {sp : Sp} {k : Nat} {pins : List (Addr × Obj)} {σ : St} {H : Hp} {s : Shared} {a dx : Addr} {fs : List (Str × V)}
theorem hint_own {A : Around} {E : Value → Shared → Prop} {Q : Bool → Shared → Prop} {n : Nat} (O : Ok X.prog X.w X.K X.mg X.base CX0 k g ps sp) (W : findIn X.K (.ref C) "__len__" = some (some (.ref g)) ∧ isFn X.K (.ref g) = true) (hr : Room k A.in1)
    (e0 : Env0 X.prog X.w X.K X.mg X.base A.in1 X.stack s H) (I : Inv X pins σ H s) (ha : H a = some (.ins C dx fs)) (hsp : sp [.ref a] H (fun v H' => v = .int (n : Nat) ∧ H' = H) (fun _ _ _ => False)) (hn : n ≤ 2 ^ 24)
    (hQ : ∀ s', Inv X pins σ H s' → Q ((n : Int) != 0) s') : wpAny (model X.prog X.w) A (Builtin.List.listLengthHint (.ref a)) Q E s := by
  obtain ⟨fd, F, hb, _⟩ := O.ex
  obtain ⟨od, J⟩ := inst_of I.hok ha
  obtain ⟨m, hF⟩ := I.fr
  have Xh := I.kIn
  unfold Builtin.List.listLengthHint
  refine wpAny_bind (wpAny_bind (J.type.here ((looks_findIn Xh W.1).here ?_)))
  refine wpAny_ite_split (fun hab => Bool.noConfusion hab) (fun _ => ?_)
  refine wpAny_ite_split (fun _ => ?_) (fun hab => absurd rfl hab)
  refine wpAny_bind (wpAny_rule ?_)
  have I' : Inv (X.wish fun e s' => False) pins σ H s := I.wish _
  refine wpAny_bind (wpAny_attempt (PySem.W.len_K hF I.ok.mod.kin J W.1 W.2 (wpAny_mono (run_fnA (X := X.wish fun e s' => False) F hb hr e0 (E := fun _ _ _ => False) pass0 I' (us := [.ref a]) (vs := [.ref a]) (.cons rfl .nil) hsp) (fun v s' q => ?_) fun _ _ z => z.elim)))
  obtain ⟨x, H', I2, rx, rfl, rfl⟩ := q
  obtain ⟨t, rfl⟩ := rx
  refine ⟨⟨by omega, by omega⟩, ?_⟩
  have htl : Builtin.List.listTooLong ((n : Int).toNat) = false := by simp [Builtin.List.listTooLong, sizeLine]; omega
  refine wpAny_bind (m := asInt? _) (wpAny_pure ?_)
  exact wpAny_ite_split (fun hab => absurd hab (by rw [htl]; decide)) (fun _ => wpAny_pure (hQ _ (I2.unwish.tok _)))
theorem extend_own {R : Result → Shared → Prop} {fld : Str} {t S : Addr} {xs : List V} {n : Nat} (hc : X.calm = true) (Oi : OwnIt X.K X.mg C f fld) (O : Ok X.prog X.w X.K X.mg X.base CX0 k g ps sp) (W : findIn X.K (.ref C) "__len__" = some (some (.ref g)) ∧ isFn X.K (.ref g) = true)
    (hri : Room k X.A.in1.in1) (hr : Room k X.A.in1.in1.in1) (I : Inv X pins σ H s) (ha : H a = some (.ins C dx fs)) (hl : fs.lookup fld = some (.ref t)) (hx : SqT X.K H t xs)
    (hsp : sp [.ref a] H (fun v H' => v = .int (n : Nat) ∧ H' = H) (fun _ _ _ => False)) (hn : n ≤ 2 ^ 24) (res : Value) (c₀ : Nat) (hS : s.heap.get? S = some { cls := .type "list", data := .seq #[] c₀ }) (hfS : FpOk X pins H S)
    (hR : ∀ s', Inv X pins σ (upd H S (.lst xs)) s' → R (.ok (.ret res)) s') :
    wpAny (model X.prog X.w) X.A.in1.in1 (Builtin.List.listExtendWith (.ref S) (.ref a) res)
      (fun fin s' => match fin with | .done f => R (.ok f) s' | .again c' => c'.quiet = true ∧ codeAny (model X.prog X.w) X.A.in1 c' R s') (fun e s' => R (.error e) s') s := by
  obtain ⟨od, J⟩ := inst_of I.hok ha
  have hSa : S ≠ a := fun e => by rw [e] at hfS; rw [hfS.1] at ha; cases ha
  unfold Builtin.List.listExtendWith
  refine wpAny_bind (J.type.here ?_)
  have h1 : Builtin.List.listSameRef (.ref S) (.ref a) = false := by simp [Builtin.List.listSameRef, hSa]
  have h2 : (Value.ref C == Value.type "list") = false := rfl
  have h3 : (Value.ref C == Value.type "tuple") = false := rfl
  simp only [h1, h2, h3, Bool.or_false, Bool.false_eq_true, if_false]
  refine wpAny_bind (own_iterA Oi hri I ha hl hx fun h1 tk1 it hk1 hit1 ho1 => ?_)
  have I1 : Inv X pins σ H { s with heap := h1, toks := tk1 } := I.kept (t' := tk1) hk1
  have hfI : FpOk X pins H it := I.fpOk hit1 (I.hok.fresh hit1)
  have hS1 := hk1 _ _ hS
  have hSI : S ≠ it := fun e => by
    rw [e, ho1] at hS1
    exact absurd (show Value.type "tuple_iterator" = Value.type "list" from congrArg Obj.cls (Option.some.inj hS1)) (by decide)
  have IP := I1.pinned (fp := [S, it]) (fun b hb => by
    rcases List.mem_cons.mp hb with rfl | hb
    · exact hfS
    · rw [List.mem_singleton.mp hb]; exact hfI) (fun b hb => by
    rcases List.mem_cons.mp hb with rfl | hb
    · exact ⟨_, hS1, fun v e => by cases e⟩
    · rw [List.mem_singleton.mp hb]; exact ⟨_, ho1, fun v e => by cases e⟩)
  have inS : (S, ({ cls := .type "list", data := .seq #[] c₀ } : Obj)) ∈ pins ++ pinsAt [S, it] h1 := by
    refine List.mem_append_right _ ?_
    unfold pinsAt
    refine List.mem_filterMap.mpr ⟨S, by simp, ?_⟩
    rw [hS1]; rfl
  have inI : (it, tupIt t) ∈ pins ++ pinsAt [S, it] h1 := by
    refine List.mem_append_right _ ?_
    unfold pinsAt
    refine List.mem_filterMap.mpr ⟨it, by simp, ?_⟩
    rw [ho1]; rfl
  refine wpAny_bind (wpAny_holding (hint_own (n := n) O W hr IP.env0.in1.in1.in1 IP ha hsp hn fun s2 I2 => ?_))
  have gS : s2.heap.get? S = some { cls := .type "list", data := .seq #[] c₀ } := (I2.pin _ (List.mem_append_right _ inS)).1
  have gI : s2.heap.get? it = some (tupIt t) := (I2.pin _ (List.mem_append_right _ inI)).1
  have I3 : Inv X pins σ H s2 := I2.unpinned
  obtain ⟨its, rv, hT, hz⟩ := I3.tuple hx
  have hT' : s2.heap.IsTuple t its.toArray := hT
  have hne : t ≠ it := fun e => by
    obtain ⟨o, ho, hcls, _⟩ := hT'
    rw [e, gI] at ho
    cases ho
    exact absurd (show Value.type "tuple_iterator" = Value.type "tuple" from hcls) (by decide)
  have hSf : S ∉ [it, t] := fun hm => by
    rcases List.mem_cons.mp hm with e | hm
    · exact hSI e
    · obtain ⟨o, ho, hcls, _⟩ := hT'
      rw [← List.mem_singleton.mp hm, gS] at ho
      cases ho
      exact absurd (show Value.type "list" = Value.type "tuple" from hcls) (by decide)
  have Wk := (Walks.tuple (prog := X.prog) (w := X.w) (A := X.A.in1.in1) (I.ok.hd hc) it t hne its.toArray).toS
  have key : ∀ (h : Heap) (c₁ tk : Nat), (h.IsTupleIter it t 0 ∧ h.IsTuple t its.toArray) → (∀ b o, b ≠ S → s2.heap.get? b = some o → h.get? b = some o) →
      h.get? S = some { cls := .type "list", data := .seq #[] c₁ } → codeAny (model X.prog X.w) X.A.in1 (.builtin "list.extend.loop" ⟨[.ref S, .ref it, res], []⟩) R { s2 with heap := h, toks := tk } := by
    intro h c₁ tk hit hk hS₁
    refine codeAny_extend_loopS Wk (by rw [List.size_toArray, ← rv.length]; exact hz) S hSf res _ 0 _ #[] c₁ rfl (Nat.zero_le _) hit hS₁ (ItemsOf.nil _) fun s' acc' c' hm hS' hacc => ?_
    have eq := Moved.eq_with hm
    rw [eq]
    have k2 : ∀ b o, b ∉ [S, it] → s2.heap.get? b = some o → s'.heap.get? b = some o := fun b o hb e => hm.heap b o (fun hmem => hb (by
      rcases List.mem_cons.mp hmem with e' | hmem
      · simp [e']
      · simp [List.mem_singleton.mp hmem])) (hk b o (fun z => hb (by simp [z])) e)
    have I4 : Inv X pins σ H { s2 with heap := s'.heap, toks := s'.toks } := I3.turnedL (t' := s'.toks) (ch := [S, it]) k2 (fun b hb => by
      rcases List.mem_cons.mp hb with rfl | hb
      · exact hfS
      · rw [List.mem_singleton.mp hb]; exact hfI)
    refine hR _ (I4.take (h' := s'.heap) (t' := s'.toks) (fun b ob _ e => e) hfS ⟨hz, its, c', rv, ?_⟩)
    have ea : acc' = its.toArray := by
      refine Array.ext_getElem? fun i => ?_
      by_cases hi : i < acc'.size
      · have e1 : acc'[i]? = some acc'[i] := Array.getElem?_eq_getElem hi
        rw [e1]
        exact (hacc.2 i _ e1).symm
      · rw [Array.getElem?_eq_none (by omega), Array.getElem?_eq_none (by rw [← hacc.1]; omega)]
    rw [← ea]
    exact hS'
  have hit₁ : s2.heap.IsTupleIter it t 0 ∧ s2.heap.IsTuple t its.toArray := ⟨⟨_, gI, rfl, rfl⟩, hT'⟩
  refine wpAny_ite_split (fun _ => ?_) (fun _ => wpAny_pure ⟨plainId_quiet F.plain_extend_loop _, key _ c₀ _ hit₁ (fun b o _ e => e) gS⟩)
  refine wpAny_bind (wpAny_rule ?_)
  refine wpAny_bind ?_
  show wpAny _ _ (updateSeq S (·.push .none) >>= fun _ => updateSeq S (·.pop)) _ _ _
  refine wpAny_bind (wpAny_updateSeq gS rfl ?_)
  have hS₂ := Heap.get?_update_self (Obj.mapSeq (·.push Value.none)) gS rfl
  refine wpAny_updateSeq (hz := by seq_fits) hS₂ rfl ?_
  have hS₃ := Heap.get?_update_self (Obj.mapSeq (·.pop)) hS₂ rfl
  refine wpAny_pure ⟨plainId_quiet F.plain_extend_loop _, key _ _ _ ?_ (fun b o hb e => ?_) hS₃⟩
  · obtain ⟨o1, g1, g2, g3⟩ := hT'
    refine ⟨⟨_, (Heap.get?_update_other _ _ hSI).trans ((Heap.get?_update_other _ _ hSI).trans gI), rfl, rfl⟩, o1, ?_, g2, g3⟩
    have hSt : S ≠ t := fun e => hSf (by simp [e])
    exact (Heap.get?_update_other _ _ hSt).trans ((Heap.get?_update_other _ _ hSt).trans g1)
  · exact (Heap.get?_update_other _ _ (Ne.symm hb)).trans ((Heap.get?_update_other _ _ (Ne.symm hb)).trans e)
/-- list(a) -/
def rListO (K : Frag) (C : Addr) (fld : Str) (sp : Sp) : List V → Hp → VK → Prop := fun vs H Q => ∃ (a dx : Addr) (fs : List (Str × V)) (t : Addr) (xs : List V) (n : Nat), vs = [V.ref a] ∧ H a = some (.ins C dx fs) ∧ fs.lookup fld = some (.ref t) ∧ SqT K H t xs ∧ n ≤ 2 ^ 24 ∧
  sp [.ref a] H (fun v H' => v = .int (n : Nat) ∧ H' = H) (fun _ _ _ => False) ∧ ∀ l, H l = none → Q (.ref l) (upd H l (.lst xs))
theorem cr_listO {fld : Str} (hc : X.calm = true) (Oi : OwnIt X.K X.mg C f fld) (O : Ok X.prog X.w X.K X.mg X.base CX0 k g ps sp) (W : findIn X.K (.ref C) "__len__" = some (some (.ref g)) ∧ isFn X.K (.ref g) = true) (hr : Room (k + 3) X.A) : CallR X (.type "list") (rListO X.K C fld sp) := by
  intro pins s σ H vs us Q I r h
  obtain ⟨a, dx, fs, t, xs, n, rfl, ha, hl, hx, hn, hsp, q⟩ := h
  cases r with
  | cons r rr =>
  cases rr
  cases r
  refine callType_codes (Q₁ := fun obj s₁ => obj = .ref s.heap.objs.size ∧ s₁ = { s with heap := s.heap.push { cls := .type "list", data := .seq #[] } }) F.called_list (F.typeCall_list_1 _) F.entry_list_init
    (code_list_new _ ⟨rfl, rfl⟩) fun obj s₁ h₁ => ?_
  obtain ⟨rfl, rfl⟩ := h₁
  have hS : (s.heap.push { cls := .type "list", data := .seq #[] }).get? s.heap.objs.size = some { cls := .type "list", data := .seq #[] } := Heap.get?_push_size _ rfl
  have hfS : FpOk X pins H s.heap.objs.size := I.fpOk (Nat.le_refl _) (I.hok.fresh (Nat.le_refl _))
  refine ⟨⟨_, hS, rfl⟩, F.args_list_init_2 _ _, ?_⟩
  generalize s.heap.objs.size = S at hS hfS ⊢
  have I1 : Inv X pins σ H { s with heap := s.heap.push { cls := .type "list", data := .seq #[] } } := I.kept (t' := s.toks) fun b o e => Heap.get?_push_of_some _ e
  show wpAny _ _ (do let old ← Builtin.List.listItems (.ref S); Builtin.List.listUpdate (.ref S) (fun _ => #[]); letGo old.toList.reverse; Builtin.List.listExtendWith (.ref S) (.ref a) .none) _ _ _
  refine wpAny_bind ?_
  unfold Builtin.List.listItems
  refine wpAny_bind (wpAny_seqItems hS rfl (wpAny_pure ?_))
  show wpAny _ _ (updateSeq S (fun _ => #[]) >>= fun _ => letGo (#[] : Array Value).toList.reverse >>= fun _ => Builtin.List.listExtendWith (.ref S) (.ref a) .none) _ _ _
  refine wpAny_bind (wpAny_updateSeq hS rfl ?_)
  have hS₂ := Heap.get?_update_self (Obj.mapSeq (fun _ => (#[] : Array Value))) hS rfl
  refine wpAny_bind (wpAny_letGo ?_)
  have I2 := I1.turnedL (t' := s.toks) (h' := (s.heap.push { cls := .type "list", data := .seq #[] }).update S (Obj.mapSeq (fun _ => (#[] : Array Value)))) (ch := [S]) (fun b o hb e => (Heap.get?_update_other _ _ (fun z => hb (by simp [z]))).trans e) (fun b hb => by rw [List.mem_singleton.mp hb]; exact hfS)
  exact extend_own (R := _) (n := n) hc Oi O W (hr.in1.in1.mono (by omega)) hr.in1.in1.in1 I2 ha hl hx hsp hn .none _ hS₂ hfS fun s' I3 => ⟨rfl, .ref S, _, I3, rfl, q S hfS.1⟩
end
end L2

set_option maxRecDepth 100000
set_option maxHeartbeats 4000000
/-! # zip(t, l, u): a tuple, a list, a tuple -/
namespace L2
open PySem PySem.Spec PyProof.Rows
def Itz3 (K : PySem.W.Frag) (a b c : Addr) : It :=
  ⟨fun i H => ∃ xs ys zs : List V, SqT K H a xs ∧ SqL K H b ys ∧ SqT K H c zs ∧ i < xs.length ∧ i < ys.length ∧ i < zs.length,
   fun i H v H' => ∃ T x y z, v = .ref T ∧ H T = none ∧ H' = upd H T (.tup [x, y, z]) ∧ (∀ xs, SqT K H a xs → xs[i]? = some x) ∧ (∀ ys, SqL K H b ys → ys[i]? = some y) ∧ ∀ zs, SqT K H c zs → zs[i]? = some z,
   fun i H => ∃ xs ys zs : List V, SqT K H a xs ∧ SqL K H b ys ∧ SqT K H c zs ∧ min (min xs.length ys.length) zs.length = i⟩
def ZipAt3 (z TI TO i1 i2 i3 a b c : Addr) (i : Nat) (h : Heap) : Prop := IsZip h z TI TO .none ∧ IsTupOf3 h TI (.ref i1) (.ref i2) (.ref i3) ∧ (∃ a1 a2 a3, IsTupOf3 h TO a1 a2 a3) ∧ h.IsTupleIter i1 a i ∧ h.IsListIter i2 b i ∧ h.IsTupleIter i3 c i
theorem turn_zip3 {P : Program} {w : World} {K : PySem.W.Frag} {elts : List Expr} {kk : Nat} {tpos : Pos} {a b d z TI TO i1 i2 i3 : Addr} (S : ZipSep3 z TI TO i1 i2 i3 [i1, a] [i2, b] [i3, d]) :
    Turn P w K (.Tuple elts kk tpos) (Itz3 K a b d) [z, TI, TO, i1, i2, i3] z (ZipAt3 z TI TO i1 i2 i3 a b d) where
  mem := by simp
  obj := fun i h st c hc => by
    obtain ⟨h1, h2, ⟨a1, a2, a3, h3⟩, ⟨o4, h4, _, d4⟩, ⟨o5, h5, _, d5⟩, ⟨o6, h6, _, d6⟩⟩ := st
    have e' : c = z ∨ c = TI ∨ c = TO ∨ c = i1 ∨ c = i2 ∨ c = i3 := by simpa using hc
    rcases e' with q | q | q | q | q | q <;> subst q
    · exact ⟨_, h1, fun v q => nomatch q⟩
    · exact ⟨_, h2, fun v q => nomatch q⟩
    · exact ⟨_, h3, fun v q => nomatch q⟩
    · exact ⟨o4, h4, fun v q => by rw [d4] at q; cases q⟩
    · exact ⟨o5, h5, fun v q => by rw [d5] at q; cases q⟩
    · exact ⟨o6, h6, fun v q => by rw [d6] at q; cases q⟩
  keep := fun i h h' st k => by
    obtain ⟨h1, h2, ⟨a1, a2, a3, h3⟩, h4, h5, h6⟩ := st
    exact ⟨k z (by simp) _ h1, k TI (by simp) _ h2, ⟨a1, a2, a3, k TO (by simp) _ h3⟩, h4.at fun o q => k i1 (by simp) o q, h5.at fun o q => k i2 (by simp) o q, h6.at fun o q => k i3 (by simp) o q⟩
  item := by
    intro X hP hw hK hc i pins s σ H E I hf st hg
    subst hP hw hK
    obtain ⟨h1, h2, h3, h4, h5, h6⟩ := st
    obtain ⟨xs, ys, zs, hx, hy, hz, lx, ly, lz⟩ := hg
    obtain ⟨its, rv, p, _⟩ := I.tuple hx
    obtain ⟨its2, rv2, p2', _⟩ := I.list hy
    obtain ⟨its3, rv3, p3, _⟩ := I.tuple hz
    have p2 : s.heap.IsList b its2.toArray := p2'.isList
    have dif : ∀ {t u : Addr} {j : Nat} {js : Array Value}, s.heap.IsTupleIter t u j → ∀ {c : Addr}, s.heap.IsTuple c js → c ≠ t := fun {t u j js} hi {c} ht e => by
      obtain ⟨o, ho, hcls, _⟩ := ht
      obtain ⟨o2, ho2, hc2, _⟩ := hi
      rw [e, ho2] at ho
      cases ho
      rw [hc2] at hcls
      exact absurd hcls (by decide)
    have db : b ≠ i2 := fun e => by
      obtain ⟨o, ho, hcls, _⟩ := p2
      obtain ⟨o2, ho2, hc2, _⟩ := h5
      rw [e, ho2] at ho
      cases ho
      rw [hc2] at hcls
      exact absurd hcls (by decide)
    have W := GoesN.zip3 (prog := X.prog) (w := X.w) (A := X.A) (elts := elts) (x1 := kk) (pos := tpos) S (Draws.tuple (prog := X.prog) (w := X.w) (A := X.A.in1) (I.ok.hd hc) i1 a (dif h4 p) its.toArray) (Draws.list (prog := X.prog) (w := X.w) (A := X.A.in1) (I.ok.hd hc) i2 b db its2.toArray) (Draws.tuple (prog := X.prog) (w := X.w) (A := X.A.in1) (I.ok.hd hc) i3 d (dif h6 p3) its3.toArray)
    have n1 : i < min (min its.toArray.size its2.toArray.size) its3.toArray.size := by
      rw [List.size_toArray, List.size_toArray, List.size_toArray, ← rv.length, ← rv2.length, ← rv3.length]
      omega
    refine wpAny_mono (W.goes i s _ E n1 ⟨h1, h2, h3, ⟨h4, p⟩, ⟨h5, p2⟩, h6, p3⟩ fun v h' tk hY st' hk htk => ?_) (fun r s1 hr => hr) fun _ _ q => q
    obtain ⟨T, u1, u2, u3, rfl, hT, e1, e2, e3, hTup⟩ := hY
    obtain ⟨g1, g2, g3, ⟨g4, _⟩, ⟨g5, _⟩, g6, _⟩ := st'
    have hxi : xs[i]? = some xs[i] := List.getElem?_eq_getElem lx
    have hyi : ys[i]? = some ys[i] := List.getElem?_eq_getElem ly
    have hzi : zs[i]? = some zs[i] := List.getElem?_eq_getElem lz
    obtain ⟨v1, hv1, r1⟩ := rv.get hxi
    obtain ⟨v2, hv2, r2⟩ := rv2.get hyi
    obtain ⟨v3, hv3, r3⟩ := rv3.get hzi
    have q1 : u1 = v1 := by
      have : its[i]? = some u1 := by simpa using e1
      rw [hv1] at this; exact (Option.some.inj this).symm
    have q2 : u2 = v2 := by
      have : its2[i]? = some u2 := by simpa using e2
      rw [hv2] at this; exact (Option.some.inj this).symm
    have q3 : u3 = v3 := by
      have : its3[i]? = some u3 := by simpa using e3
      rw [hv3] at this; exact (Option.some.inj this).symm
    subst q1 q2 q3
    have I1 : Inv X pins σ (upd H T (.tup [xs[i], ys[i], zs[i]])) { s with heap := h', toks := tk } :=
      I.turnedNew (ch := [z, TI, TO, i1, i2, i3]) (fun c o hb q => hk c o (fun m => hb (by
        have e' : c = z ∨ c = TO ∨ c = i1 ∨ c = i2 ∨ c = i3 := by simpa using m
        rcases e' with q | q | q | q | q <;> simp [q])) q) hf hT ⟨by show 3 ≤ sizeLine; decide, [u1, u2, u3], .cons r1 (.cons r2 (.cons r3 .nil)), hTup⟩
    refine ⟨.ref T, _, I1, rfl, ⟨T, _, _, _, rfl, I.hok.fresh hT, rfl, fun l hl => by rw [I.tuple_inj hl hx]; exact hxi, fun l hl => by rw [I.list_inj hl hy]; exact hyi, fun l hl => by rw [I.tuple_inj hl hz]; exact hzi⟩, ⟨g1, g2, g3, g4, g5, g6⟩, fun c hc' => ?_⟩
    have lt : c < s.heap.objs.size := by
      have e' : c = z ∨ c = TI ∨ c = TO ∨ c = i1 ∨ c = i2 ∨ c = i3 := by simpa using hc'
      obtain ⟨_, _, _, g3'⟩ := h3
      obtain ⟨_, w4, _⟩ := h4
      obtain ⟨_, w5, _⟩ := h5
      obtain ⟨_, w6, _⟩ := h6
      rcases e' with q | q | q | q | q | q <;> rw [q]
      · exact Heap.lt_size h1
      · exact Heap.lt_size h2
      · exact Heap.lt_size g3'
      · exact Heap.lt_size w4
      · exact Heap.lt_size w5
      · exact Heap.lt_size w6
    rw [upd_ne (Nat.ne_of_lt (Nat.lt_of_lt_of_le lt hT))]
    exact (hf c hc').1
  done := by
    intro X hP hw hK hc i pins s σ H E I hf st hg
    subst hP hw hK
    obtain ⟨h1, h2, h3, h4, h5, h6⟩ := st
    obtain ⟨xs, ys, zs, hx, hy, hz, hend⟩ := hg
    obtain ⟨its, rv, p, _⟩ := I.tuple hx
    obtain ⟨its2, rv2, p2', _⟩ := I.list hy
    obtain ⟨its3, rv3, p3, _⟩ := I.tuple hz
    have p2 : s.heap.IsList b its2.toArray := p2'.isList
    have dif : ∀ {t u : Addr} {j : Nat} {js : Array Value}, s.heap.IsTupleIter t u j → ∀ {c : Addr}, s.heap.IsTuple c js → c ≠ t := fun {t u j js} hi {c} ht e => by
      obtain ⟨o, ho, hcls, _⟩ := ht
      obtain ⟨o2, ho2, hc2, _⟩ := hi
      rw [e, ho2] at ho
      cases ho
      rw [hc2] at hcls
      exact absurd hcls (by decide)
    have db : b ≠ i2 := fun e => by
      obtain ⟨o, ho, hcls, _⟩ := p2
      obtain ⟨o2, ho2, hc2, _⟩ := h5
      rw [e, ho2] at ho
      cases ho
      rw [hc2] at hcls
      exact absurd hcls (by decide)
    have W := GoesN.zip3 (prog := X.prog) (w := X.w) (A := X.A) (elts := elts) (x1 := kk) (pos := tpos) S (Draws.tuple (prog := X.prog) (w := X.w) (A := X.A.in1) (I.ok.hd hc) i1 a (dif h4 p) its.toArray) (Draws.list (prog := X.prog) (w := X.w) (A := X.A.in1) (I.ok.hd hc) i2 b db its2.toArray) (Draws.tuple (prog := X.prog) (w := X.w) (A := X.A.in1) (I.ok.hd hc) i3 d (dif h6 p3) its3.toArray)
    have n1 : min (min its.toArray.size its2.toArray.size) its3.toArray.size = i := by
      rw [List.size_toArray, List.size_toArray, List.size_toArray, ← rv.length, ← rv2.length, ← rv3.length]
      exact hend
    rw [n1] at W
    refine wpAny_mono (W.stops s (fun s1 => Inv X pins σ H s1) E ⟨h1, h2, h3, ⟨h4, p⟩, ⟨h5, p2⟩, h6, p3⟩ fun h' tk hk htk => I.turnedL (t' := tk) (ch := [z, TI, TO, i1, i2, i3]) (fun c o hb q => hk c o (fun m => hb ?_) q) hf) (fun r s1 hr => hr) fun _ _ q => q
    have e' : c = z ∨ c = TO ∨ c = i1 ∨ c = i2 ∨ c = i3 := by simpa using m
    rcases e' with q | q | q | q | q <;> simp [q]
  self := fun A i s Q E st h => wpAny_pyIter_zip st.1 h
/-- a new triple of the i-th of each -/
def YTrip (xs ys zs : Nat → Option V) : Nat → Hp → V → Hp → Prop := fun i H v H' => ∃ T x y z, v = .ref T ∧ H T = none ∧ H' = upd H T (.tup [x, y, z]) ∧ xs i = some x ∧ ys i = some y ∧ zs i = some z
theorem walk_zip3 {K : PySem.W.Frag} {a b c : Addr} {xs ys zs : List V} : Walk (Itz3 K a b c) (min (min xs.length ys.length) zs.length) (fun H => SqT K H a xs ∧ SqL K H b ys ∧ SqT K H c zs) (YTrip (fun i => xs[i]?) (fun i => ys[i]?) (fun i => zs[i]?)) where
  goes := fun i H hi h => ⟨xs, ys, zs, h.1, h.2.1, h.2.2, by omega, by omega, by omega⟩
  stops := fun H h => ⟨xs, ys, zs, h.1, h.2.1, h.2.2, rfl⟩
  yields := fun i H v H' hi h y => by
    obtain ⟨T, x, y, z, rfl, hT, rfl, h1, h2, h3⟩ := y
    exact ⟨T, x, y, z, rfl, hT, rfl, h1 xs h.1, h2 ys h.2.1, h3 zs h.2.2⟩
def iZip3 (K : PySem.W.Frag) (ta : TA) : TI := fun σ H R => ta σ H fun vs H1 => ∃ a b c xs ys zs, vs = [.ref a, .ref b, .ref c] ∧ SqT K H1 a xs ∧ SqL K H1 b ys ∧ SqT K H1 c zs ∧ R (Itz3 K a b c) H1
theorem pi_zip3 {X : Cx} {e e2 e3 : Expr} {ta : TA} {p pos tpos : Pos} {elts : List Expr} {kk : Nat} (hm : X.mg "zip" = none) (ha : PA X [e, e2, e3] ta) (hg : Gl X "zip" := by rfl)
    (hs : starEach [e, e2, e3] X.env = (false, eval e X.env) :: starEach [e2, e3] X.env := by rfl) (hpl : (backTo pos (starEach [e2, e3] X.env)).any (·.1) = false := by rfl) :
    PI X (.Tuple elts kk tpos) (.Call (.Name "zip" p) [e, e2, e3] [] pos) (iZip3 X.K ta) := by
  refine ⟨fun pins s σ H R I h => Call_ (ld_blt I hg hm PyProof.Rows.boot_zip (PyProof.Rows.callWith_type1 (thn (ha.run pos pins s σ H _ I h) fun us s1 ⟨vs, H1, I1, r1, q1⟩ => ?_) hs hpl))⟩
  obtain ⟨a, b, c, xs, ys, zs, ex, hx, hy, hz, q⟩ := q1
  subst ex
  cases r1 with
  | cons r rr =>
  cases rr with
  | cons r' rr =>
  cases rr with
  | cons r'' rr =>
  cases rr
  cases r
  cases r'
  cases r''
  obtain ⟨its, rv, p1, _⟩ := I1.tuple hx
  obtain ⟨its2, rv2, p2', _⟩ := I1.list hy
  obtain ⟨its3, rv3, p3, _⟩ := I1.tuple hz
  have p2 : s1.heap.IsList b its2.toArray := p2'.isList
  have lt : ∀ {c : Addr} {js : Array Value}, IsTup s1.heap c js → c < s1.heap.objs.size := fun h => by obtain ⟨_, h, _⟩ := h; exact Heap.lt_size h
  have lb : b < s1.heap.objs.size := p2'.lt
  refine zip_begins3 (begins_tuple a its.toArray) (begins_list b its2.toArray) (begins_tuple c its3.toArray) p1 p2 p3 fun h' hz hTI hTO h1 h2 h3 hsz hk => wpAny_pyIter_zip hz ?_
  refine ⟨s1.heap.objs.size + 5, [s1.heap.objs.size + 5, s1.heap.objs.size + 3, s1.heap.objs.size + 4, s1.heap.objs.size, s1.heap.objs.size + 1, s1.heap.objs.size + 2], _, _, H1, rfl, I1.kept (t' := s1.toks) hk, turn_zip3 (zip_sep3 (fp1 := [a]) (fp2 := [b]) (fp3 := [c]) (fun c m => by rw [List.mem_singleton.mp m]; exact lt p1) (fun c m => by rw [List.mem_singleton.mp m]; exact lb) (fun c m => by rw [List.mem_singleton.mp m]; exact lt p3)), ⟨hz, hTI, ⟨_, _, _, hTO⟩, ⟨_, h1, rfl, rfl⟩, ⟨_, h2, rfl, rfl⟩, ⟨_, h3, rfl, rfl⟩⟩, fun c m => ?_, q⟩
  have le : s1.heap.objs.size ≤ c := by
    have e' : c = s1.heap.objs.size + 5 ∨ c = s1.heap.objs.size + 3 ∨ c = s1.heap.objs.size + 4 ∨ c = s1.heap.objs.size ∨ c = s1.heap.objs.size + 1 ∨ c = s1.heap.objs.size + 2 := by simpa using m
    rcases e' with z | z | z | z | z | z <;> rw [z]
    · exact Nat.le_add_right _ _
    · exact Nat.le_add_right _ _
    · exact Nat.le_add_right _ _
    · exact Nat.le_refl _
    · exact Nat.le_add_right _ _
    · exact Nat.le_add_right _ _
  exact I1.fpOk le (I1.hok.fresh le)
end L2

set_option maxRecDepth 100000
set_option maxHeartbeats 4000000
/-! # Plain lemmas: members of rows of numbers; lists of people -/
namespace L2
open PySem PySem.Spec PyProof.Rows
theorem inV_ints (x : Int) (xs : List Int) : inV (.int x) (xs.map V.int) = decide (x ∈ xs) := by
  unfold inV
  rw [List.any_map]
  induction xs with
  | nil => rfl
  | cons y ys ih =>
    rw [List.any_cons, ih]
    by_cases h : y = x
    · subst h; simp [eqV]
    · have h' : ¬ x = y := fun e => h e.symm
      simp [eqV, h, h']
theorem flat_ints (xs : List Int) : (xs.map V.int).all flatV = true := List.all_eq_true.mpr fun v hv => by obtain ⟨x, _, rfl⟩ := List.mem_map.mp hv; rfl
/-- what is wrong first with a list of people: (false, entry): no person; (true, entry): named twice -/
def badP (n : Int) : List Int → List Int → Option (Bool × Int)
  | _, [] => none
  | pre, p :: ps => if 0 ≤ p ∧ p < n then (if p ∈ pre then some (true, p) else badP n (pre ++ [p]) ps) else some (false, p)
theorem badP_step {n : Int} {ps : List Int} {i : Nat} {p : Int} (h : badP n (ps.take i) (ps.drop i) = badP n [] ps) (hp : ps[i]? = some p) :
    (¬ (0 ≤ p ∧ p < n) → badP n [] ps = some (false, p)) ∧ ((0 ≤ p ∧ p < n) → p ∈ ps.take i → badP n [] ps = some (true, p)) ∧ ((0 ≤ p ∧ p < n) → p ∉ ps.take i → badP n (ps.take (i + 1)) (ps.drop (i + 1)) = badP n [] ps) := by
  obtain ⟨hi, rfl⟩ := List.getElem?_eq_some_iff.mp hp
  rw [List.drop_eq_getElem_cons hi] at h
  refine ⟨fun c => ?_, fun c m => ?_, fun c m => ?_⟩
  · rw [← h, badP, if_neg c]
  · rw [← h, badP, if_pos c, if_pos m]
  · rw [← h, badP, if_pos c, if_neg m, List.take_succ, hp]
    rfl
theorem badP_end {n : Int} {ps : List Int} (h : badP n (ps.take ps.length) (ps.drop ps.length) = badP n [] ps) : badP n [] ps = none := by
  rw [← h, List.drop_length, badP]
theorem badP_none {n : Int} : ∀ {ps pre : List Int}, badP n pre ps = none ↔ (∀ p ∈ ps, 0 ≤ p ∧ p < n) ∧ ps.Nodup ∧ ∀ p ∈ ps, p ∉ pre
  | [], pre => by simp [badP]
  | p :: ps, pre => by
    rw [badP]
    split
    · rename_i c
      split
      · rename_i m
        simp [m]
      · rename_i m
        rw [badP_none (ps := ps)]
        constructor
        · rintro ⟨h1, h2, h3⟩
          refine ⟨fun x hx => ?_, List.nodup_cons.mpr ⟨fun z => ?_, h2⟩, fun x hx => ?_⟩
          · rcases List.mem_cons.mp hx with rfl | hx
            · exact c
            · exact h1 x hx
          · exact h3 p z (by simp)
          · rcases List.mem_cons.mp hx with rfl | hx
            · exact m
            · exact fun z => h3 x hx (by simp [z])
        · rintro ⟨h1, h2, h3⟩
          refine ⟨fun x hx => h1 x (by simp [hx]), (List.nodup_cons.mp h2).2, fun x hx z => ?_⟩
          rcases List.mem_append.mp z with z | z
          · exact h3 x (by simp [hx]) z
          · rw [List.mem_singleton.mp z] at hx
            exact (List.nodup_cons.mp h2).1 hx
    · rename_i c
      constructor
      · intro z; cases z
      · rintro ⟨h1, _, _⟩
        exact absurd (h1 p (by simp)) c
theorem badP_run (n : Nat) : badP (n : Nat) [] ((List.range n).map fun i => ((i : Nat) : Int)) = none := by
  rw [badP_none]
  refine ⟨fun p hp => ?_, ?_, fun p _ z => by cases z⟩
  · obtain ⟨i, hi, rfl⟩ := List.mem_map.mp hp
    have := List.mem_range.mp hi
    omega
  · unfold List.Nodup
    rw [List.pairwise_map]
    exact List.Pairwise.imp (fun h e => h (by omega)) (List.nodup_range : (List.range n).Nodup)
/-! ## slices -/
theorem cutTo (xs : List V) (j : Nat) : cutV xs none (some ((j : Nat) : Int)) = xs.take j := by
  unfold cutV
  rw [HT.sIx_none, HT.sIx_nat, List.drop_zero, Nat.sub_zero]
  rcases Nat.le_total j xs.length with h | h
  · rw [Nat.min_eq_left h]
  · rw [Nat.min_eq_right h, List.take_of_length_le h, List.take_of_length_le (Nat.le_refl _)]
theorem cutFrom (xs : List V) (j : Nat) : cutV xs (some ((j : Nat) : Int)) none = xs.drop j := by
  unfold cutV
  rw [HT.sIx_none, HT.sIx_nat]
  rcases Nat.le_total j xs.length with h | h
  · rw [Nat.min_eq_left h, List.take_of_length_le (by rw [List.length_drop]; exact Nat.le_refl _)]
  · rw [Nat.min_eq_right h, Nat.sub_self, List.take_zero, List.drop_of_length_le h]
theorem cutEnd (xs : List V) (j : Nat) : cutV xs (some ((j : Nat) : Int)) (some ((xs.length : Nat) : Int)) = xs.drop j := by
  unfold cutV
  rw [HT.sIx_nat, HT.sIx_nat, Nat.min_self]
  rcases Nat.le_total j xs.length with h | h
  · rw [Nat.min_eq_left h, List.take_of_length_le (by rw [List.length_drop]; exact Nat.le_refl _)]
  · rw [Nat.min_eq_right h, Nat.sub_self, List.take_zero, List.drop_of_length_le h]
/-- len(x) within a comprehension -/
def rLenQ (K : PySem.W.Frag) : List V → Hp → VK → Prop := fun xs H Q => ∃ p ys, xs = [V.ref p] ∧ (SqL K H p ys ∨ SqT K H p ys) ∧ Q (.int ((ys.length : Nat) : Int)) H
/-- a block of two: what the rest asks is shown once, for every memory that the first may leave -/
theorem seqP {t u : TS} {D : Ends} {σ : L2.St} {H : Hp} (P : Hp → Prop) (h2 : ∀ H', P H' → u D σ H') (h1 : (∀ H', P H' → u D σ H') → t { D with nx := u D } σ H) : tSeq t u D σ H := h1 h2
theorem seqQ {t u : TS} {D : Ends} {σ : L2.St} {H : Hp} (P : L2.St → Hp → Prop) (h2 : ∀ σ' H', P σ' H' → u D σ' H') (h1 : (∀ σ' H', P σ' H' → u D σ' H') → t { D with nx := u D } σ H) : tSeq t u D σ H := h1 h2
/-- a drawn place of a written row -/
theorem pick {ms : List Int} {v : Int} (h0 : 0 ≤ v) (h1 : v < ms.length) : ∃ m ∈ ms, atI (ms.map V.int) v = some (.int m) := by
  obtain ⟨j, rfl⟩ : ∃ j : Nat, v = (j : Nat) := ⟨v.toNat, by omega⟩
  have hj : j < ms.length := by omega
  exact ⟨ms[j], List.getElem_mem hj, atI_nat (by rw [List.getElem?_map, List.getElem?_eq_getElem hj]; rfl)⟩
theorem atI_neg1 {α : Type} {xs : List α} {v : α} (h : xs[xs.length - 1]? = some v) : atI xs (-1) = some v := by
  obtain ⟨hi, e⟩ := List.getElem?_eq_some_iff.mp h
  have ne : xs ≠ [] := fun z => by rw [z] at hi; cases hi
  have : xs = xs.dropLast ++ [v] := by
    rw [← e, ← List.getLast_eq_getElem ne]
    exact (List.dropLast_concat_getLast ne).symm
  rw [this]
  exact atI_last _ _
/-- a loop's body -/
def forBodyL : Stmt → List Stmt
  | .For _ _ b _ _ => b
  | _ => []
end L2

set_option maxRecDepth 100000
set_option maxHeartbeats 8000000
namespace K24
open PySem PySem.Spec PyProof.Rows L2
section
variable {w : World} {K : PySem.W.Frag} {mg : Str → Option Value} {base : Heap}
theorem sqL_ins {H : Hp} {a x C dx : Addr} {fs : List (Str × V)} {xs : List V} {o : HO} (h : SqL K H a xs) (hx : H x = some (.ins C dx fs)) : SqL K (upd H x o) a xs := by
  rcases h with (h | ⟨u, h⟩) | h
  · exact .inl (.inl (by rw [upd_ne (fun z => by rw [z, hx] at h; cases h)]; exact h))
  · exact .inl (.inr ⟨u, by rw [upd_ne (fun z => by rw [z, hx] at h; cases h)]; exact h⟩)
  · exact .inr h
theorem sqT_ins {H : Hp} {a x C dx : Addr} {fs : List (Str × V)} {xs : List V} {o : HO} (h : SqT K H a xs) (hx : H x = some (.ins C dx fs)) : SqT K (upd H x o) a xs := by
  rcases h with (h | ⟨u, h⟩) | h
  · exact .inl (.inl (by rw [upd_ne (fun z => by rw [z, hx] at h; cases h)]; exact h))
  · exact .inl (.inr ⟨u, by rw [upd_ne (fun z => by rw [z, hx] at h; cases h)]; exact h⟩)
  · exact .inr h
theorem upd_over {H : Hp} {x l : Addr} {i1 i3 o : HO} (h : l ≠ x) : upd (upd (upd H x i1) l o) x i3 = upd (upd H l o) x i3 := by
  funext b
  by_cases e : b = x
  · subst e
    rw [upd_same, upd_same]
  · rw [upd_ne e, upd_ne e]
    by_cases e2 : b = l
    · subst e2
      rw [upd_same, upd_same]
    · rw [upd_ne e2, upd_ne e2, upd_ne e]
abbrev xL (n m : Int) : HO := .xd [("wanted", .int m), ("found", .int n)]
abbrev xP (n : Int) : HO := .xd [("person", .int n)]
/-- at p a Bounds of ls, hs -/
def IsB (K : PySem.W.Frag) (H : Hp) (p : Addr) (ls hs : List Int) : Prop := ∃ dx t u, H p = some (.ins (c_Bounds K) dx [("lows", .ref t), ("highs", .ref u)]) ∧ SqT K H t (ls.map V.int) ∧ SqT K H u (hs.map V.int) ∧ ls.length ≤ 30 ∧ hs.length = ls.length ∧ bad top 0 ls = none ∧ bad top 0 hs = none
theorem IsB.same {H H' : Hp} {p : Addr} {ls hs : List Int} (h : IsB K H p ls hs) (s : Same H H') : IsB K H' p ls hs := let ⟨dx, t, u, a, b, c, d⟩ := h; ⟨dx, t, u, s _ _ a, s.seqT b, s.seqT c, d⟩
/-- what comes of wrong lows and highs -/
structure BErr (K : PySem.W.Frag) (ls hs : List Int) (H : Hp) (E : XK) : Prop where
  long : 30 < ls.length → Rs (c_TooLong K) (xT ls.length) H E
  badL : ls.length ≤ 30 → ∀ i n, bad top 0 ls = some (i, n) → Rs (c_BadNumber K) (xB (i : Nat) n) H E
  wl : ls.length ≤ 30 → bad top 0 ls = none → hs.length ≠ ls.length → Rs (c_WrongLength K) (xL hs.length ls.length) H E
  badH : ls.length ≤ 30 → bad top 0 ls = none → hs.length = ls.length → ∀ i n, bad top 0 hs = some (i, n) → Rs (c_BadNumber K) (xB (i : Nat) n) H E
theorem BErr.same {ls hs : List Int} {H H' : Hp} {E : XK} (h : BErr K ls hs H E) (s : Same H H') : BErr K ls hs H' E := ⟨fun c => (h.long c).same s, fun c i n e => (h.badL c i n e).same s, fun c d e => (h.wl c d e).same s, fun c d e i n g => (h.badH c d e i n g).same s⟩
theorem BErr.no {ls hs : List Int} {H : Hp} {E : XK} (l : ls.length ≤ 30) (a : bad top 0 ls = none) (b : hs.length = ls.length) (c : bad top 0 hs = none) : BErr K ls hs H E := ⟨fun z => absurd z (by omega), fun _ i n e => by (rw [a] at e; cases e), fun _ _ z => absurd b z, fun _ _ _ i n e => by (rw [c] at e; cases e)⟩
def spBInit (K : PySem.W.Frag) : Sp := fun vs H Q E => ∃ (x a b dx : Addr) (ls hs : List Int), vs = [.ref x, .ref a, .ref b] ∧ H x = some (.ins (c_Bounds K) dx []) ∧ SqA K H a (ls.map V.int) ∧ SqA K H b (hs.map V.int) ∧ BErr K ls hs H E ∧
  (ls.length ≤ 30 → bad top 0 ls = none → hs.length = ls.length → bad top 0 hs = none → ∀ H' t u, Same H H' → SqT K H' t (ls.map V.int) → SqT K H' u (hs.map V.int) → Q .non (upd H' x (.ins (c_Bounds K) dx [("lows", .ref t), ("highs", .ref u)])))
theorem ok_Bounds_init (T : Tx K mg) : Ok PG w K mg base (L2.CX PG w) 4 (a_Bounds_init K) p_Bounds_init (spBInit K) := by
  refine Ok.of 3 T.f_Bounds_init sc_Bounds_init bi_Bounds_init (by decide) (fun vs H Q E h => ?_) (fun cdv A outer s H vs Q E hr h => ?_)
  · obtain ⟨_, _, _, _, _, _, rfl, _⟩ := h
    rfl
  · obtain ⟨x, a, b, dx, ls, hs, rfl, hx, ha, hb, er, q⟩ := h
    have nd := sc_Bounds_init.nd
    obtain ⟨_, cv_MOST_PEOPLE⟩ := T.v_MOST_PEOPLE
    obtain ⟨_, cv_LIMIT⟩ := T.v_LIMIT
    refine ⟨_, pss_cons (ps_expr (pc (ok_check_count T) (hr.mono (by decide)) T.g_check_count px (pa_cons (pe_callB call_len_seq (by rfl) T.m_len PySem.boot_len (pa_cons (pv 1) pa_nil)) (pa_cons (pe_glob (v := .int 30) rfl cv_MOST_PEOPLE ⟨_, rfl⟩) pa_nil))))
      (pss_cons (ps_expr (pc (ok_check_numbers T) hr T.g_check_numbers px (pa_cons (pv 1) (pa_cons (pe_glob (v := .int top) rfl cv_LIMIT ⟨_, rfl⟩) pa_nil))))
      (pss_cons (ps_if (pt_cmpR op_ne (pe_callB call_len_seq (by rfl) T.m_len PySem.boot_len (pa_cons (pv 2) pa_nil)) (pe_callB call_len_seq (by rfl) T.m_len PySem.boot_len (pa_cons (pv 1) pa_nil)) (nomark _)) (pss_one (ps_raiseX rfl T.e_WrongLength (by decide) (by decide) hr (takes_of rfl rfl rfl rfl) rfl (pa_cons (pe_callB call_len_seq (by rfl) T.m_len PySem.boot_len (pa_cons (pv 2) pa_nil)) (pa_cons (pe_callB call_len_seq (by rfl) T.m_len PySem.boot_len (pa_cons (pv 1) pa_nil)) pa_nil)))) pss_nil)
      (pss_cons (ps_expr (pc (ok_check_numbers T) hr T.g_check_numbers px (pa_cons (pv 2) (pa_cons (pe_glob (v := .int top) rfl cv_LIMIT ⟨_, rfl⟩) pa_nil))))
      (pss_cons (ps_fld (pv 0) (pe_callTy call_tuple_of (by rfl) T.m_tuple (by decide +kernel) (pa_cons (pv 1) pa_nil)) rfl)
      (pss_one (ps_fld (pv 0) (pe_callTy call_tuple_of (by rfl) T.m_tuple (by decide +kernel) (pa_cons (pv 2) pa_nil)) rfl)))))), ?_⟩
    refine ⟨_, rfl, a, _, rfl, ha, _, _, rfl, fun c => ?_, fun c => ?_⟩
    · have := er.long (by rw [List.length_map] at c; omega)
      rw [List.length_map]
      exact this
    have hl : ls.length ≤ 30 := by rw [List.length_map] at c; omega
    refine ⟨_, rfl, a, ls, top, rfl, ha, fun i n e => er.badL hl i n e, fun eb H1 s1 => ?_⟩
    have ha1 := s1.seqA ha
    have hb1 := s1.seqA hb
    have hx1 := s1 _ _ hx
    refine ⟨_, rfl, b, _, rfl, hb1, _, rfl, a, _, rfl, ha1, ?_⟩
    rw [List.length_map, List.length_map]
    refine ⟨rfl, _, rfl, ite2 (fun cw => ?_) (fun cw => ?_)⟩
    · have cw : hs.length ≠ ls.length := fun z => by simp [z] at cw
      refine ⟨_, rfl, b, _, rfl, hb1, _, rfl, a, _, rfl, ha1, ?_⟩
      rw [List.length_map, List.length_map]
      exact ⟨rfl, fun d hd => (er.wl hl eb cw).same s1 _ _ (.refl _) hd⟩
    have cw : hs.length = ls.length := by
      have : ((hs.length : Nat) : Int) = (ls.length : Nat) := by simpa using cw
      omega
    refine ⟨_, rfl, b, hs, top, rfl, hb1, fun i n e => (er.badH hl eb cw i n e).same s1, fun ec H2 s2 => ?_⟩
    have ha2 := s2.seqA ha1
    have hb2 := s2.seqA hb1
    have hx2 := s2 _ _ hx1
    have s12 := s1.trans s2
    have fin := q hl eb cw ec
    rcases ha2 with ha' | ha'
    · refine ⟨_, rfl, a, _, rfl, .inl ⟨ha', fun t htn => ?_⟩⟩
      have sG := s12.new' (o := .tup (ls.map V.int)) htn
      have hxG := (Same.new (o := .tup (ls.map V.int)) htn) _ _ hx2
      have hbG := (Same.new (o := .tup (ls.map V.int)) htn).seqA hb2
      have ht : SqT K (upd H2 t (.tup (ls.map V.int))) t (ls.map V.int) := SqT.of upd_same
      generalize upd H2 t (.tup (ls.map V.int)) = G at sG hxG hbG ht ⊢
      refine ⟨_, rfl, x, c_Bounds K, dx, _, rfl, hxG, T.cBounds, T.nBounds_lows, by decide, ?_⟩
      have hxb : upd G x (.ins (c_Bounds K) dx [("lows", .ref t)]) x = some (.ins (c_Bounds K) dx [("lows", .ref t)]) := upd_same
      rcases hbG with hb' | hb'
      · refine ⟨_, rfl, b, _, rfl, .inl ⟨sqL_ins hb' hxG, fun l hl => ?_⟩⟩
        have lx : l ≠ x := fun z => by rw [z, upd_same] at hl; cases hl
        have hl0 : G l = none := by rw [upd_ne lx] at hl; exact hl
        have hx3 : upd (upd G x (.ins (c_Bounds K) dx [("lows", .ref t)])) l (.tup (hs.map V.int)) x = some (.ins (c_Bounds K) dx [("lows", .ref t)]) := by rw [upd_ne (Ne.symm lx)]; exact hxb
        refine ⟨_, rfl, x, c_Bounds K, dx, _, rfl, hx3, T.cBounds, T.nBounds_highs, (by show 1 < 1000; decide), ?_⟩
        rw [upd_over lx]
        exact fin (upd G l (.tup (hs.map V.int))) t l (sG.new' hl0) ((Same.new hl0).seqT ht) (SqT.of upd_same)
      · refine ⟨_, rfl, b, _, rfl, .inr ⟨sqT_ins hb' hxG, ?_⟩⟩
        refine ⟨_, rfl, x, c_Bounds K, dx, _, rfl, hxb, T.cBounds, T.nBounds_highs, (by show 1 < 1000; decide), ?_⟩
        rw [upd_upd]
        exact fin G t b sG ht hb'
    · refine ⟨_, rfl, a, _, rfl, .inr ⟨ha', ?_⟩⟩
      have sG := s12
      have hxG := hx2
      have hbG := hb2
      have ht := ha'
      generalize H2 = G at sG hxG hbG ht ⊢
      generalize a = t at ht ⊢
      refine ⟨_, rfl, x, c_Bounds K, dx, _, rfl, hxG, T.cBounds, T.nBounds_lows, by decide, ?_⟩
      have hxb : upd G x (.ins (c_Bounds K) dx [("lows", .ref t)]) x = some (.ins (c_Bounds K) dx [("lows", .ref t)]) := upd_same
      rcases hbG with hb' | hb'
      · refine ⟨_, rfl, b, _, rfl, .inl ⟨sqL_ins hb' hxG, fun l hl => ?_⟩⟩
        have lx : l ≠ x := fun z => by rw [z, upd_same] at hl; cases hl
        have hl0 : G l = none := by rw [upd_ne lx] at hl; exact hl
        have hx3 : upd (upd G x (.ins (c_Bounds K) dx [("lows", .ref t)])) l (.tup (hs.map V.int)) x = some (.ins (c_Bounds K) dx [("lows", .ref t)]) := by rw [upd_ne (Ne.symm lx)]; exact hxb
        refine ⟨_, rfl, x, c_Bounds K, dx, _, rfl, hx3, T.cBounds, T.nBounds_highs, (by show 1 < 1000; decide), ?_⟩
        rw [upd_over lx]
        exact fin (upd G l (.tup (hs.map V.int))) t l (sG.new' hl0) ((Same.new hl0).seqT ht) (SqT.of upd_same)
      · refine ⟨_, rfl, b, _, rfl, .inr ⟨sqT_ins hb' hxG, ?_⟩⟩
        refine ⟨_, rfl, x, c_Bounds K, dx, _, rfl, hxb, T.cBounds, T.nBounds_highs, (by show 1 < 1000; decide), ?_⟩
        rw [upd_upd]
        exact fin G t b sG ht hb'
theorem mk_box {H : Hp} {a b : Addr} {ls hs : List Int} {Q : VK} {E : XK} (ha : SqA K H a (ls.map V.int)) (hb : SqA K H b (hs.map V.int)) (er : BErr K ls hs H E) (q : ls.length ≤ 30 → bad top 0 ls = none → hs.length = ls.length → bad top 0 hs = none → ∀ H' x, Same H H' → IsB K H' x ls hs → Q (.ref x) H') : ∀ x dx, H x = none → H dx = none → dx ≠ x →
    spBInit K ([.ref x, .ref a, .ref b]) (upd (upd H dx (.own x)) x (.ins (c_Bounds K) dx [])) (fun v H2 => v = .non ∧ Q (.ref x) H2) E := by
  intro x dx hx hdx hne
  have s1 : Same H (upd (upd H dx (.own x)) x (.ins (c_Bounds K) dx [])) := (Same.new hdx).new' (by rw [upd_ne (Ne.symm hne)]; exact hx)
  refine ⟨x, a, b, dx, ls, hs, rfl, upd_same, s1.seqA ha, s1.seqA hb, er.same s1, fun l b1 c b2 H' t u s2 ht hu => ⟨rfl, ?_⟩⟩
  have hx' : H' x = some (.ins (c_Bounds K) dx []) := s2 _ _ upd_same
  have ms : Same H (upd H' x (.ins (c_Bounds K) dx [("lows", .ref t), ("highs", .ref u)])) := fun b o q => by
    have : b ≠ x := fun z => by rw [z, hx] at q; cases q
    rw [upd_ne this]
    exact s2 _ _ (s1 _ _ q)
  exact q l b1 c b2 _ x ms ⟨dx, t, u, upd_same, sqT_ins ht hx', sqT_ins hu hx', l, c, b1, b2⟩
def spBLen (K : PySem.W.Frag) : Sp := fun vs H Q _ => ∃ (p : Addr) (ls hs : List Int), vs = [.ref p] ∧ IsB K H p ls hs ∧ Q (.int ls.length) H
theorem ok_Bounds_len (T : Tx K mg) : Ok PG w K mg base CX0 2 (a_Bounds_len K) p_Bounds_len (spBLen K) := by
  refine Ok.of 1 T.f_Bounds_len sc_Bounds_len bi_Bounds_len (by decide) (fun vs H Q E h => ?_) (fun cdv A outer s H vs Q E hr h => ?_)
  · obtain ⟨_, _, _, rfl, _⟩ := h
    rfl
  · obtain ⟨p, ls, hs, rfl, ⟨dx, t, u, h1, h2, h3, _⟩, q⟩ := h
    refine ⟨_, pss_one (ps_ret (pe_callB call_len_seq (by rfl) T.m_len PySem.boot_len (pa_cons (pe_fld (pv 0) rfl) pa_nil))), ?_⟩
    refine ⟨_, rfl, p, _, dx, _, _, rfl, h1, T.cBounds, T.nBounds_lows, rfl, t, _, rfl, .inr h2, ?_⟩
    rw [List.length_map]
    exact q
def spBAlike (K : PySem.W.Frag) : Sp := fun vs H Q E => ∃ (p o : Addr) (ls hs ms ns : List Int), vs = [.ref p, .ref o] ∧ IsB K H p ls hs ∧ IsB K H o ms ns ∧ (ms.length ≠ ls.length → Rs (c_WrongLength K) (xL ms.length ls.length) H E) ∧ (ms.length = ls.length → Q .non H)
theorem ok_Bounds_check_alike (T : Tx K mg) : Ok PG w K mg base (L2.CX PG w) 4 (a_Bounds_check_alike K) p_Bounds_check_alike (spBAlike K) := by
  refine Ok.of 3 T.f_Bounds_check_alike sc_Bounds_check_alike bi_Bounds_check_alike (by decide) (fun vs H Q E h => ?_) (fun cdv A outer s H vs Q E hr h => ?_)
  · obtain ⟨_, _, _, _, _, _, rfl, _⟩ := h
    rfl
  · obtain ⟨p, o, ls, hs, ms, ns, rfl, hp, ho, e1, q⟩ := h
    obtain ⟨dx, t, u, h1, h2, h3, l1, _⟩ := id hp
    obtain ⟨dy, t', u', k1, k2, k3, l2, _⟩ := id ho
    refine ⟨_, pss_one (ps_if (pt_cmpR op_ne (pe_callB (cLen (ok_Bounds_len T) T.wBounds_len hr pass0) (by rfl) T.m_len PySem.boot_len (pa_cons (pv 1) pa_nil)) (pe_callB call_len_seq (by rfl) T.m_len PySem.boot_len (pa_cons (pe_fld (pv 0) rfl) pa_nil)) (nomark _)) (pss_one (ps_raiseX rfl T.e_WrongLength (by decide) (by decide) hr (takes_of rfl rfl rfl rfl) rfl (pa_cons (pe_callB (cLen (ok_Bounds_len T) T.wBounds_len hr pass0) (by rfl) T.m_len PySem.boot_len (pa_cons (pv 1) pa_nil)) (pa_cons (pe_callB call_len_seq (by rfl) T.m_len PySem.boot_len (pa_cons (pe_fld (pv 0) rfl) pa_nil)) pa_nil)))) pss_nil), ?_⟩
    refine ⟨_, rfl, o, dy, _, rfl, k1, o, ms, ns, rfl, ho, ms.length, rfl, by omega, _, rfl, p, _, dx, _, _, rfl, h1, T.cBounds, T.nBounds_lows, rfl, t, _, rfl, .inr h2, ?_⟩
    rw [List.length_map]
    refine ⟨rfl, _, rfl, ite2 (fun c => ?_) (fun c => ?_)⟩
    · have c : ms.length ≠ ls.length := fun z => by simp [z] at c
      refine ⟨_, rfl, o, dy, _, rfl, k1, o, ms, ns, rfl, ho, ms.length, rfl, by omega, _, rfl, p, _, dx, _, _, rfl, h1, T.cBounds, T.nBounds_lows, rfl, t, _, rfl, .inr h2, ?_⟩
      rw [List.length_map]
      exact ⟨rfl, fun d hd => (e1 c).now d hd⟩
    · have c : ms.length = ls.length := by
        have : ((ms.length : Nat) : Int) = (ls.length : Nat) := by simpa using c
        omega
      exact q c
def spCrossed (K : PySem.W.Frag) : Sp := fun vs H Q _ => ∃ (p : Addr) (ls hs : List Int), vs = [.ref p] ∧ IsB K H p ls hs ∧ ∀ H' l, Same H H' → H l = none → H' l = some (.lst (((List.range ls.length).filter fun i => decide (ls.getD i 0 > hs.getD i 0)).map fun i => V.int ((i : Nat) : Int))) → Q (.ref l) H'
theorem crossed_step {ls hs : List Int} {i : Nat} : ((List.range (i + 1)).filter fun i => decide (ls.getD i 0 > hs.getD i 0)) = if ls.getD i 0 > hs.getD i 0 then ((List.range i).filter fun i => decide (ls.getD i 0 > hs.getD i 0)) ++ [i] else (List.range i).filter fun i => decide (ls.getD i 0 > hs.getD i 0) := by
  rw [List.range_succ, List.filter_append]
  split
  · rename_i c; rw [List.filter_cons_of_pos (by simpa using c)]; rfl
  · rename_i c; rw [List.filter_cons_of_neg (by simpa using c)]; simp
theorem crossed_len {ls hs : List Int} {i : Nat} : ((List.range i).filter fun i => decide (ls.getD i 0 > hs.getD i 0)).length ≤ i := by
  have := List.length_filter_le (fun i => decide (ls.getD i 0 > hs.getD i 0)) (List.range i)
  rwa [List.length_range] at this
theorem ok_Bounds_crossed (T : Tx K mg) : Ok PG w K mg base CX0 2 (a_Bounds_crossed K) p_Bounds_crossed (spCrossed K) := by
  refine Ok.of 1 T.f_Bounds_crossed sc_Bounds_crossed bi_Bounds_crossed (by decide) (fun vs H Q E h => ?_) (fun cdv A outer s H vs Q E hr h => ?_)
  · obtain ⟨_, _, _, rfl, _⟩ := h
    rfl
  · obtain ⟨p, ls, hs, rfl, ⟨dx, t, u, h1, h2, h3, l1, l2, _⟩, q⟩ := h
    have nd := sc_Bounds_crossed.nd
    refine ⟨_, pss_one (ps_ret (pe_lc (own := [("person", 1), ("low", 2)]) (g := gTup K 2 (gCons (gName 1) (gCons (gName 2) gNil))) rfl nd (pi_enumW (by rfl) T.m_enumerate (pa_cons (pe_fld (pv 0) rfl) pa_nil)) (blkOk_by (N := n_Bounds_crossed) (sc := defScope s_Bounds_crossed) (by decide +kernel)) (fun _ _ _ _ _ => pg_tup rfl (pgs_cons (pg_name (i := 1) nd rfl (Or.inl rfl)) (pgs_cons (pg_name (i := 2) nd rfl (Or.inl rfl)) pgs_nil))) (fun _ _ _ _ _ => pts_one (pt_cmpR op_gt (pv 2) (pe_ix (r := rIxT K) (ta := tFld K (tVar 0) "highs") (tb := tVar 1) ix_tup (pe_fld (pv 0) rfl) (pv 1) (fun _ _ => rfl)) (nomark _))) (fun _ _ _ _ _ => pv 1))), ?_⟩
    refine ⟨_, rfl, p, _, dx, _, _, rfl, h1, T.cBounds, T.nBounds_lows, rfl, t, ls.map V.int, rfl, .inr h2, fun J G hG wk D hD => ?_⟩
    refine lc_it wk (fun i H' => Same H H' ∧ H' D = some (.lst (((List.range i).filter fun i => decide (ls.getD i 0 > hs.getD i 0)).map fun i => V.int ((i : Nat) : Int)))) ⟨.new hD, upd_same⟩ (fun i H' _ z => hG _ z.1) (fun i x H0 H1 hi z y => ?_) (fun H' z => ?_)
    · obtain ⟨sm, hd⟩ := z
      obtain ⟨T', x', y', rfl, hT, rfl, e1, e2⟩ := y
      obtain ⟨n, hn, rfl⟩ := map_get e2
      cases e1
      have hi : i < ls.length := (List.getElem?_eq_some_iff.mp hn).1
      have sm' : Same H (upd H0 T' (.tup [.int (i : Nat), .int n])) := sm.new' hT
      have hd' := (Same.new (o := .tup [.int (i : Nat), .int n]) hT) _ _ hd
      have vn : ls.getD i 0 = n := by rw [List.getD_eq_getElem?_getD, hn]; rfl
      subst vn
      have vh : (hs.map V.int)[i]? = some (V.int (hs.getD i 0)) := by rw [List.getElem?_map, List.getD_eq_getElem?_getD, List.getElem?_eq_getElem (by omega)]; rfl
      refine ⟨T', _, rfl, SqT.of upd_same, rfl, _, _, rfl, _, _, rfl, rfl, rfl, ?_⟩
      refine ⟨_, rfl, _, rfl, p, _, dx, _, _, rfl, sm' _ _ h1, T.cBounds, T.nBounds_highs, rfl, _, rfl, u, _, _, _, rfl, rfl, sm'.seqT h3, atI_nat vh, _, _, rfl, rfl, _, rfl, ?_⟩
      rw [crossed_step]
      refine ite2 (fun c => ?_) (fun c => ?_)
      · have c := of_decide_eq_true c
        rw [if_pos c]
        refine ⟨_, rfl, _, hd', by rw [List.length_map, sizeLine_eq]; have := @crossed_len ls hs i; omega, fun b o eb => ?_, ?_⟩
        · rw [upd_ne (fun z => by rw [z, hD] at eb; cases eb)]
          exact sm' _ _ eb
        · rw [upd_same, List.map_append]; rfl
      · rw [if_neg (fun y => c (decide_eq_true y))]
        exact ⟨sm', hd'⟩
    · obtain ⟨sm, hd⟩ := z
      rw [List.length_map] at hd
      exact q H' D sm hD hd
end
end K24

set_option maxRecDepth 100000
set_option maxHeartbeats 8000000
namespace K24
open PySem PySem.Spec PyProof.Rows L2
theorem zip_two {xs ys : List Int} {i : Nat} {x y : V} (h1 : (xs.map V.int)[i]? = some x) (h2 : (ys.map V.int)[i]? = some y) : ∃ n m, x = .int n ∧ y = .int m ∧ xs[i]? = some n ∧ ys[i]? = some m := by
  obtain ⟨n, a, rfl⟩ := map_get h1
  obtain ⟨m, b, rfl⟩ := map_get h2
  exact ⟨n, m, rfl, rfl, a, b⟩
/-- the greater, the lesser of two -/
def mx (i j : Int) : Int := if j > i then j else i
def mn (i j : Int) : Int := if j < i then j else i
theorem bad_zip {f : Int → Int → Int} (hf : ∀ x y, f x y = x ∨ f x y = y) {xs ys : List Int} (h1 : bad top 0 xs = none) (h2 : bad top 0 ys = none) : bad top 0 (List.zipWith f xs ys) = none := by
  rw [bad_none] at h1 h2 ⊢
  intro n hn
  obtain ⟨i, hi, rfl⟩ := List.getElem_of_mem hn
  rw [List.getElem_zipWith]
  have l := hi
  rw [List.length_zipWith] at l
  rcases hf (xs[i]'(by omega)) (ys[i]'(by omega)) with e | e <;> rw [e]
  · exact h1 _ (List.getElem_mem _)
  · exact h2 _ (List.getElem_mem _)
theorem mx_or (x y : Int) : mx x y = x ∨ mx x y = y := by unfold mx; split <;> simp
theorem mn_or (x y : Int) : mn x y = x ∨ mn x y = y := by unfold mn; split <;> simp
section
variable {w : World} {K : PySem.W.Frag} {mg : Str → Option Value} {base : Heap}
def spAnd (K : PySem.W.Frag) : Sp := fun vs H Q E => ∃ (p o : Addr) (ls hs ms ns : List Int), vs = [.ref p, .ref o] ∧ IsB K H p ls hs ∧ IsB K H o ms ns ∧ (ms.length ≠ ls.length → Rs (c_WrongLength K) (xL ms.length ls.length) H E) ∧
  (ms.length = ls.length → ∀ H' r, Same H H' → IsB K H' r (List.zipWith mx ls ms) (List.zipWith mn hs ns) → Q (.ref r) H')
theorem ok_Bounds_and (T : Tx K mg) : Ok PG w K mg base (L2.CX PG w) 7 (a_Bounds_and K) p_Bounds_and (spAnd K) := by
  refine Ok.of 6 T.f_Bounds_and sc_Bounds_and bi_Bounds_and (by decide) (fun vs H Q E h => ?_) (fun cdv A outer s H vs Q E hr h => ?_)
  · obtain ⟨_, _, _, _, _, _, rfl, _⟩ := h
    rfl
  · obtain ⟨p, o, ls, hs, ms, ns, rfl, hp, ho, e1, q⟩ := h
    obtain ⟨dx, t, u, p1, p2, p3, l1, l2, b1, b2⟩ := id hp
    obtain ⟨dy, t', u', o1, o2, o3, l3, l4, b3, b4⟩ := id ho
    have nd := sc_Bounds_and.nd
    refine ⟨_, pss_cons (ps_expr (pmeth (ok_Bounds_check_alike T) (pv 0) T.cBounds T.wBounds_check_alike (hr.mono (by decide)) px (pa_cons (pv 1) pa_nil)))
      (pss_one (ps_ret (pmk (ok_Bounds_init T) T.kBounds (hr.mono (by decide)) T.gBounds px (pa_cons (pe_lc (own := [("one", 2), ("two", 3)]) (g := gTup K 2 (gCons (gName 2) (gCons (gName 3) gNil))) (tt := tYes) rfl nd (pi_zipT T.m_zip (pa_cons (pe_fld (pv 0) rfl) (pa_cons (pe_fld (pv 1) rfl) pa_nil))) (blkOk_by (N := n_Bounds_and) (sc := defScope s_Bounds_and) (by decide +kernel)) (fun _ _ _ _ _ => pg_tup rfl (pgs_cons (pg_name (i := 2) nd rfl (Or.inl rfl)) (pgs_cons (pg_name (i := 3) nd rfl (Or.inl rfl)) pgs_nil))) (fun _ _ _ _ _ => pts_nil) (fun _ _ _ _ _ => pe_callB (call_max2 rfl) (by rfl) T.m_max (by decide +kernel) (pa_cons (pv 2) (pa_cons (pv 3) pa_nil)))) (pa_cons (pe_lc (own := [("one", 2), ("two", 3)]) (g := gTup K 2 (gCons (gName 2) (gCons (gName 3) gNil))) (tt := tYes) rfl nd (pi_zipT T.m_zip (pa_cons (pe_fld (pv 0) rfl) (pa_cons (pe_fld (pv 1) rfl) pa_nil))) (blkOk_by (N := n_Bounds_and) (sc := defScope s_Bounds_and) (by decide +kernel)) (fun _ _ _ _ _ => pg_tup rfl (pgs_cons (pg_name (i := 2) nd rfl (Or.inl rfl)) (pgs_cons (pg_name (i := 3) nd rfl (Or.inl rfl)) pgs_nil))) (fun _ _ _ _ _ => pts_nil) (fun _ _ _ _ _ => pe_callB (call_min2 rfl) (by rfl) T.m_min (by decide +kernel) (pa_cons (pv 2) (pa_cons (pv 3) pa_nil)))) pa_nil))))), ?_⟩
    refine ⟨_, rfl, p, dx, _, rfl, p1, rfl, _, rfl, p, o, ls, hs, ms, ns, rfl, hp, ho, e1, fun el => ?_⟩
    refine ⟨_, rfl, p, _, dx, _, _, rfl, (Same.refl H) _ _ p1, T.cBounds, T.nBounds_lows, rfl, _, rfl, o, _, dy, _, _, rfl, (Same.refl H) _ _ o1, T.cBounds, T.nBounds_lows, rfl, t, t', _, _, rfl, (Same.refl H).seqT p2, (Same.refl H).seqT o2, fun D hD => ?_⟩
    refine lc_it (walk_zipT (xs := ls.map V.int) (ys := ms.map V.int)) (fun i H' => Same H H' ∧ H' D = some (.lst (((List.zipWith mx ls ms).take i).map V.int))) ⟨.new hD, upd_same⟩ (fun i H' _ z => ⟨((Same.refl H).trans z.1).seqT p2, ((Same.refl H).trans z.1).seqT o2⟩) (fun i x H' H2 hi z y => ?_) (fun G z => ?_)
    · obtain ⟨sm, hl⟩ := z
      obtain ⟨T', x', y', rfl, hT, rfl, e1, e2⟩ := y
      obtain ⟨n, m', rfl, rfl, f1, f2⟩ := zip_two e1 e2
      have sT := Same.new (o := .tup [V.int n, .int m']) hT
      refine ⟨T', _, rfl, SqT.of upd_same, rfl, _, _, rfl, _, _, rfl, rfl, rfl, yesT ⟨_, rfl, _, rfl, _, _, rfl, _, sT _ _ hl, ?_, fun b u eb => ?_, ?_⟩⟩
      · rw [List.length_map, List.length_take, sizeLine_eq]
        rw [List.length_map, List.length_map] at hi
        omega
      · rw [upd_ne (fun z => by rw [z, hD] at eb; cases eb)]
        exact sT _ _ (sm _ _ eb)
      · rw [upd_same, List.take_succ, List.getElem?_zipWith, f1, f2, List.map_append]
        rfl
    obtain ⟨s1, hD1⟩ := z
    rw [List.take_of_length_le (by rw [List.length_zipWith, List.length_map, List.length_map]; exact Nat.le_refl _)] at hD1
    refine ⟨_, rfl, p, _, dx, _, _, rfl, s1 _ _ p1, T.cBounds, T.nBounds_highs, rfl, _, rfl, o, _, dy, _, _, rfl, s1 _ _ o1, T.cBounds, T.nBounds_highs, rfl, u, u', _, _, rfl, s1.seqT p3, s1.seqT o3, fun F hF => ?_⟩
    refine lc_it (walk_zipT (xs := hs.map V.int) (ys := ns.map V.int)) (fun i H' => Same G H' ∧ H' F = some (.lst (((List.zipWith mn hs ns).take i).map V.int))) ⟨.new hF, upd_same⟩ (fun i H' _ z => ⟨(s1.trans z.1).seqT p3, (s1.trans z.1).seqT o3⟩) (fun i x H' H2 hi z y => ?_) (fun G2 z => ?_)
    · obtain ⟨sm, hl⟩ := z
      obtain ⟨T', x', y', rfl, hT, rfl, e1, e2⟩ := y
      obtain ⟨n, m', rfl, rfl, f1, f2⟩ := zip_two e1 e2
      have sT := Same.new (o := .tup [V.int n, .int m']) hT
      refine ⟨T', _, rfl, SqT.of upd_same, rfl, _, _, rfl, _, _, rfl, rfl, rfl, yesT ⟨_, rfl, _, rfl, _, _, rfl, _, sT _ _ hl, ?_, fun b u eb => ?_, ?_⟩⟩
      · rw [List.length_map, List.length_take, sizeLine_eq]
        rw [List.length_map, List.length_map] at hi
        omega
      · rw [upd_ne (fun z => by rw [z, hF] at eb; cases eb)]
        exact sT _ _ (sm _ _ eb)
      · rw [upd_same, List.take_succ, List.getElem?_zipWith, f1, f2, List.map_append]
        rfl
    obtain ⟨s2, hF2⟩ := z
    rw [List.take_of_length_le (by rw [List.length_zipWith, List.length_map, List.length_map]; exact Nat.le_refl _)] at hF2
    have k1 : (List.zipWith mx ls ms).length ≤ 30 := by rw [List.length_zipWith]; omega
    have k2 : (List.zipWith mn hs ns).length = (List.zipWith mx ls ms).length := by rw [List.length_zipWith, List.length_zipWith]; omega
    have k3 := bad_zip mx_or b1 b3
    have k4 := bad_zip mn_or b2 b4
    exact mk_box (.inl (SqL.of (s2 _ _ hD1))) (.inl (SqL.of hF2)) (BErr.no k1 k3 k2 k4) fun _ _ _ _ H' x sm hx => q el H' x ((s1.trans s2).trans sm) hx
def spOr (K : PySem.W.Frag) : Sp := fun vs H Q E => ∃ (p o : Addr) (ls hs ms ns : List Int), vs = [.ref p, .ref o] ∧ IsB K H p ls hs ∧ IsB K H o ms ns ∧ (ms.length ≠ ls.length → Rs (c_WrongLength K) (xL ms.length ls.length) H E) ∧
  (ms.length = ls.length → ∀ H' r, Same H H' → IsB K H' r (List.zipWith mn ls ms) (List.zipWith mx hs ns) → Q (.ref r) H')
theorem ok_Bounds_or (T : Tx K mg) : Ok PG w K mg base (L2.CX PG w) 7 (a_Bounds_or K) p_Bounds_or (spOr K) := by
  refine Ok.of 6 T.f_Bounds_or sc_Bounds_or bi_Bounds_or (by decide) (fun vs H Q E h => ?_) (fun cdv A outer s H vs Q E hr h => ?_)
  · obtain ⟨_, _, _, _, _, _, rfl, _⟩ := h
    rfl
  · obtain ⟨p, o, ls, hs, ms, ns, rfl, hp, ho, e1, q⟩ := h
    obtain ⟨dx, t, u, p1, p2, p3, l1, l2, b1, b2⟩ := id hp
    obtain ⟨dy, t', u', o1, o2, o3, l3, l4, b3, b4⟩ := id ho
    have nd := sc_Bounds_or.nd
    refine ⟨_, pss_cons (ps_expr (pmeth (ok_Bounds_check_alike T) (pv 0) T.cBounds T.wBounds_check_alike (hr.mono (by decide)) px (pa_cons (pv 1) pa_nil)))
      (pss_one (ps_ret (pmk (ok_Bounds_init T) T.kBounds (hr.mono (by decide)) T.gBounds px (pa_cons (pe_lc (own := [("one", 2), ("two", 3)]) (g := gTup K 2 (gCons (gName 2) (gCons (gName 3) gNil))) (tt := tYes) rfl nd (pi_zipT T.m_zip (pa_cons (pe_fld (pv 0) rfl) (pa_cons (pe_fld (pv 1) rfl) pa_nil))) (blkOk_by (N := n_Bounds_or) (sc := defScope s_Bounds_or) (by decide +kernel)) (fun _ _ _ _ _ => pg_tup rfl (pgs_cons (pg_name (i := 2) nd rfl (Or.inl rfl)) (pgs_cons (pg_name (i := 3) nd rfl (Or.inl rfl)) pgs_nil))) (fun _ _ _ _ _ => pts_nil) (fun _ _ _ _ _ => pe_callB (call_min2 rfl) (by rfl) T.m_min (by decide +kernel) (pa_cons (pv 2) (pa_cons (pv 3) pa_nil)))) (pa_cons (pe_lc (own := [("one", 2), ("two", 3)]) (g := gTup K 2 (gCons (gName 2) (gCons (gName 3) gNil))) (tt := tYes) rfl nd (pi_zipT T.m_zip (pa_cons (pe_fld (pv 0) rfl) (pa_cons (pe_fld (pv 1) rfl) pa_nil))) (blkOk_by (N := n_Bounds_or) (sc := defScope s_Bounds_or) (by decide +kernel)) (fun _ _ _ _ _ => pg_tup rfl (pgs_cons (pg_name (i := 2) nd rfl (Or.inl rfl)) (pgs_cons (pg_name (i := 3) nd rfl (Or.inl rfl)) pgs_nil))) (fun _ _ _ _ _ => pts_nil) (fun _ _ _ _ _ => pe_callB (call_max2 rfl) (by rfl) T.m_max (by decide +kernel) (pa_cons (pv 2) (pa_cons (pv 3) pa_nil)))) pa_nil))))), ?_⟩
    refine ⟨_, rfl, p, dx, _, rfl, p1, rfl, _, rfl, p, o, ls, hs, ms, ns, rfl, hp, ho, e1, fun el => ?_⟩
    refine ⟨_, rfl, p, _, dx, _, _, rfl, (Same.refl H) _ _ p1, T.cBounds, T.nBounds_lows, rfl, _, rfl, o, _, dy, _, _, rfl, (Same.refl H) _ _ o1, T.cBounds, T.nBounds_lows, rfl, t, t', _, _, rfl, (Same.refl H).seqT p2, (Same.refl H).seqT o2, fun D hD => ?_⟩
    refine lc_it (walk_zipT (xs := ls.map V.int) (ys := ms.map V.int)) (fun i H' => Same H H' ∧ H' D = some (.lst (((List.zipWith mn ls ms).take i).map V.int))) ⟨.new hD, upd_same⟩ (fun i H' _ z => ⟨((Same.refl H).trans z.1).seqT p2, ((Same.refl H).trans z.1).seqT o2⟩) (fun i x H' H2 hi z y => ?_) (fun G z => ?_)
    · obtain ⟨sm, hl⟩ := z
      obtain ⟨T', x', y', rfl, hT, rfl, e1, e2⟩ := y
      obtain ⟨n, m', rfl, rfl, f1, f2⟩ := zip_two e1 e2
      have sT := Same.new (o := .tup [V.int n, .int m']) hT
      refine ⟨T', _, rfl, SqT.of upd_same, rfl, _, _, rfl, _, _, rfl, rfl, rfl, yesT ⟨_, rfl, _, rfl, _, _, rfl, _, sT _ _ hl, ?_, fun b u eb => ?_, ?_⟩⟩
      · rw [List.length_map, List.length_take, sizeLine_eq]
        rw [List.length_map, List.length_map] at hi
        omega
      · rw [upd_ne (fun z => by rw [z, hD] at eb; cases eb)]
        exact sT _ _ (sm _ _ eb)
      · rw [upd_same, List.take_succ, List.getElem?_zipWith, f1, f2, List.map_append]
        rfl
    obtain ⟨s1, hD1⟩ := z
    rw [List.take_of_length_le (by rw [List.length_zipWith, List.length_map, List.length_map]; exact Nat.le_refl _)] at hD1
    refine ⟨_, rfl, p, _, dx, _, _, rfl, s1 _ _ p1, T.cBounds, T.nBounds_highs, rfl, _, rfl, o, _, dy, _, _, rfl, s1 _ _ o1, T.cBounds, T.nBounds_highs, rfl, u, u', _, _, rfl, s1.seqT p3, s1.seqT o3, fun F hF => ?_⟩
    refine lc_it (walk_zipT (xs := hs.map V.int) (ys := ns.map V.int)) (fun i H' => Same G H' ∧ H' F = some (.lst (((List.zipWith mx hs ns).take i).map V.int))) ⟨.new hF, upd_same⟩ (fun i H' _ z => ⟨(s1.trans z.1).seqT p3, (s1.trans z.1).seqT o3⟩) (fun i x H' H2 hi z y => ?_) (fun G2 z => ?_)
    · obtain ⟨sm, hl⟩ := z
      obtain ⟨T', x', y', rfl, hT, rfl, e1, e2⟩ := y
      obtain ⟨n, m', rfl, rfl, f1, f2⟩ := zip_two e1 e2
      have sT := Same.new (o := .tup [V.int n, .int m']) hT
      refine ⟨T', _, rfl, SqT.of upd_same, rfl, _, _, rfl, _, _, rfl, rfl, rfl, yesT ⟨_, rfl, _, rfl, _, _, rfl, _, sT _ _ hl, ?_, fun b u eb => ?_, ?_⟩⟩
      · rw [List.length_map, List.length_take, sizeLine_eq]
        rw [List.length_map, List.length_map] at hi
        omega
      · rw [upd_ne (fun z => by rw [z, hF] at eb; cases eb)]
        exact sT _ _ (sm _ _ eb)
      · rw [upd_same, List.take_succ, List.getElem?_zipWith, f1, f2, List.map_append]
        rfl
    obtain ⟨s2, hF2⟩ := z
    rw [List.take_of_length_le (by rw [List.length_zipWith, List.length_map, List.length_map]; exact Nat.le_refl _)] at hF2
    have k1 : (List.zipWith mn ls ms).length ≤ 30 := by rw [List.length_zipWith]; omega
    have k2 : (List.zipWith mx hs ns).length = (List.zipWith mn ls ms).length := by rw [List.length_zipWith, List.length_zipWith]; omega
    have k3 := bad_zip mn_or b1 b3
    have k4 := bad_zip mx_or b2 b4
    exact mk_box (.inl (SqL.of (s2 _ _ hD1))) (.inl (SqL.of hF2)) (BErr.no k1 k3 k2 k4) fun _ _ _ _ H' x sm hx => q el H' x ((s1.trans s2).trans sm) hx
def spPinned (K : PySem.W.Frag) : Sp := fun vs H Q E => ∃ (p : Addr) (ls hs : List Int) (i lo hi : Int), vs = [.ref p, .int i, .int lo, .int hi] ∧ IsB K H p ls hs ∧ (¬ (0 ≤ i ∧ i < ls.length) → Rs (c_NoPerson K) (xP i) H E) ∧
  ((0 ≤ i ∧ i < ls.length) → (∀ k n, bad top 0 [lo, hi] = some (k, n) → Rs (c_BadNumber K) (xB (k : Nat) n) H E) ∧ (bad top 0 [lo, hi] = none → ∀ H' r, Same H H' → IsB K H' r (ls.set i.toNat lo) (hs.set i.toNat hi) → Q (.ref r) H'))
theorem bad_set {ns : List Int} {i : Nat} {v : Int} (h : bad top 0 ns = none) (hv : 0 ≤ v ∧ v ≤ top) : bad top 0 (ns.set i v) = none := by
  rw [bad_none] at h ⊢
  intro n hn
  rcases List.mem_or_eq_of_mem_set hn with hn | rfl
  · exact h n hn
  · exact hv
theorem ixN_nat {n j : Nat} (h : j < n) : ixN n (j : Int) = some j := by
  unfold ixN
  rw [if_pos (by omega), if_pos (by omega)]
  simp
theorem ok_Bounds_pinned (T : Tx K mg) : Ok PG w K mg base (L2.CX PG w) 6 (a_Bounds_pinned K) p_Bounds_pinned (spPinned K) := by
  refine Ok.of 5 T.f_Bounds_pinned sc_Bounds_pinned bi_Bounds_pinned (by decide) (fun vs H Q E h => ?_) (fun cdv A outer s H vs Q E hr h => ?_)
  · obtain ⟨_, _, _, _, _, _, rfl, _⟩ := h
    rfl
  · obtain ⟨p, ls, hs, i, lo, hi, rfl, hp, e1, e2⟩ := h
    obtain ⟨dx, t, u, p1, p2, p3, l1, l2, b1, b2⟩ := id hp
    have nd := sc_Bounds_pinned.nd
    obtain ⟨_, cv_LIMIT⟩ := T.v_LIMIT
    refine ⟨_, pss_cons (ps_if (pt_not (pt_chain op_le op_lt pe_int (pv 1) (pe_callB call_len_seq (by rfl) T.m_len PySem.boot_len (pa_cons (pe_fld (pv 0) rfl) pa_nil)))) (pss_one (ps_raiseX rfl T.e_NoPerson (by decide) (by decide) hr (takes_of rfl rfl rfl rfl) rfl (pa_cons (pv 1) pa_nil))) pss_nil)
      (pss_cons (ps_expr (pc (ok_check_numbers T) (hr.mono (by decide)) T.g_check_numbers px (pa_cons (pe_lst (pa_cons (pv 2) (pa_cons (pv 3) pa_nil))) (pa_cons (pe_glob (v := .int top) rfl cv_LIMIT ⟨_, rfl⟩) pa_nil))))
      (pss_cons (ps_set (i := 4) nd rfl (.inl rfl) (pe_callTy call_list_of (by rfl) T.m_list (by decide +kernel) (pa_cons (pe_fld (pv 0) rfl) pa_nil)))
      (pss_cons (ps_set (i := 5) nd rfl (.inl rfl) (pe_callTy call_list_of (by rfl) T.m_list (by decide +kernel) (pa_cons (pe_fld (pv 0) rfl) pa_nil)))
      (pss_cons (ps_asg (pv 2) (pg_sub (pv 4) (pv 1) set_list))
      (pss_cons (ps_asg (pv 3) (pg_sub (pv 5) (pv 1) set_list))
      (pss_one (ps_ret (pmk (ok_Bounds_init T) T.kBounds (hr.mono (by decide)) T.gBounds px (pa_cons (pv 4) (pa_cons (pv 5) pa_nil)))))))))), ?_⟩
    refine ⟨_, rfl, _, _, rfl, rfl, _, rfl, ite2 (fun c1 => ?_) (fun c1 => ?_)⟩
    · refine ⟨_, rfl, p, _, dx, _, _, rfl, p1, T.cBounds, T.nBounds_lows, rfl, t, _, rfl, .inr p2, _, _, rfl, rfl, _, rfl, ?_⟩
      rw [List.length_map]
      refine ite2 (fun c2 => ?_) (fun c2 => ?_)
      · exact ⟨_, rfl, rfl, fun z hz => (e1 (fun y => by simp [y.2] at c2)).now z hz⟩
      · have cc : 0 ≤ i ∧ i < ls.length := ⟨of_decide_eq_true c1, by simpa using c2⟩
        obtain ⟨e3, q⟩ := e2 cc
        obtain ⟨j, rfl⟩ : ∃ j : Nat, i = (j : Nat) := ⟨i.toNat, by omega⟩
        rw [Int.toNat_natCast] at q
        refine ⟨_, rfl, _, rfl, by show 2 ≤ sizeLine; decide, fun z hz => ?_⟩
        have s1 := Same.new (o := .lst [V.int lo, .int hi]) hz
        refine ⟨z, [lo, hi], top, rfl, .inl (SqL.of upd_same), fun k n e => (e3 k n e).same s1, fun eb H2 s2 => ?_⟩
        have s12 := s1.trans s2
        have bb := bad_none.1 eb
        refine ⟨_, rfl, p, _, dx, _, _, rfl, s12 _ _ p1, T.cBounds, T.nBounds_lows, rfl, t, _, rfl, .inr (s12.seqT p2), fun L hL => ?_⟩
        have s3 := s12.new' (o := .lst (ls.map V.int)) hL
        refine ⟨_, rfl, p, _, dx, _, _, rfl, s3 _ _ p1, T.cBounds, T.nBounds_highs, rfl, u, _, rfl, .inr (s3.seqT p3), fun M hM => ?_⟩
        have nML : M ≠ L := fun e => by rw [e, upd_same] at hM; cases hM
        have hL0 : H L = none := s12.free hL
        have hM0 : H M = none := s3.free hM
        have s4 := s3.new' (o := .lst (hs.map V.int)) hM
        have hL4 : upd (upd H2 L (.lst (ls.map V.int))) M (.lst (hs.map V.int)) L = some (.lst (ls.map V.int)) := Same.new hM _ _ upd_same
        have hM4 : upd (upd H2 L (.lst (ls.map V.int))) M (.lst (hs.map V.int)) M = some (.lst (hs.map V.int)) := upd_same
        generalize upd (upd H2 L (.lst (ls.map V.int))) M (.lst (hs.map V.int)) = G at s4 hL4 hM4 ⊢
        refine ⟨_, rfl, _, rfl, _, rfl, L, _, (j : Nat), j, rfl, rfl, hL4, ixN_nat (by rw [List.length_map]; omega), ?_⟩
        rw [← List.map_set]
        refine ⟨_, rfl, _, rfl, _, rfl, M, _, (j : Nat), j, rfl, rfl, by rw [upd_ne nML]; exact hM4, ixN_nat (by rw [List.length_map]; omega), ?_⟩
        rw [← List.map_set]
        have s5 : Same H (upd (upd G L (.lst ((ls.set j lo).map V.int))) M (.lst ((hs.set j hi).map V.int))) := fun b o eb => by
          rw [upd_ne (fun z => by rw [z, hM0] at eb; cases eb), upd_ne (fun z => by rw [z, hL0] at eb; cases eb)]
          exact s4 _ _ eb
        refine ⟨_, rfl, _, rfl, mk_box (.inl (SqL.of (by rw [upd_ne (Ne.symm nML), upd_same]))) (.inl (SqL.of upd_same)) (BErr.no (by rw [List.length_set]; exact l1) (bad_set b1 (bb lo (by simp))) (by rw [List.length_set, List.length_set]; exact l2) (bad_set b2 (bb hi (by simp)))) fun _ _ _ _ H' x sm hx => q eb H' x (s5.trans sm) hx⟩
    · exact ⟨_, rfl, iteT ⟨_, rfl, rfl, fun z hz => (e1 (fun y => c1 (decide_eq_true y.1))).now z hz⟩⟩
end
end K24

set_option maxRecDepth 100000
set_option maxHeartbeats 4000000
/-! # enumerate(a), sum(a), a an own instance whose __iter__ says: return iter(self.field), the field a tuple -/
namespace L2
open PySem PySem.Spec PyProof.Rows PySem.W
abbrev eoZ (h : Heap) (it : Addr) : Heap := h.push { cls := .type "enumerate", data := .fields #[.none, .bool false, .ref it, rawInt 0, .none, .none] }
theorem meets_enum_q {prog : Program} {w : World} {v : Value} :
    MeetsIn prog w (Builtin.«enumerate.__new__» ⟨[.type "enumerate", v], []⟩) (fun A R s => IterTo prog w A.in1 v s fun it s1 => R (.ok (.ret (.ref s1.heap.objs.size))) { s1 with heap := eoZ s1.heap it }) :=
  .of_wp fun A R s h => by
    have hsub := sub_enumerate
    have q1 : ∀ {E : Value → Shared → Prop} {Q : Value → Shared → Prop}, (∀ it s1, R (.ok (.ret (.ref s1.heap.objs.size))) { s1 with heap := eoZ s1.heap it } → Q (.ref it) s1) → wpAny (model prog w) A.in1 (pyIter v) Q E s := fun q => h _ _ q
    wp_walk using q1
    refine wpAny_stack_any fun st => wpAny_pure ?_
    split
    · rename_i c _ _ _ _ _
      cases (c == Value.type "enumerate")
      · wp_walk using q1
        intro it s1 g
        obtain ⟨hp, gg, d, tk, os⟩ := s1
        wp_walk
        exact ⟨_, rfl, g⟩
      · wp_walk using q1
        intro it s1 g
        obtain ⟨hp, gg, d, tk, os⟩ := s1
        wp_walk
        exact ⟨_, rfl, g⟩
    · wp_walk using q1
      intro it s1 g
      obtain ⟨hp, gg, d, tk, os⟩ := s1
      wp_walk
      exact ⟨_, rfl, g⟩
theorem enum_q {prog : Program} {w : World} {A : Around} {E : Value → Shared → Prop} {s : Shared} {v : Value} {Q : Value → Shared → Prop}
    (h : IterTo prog w A.in1.in1 v s fun i1 s1 => ∀ h', IsEnum h' s1.heap.objs.size i1 0 .none → (∀ c o, s1.heap.get? c = some o → h'.get? c = some o) → Q (.ref s1.heap.objs.size) { s1 with heap := h' }) :
    wpAny (model prog w) A (call (.type "enumerate") [v]) Q E s := by
  refine callType_newIn F.called_enumerate (by decide) (F.typeCall_enumerate_1 _) (F.newCall_enumerate_1 _) (fun obj => F.args_object_init_2 obj _) F.entry_enumerate_new meets_enum_q ?_
  refine fun Q1 E1 k1 => h Q1 E1 fun i1 s1 h1 => k1 i1 s1 ?_
  have gZ : (eoZ s1.heap i1).get? s1.heap.objs.size = some { cls := .type "enumerate", data := .fields #[.none, .bool false, .ref i1, rawInt 0, .none, .none] } := Heap.get?_push_size _ rfl
  exact ⟨⟨_, gZ, rfl⟩, h1 _ gZ fun c o e => Heap.get?_push_of_some _ e⟩
/-- xs in a list, a tuple or an own instance's field -/
def SqO (K : Frag) (C : Addr) (fld : Str) (H : Hp) (a : Addr) (xs : List V) : Prop := SqA K H a xs ∨ ∃ dx fs t, H a = some (.ins C dx fs) ∧ fs.lookup fld = some (.ref t) ∧ SqT K H t xs
theorem Same.seqO {K : Frag} {C : Addr} {fld : Str} {H H' : Hp} {a : Addr} {xs : List V} (s : Same H H') (h : SqO K C fld H a xs) : SqO K C fld H' a xs := by
  rcases h with h | ⟨dx, fs, t, h1, h2, h3⟩
  · exact .inl (s.seqA h)
  · exact .inr ⟨dx, fs, t, s _ _ h1, h2, s.seqT h3⟩
def iEnumO (K : Frag) (C : Addr) (fld : Str) (ta : TA) : TI := fun σ H R => ta σ H fun vs H1 => ∃ a xs, vs = [.ref a] ∧ SqO K C fld H1 a xs ∧ ∀ (J : It) (G : Hp → Prop), (∀ H', Same H1 H' → G H') → Walk J xs.length G (YPair (fun i => some (.int (i : Nat))) (fun i => xs[i]?)) → R J H1
theorem pi_enumO {X : Cx} {e : Expr} {ta : TA} {p pos tpos : Pos} {elts : List Expr} {kk : Nat} {C f : Addr} {fld : Str} {k : Nat} (O : OwnIt X.K X.mg C f fld) (hr : Room (k + 2) X.A) (hg : Gl X "enumerate") (hm : X.mg "enumerate" = none) (ha : PA X [e] ta) (hs : starEach [e] X.env = [(false, eval e X.env)] := by rfl) :
    PI X (.Tuple elts kk tpos) (.Call (.Name "enumerate" p) [e] [] pos) (iEnumO X.K C fld ta) := by
  refine ⟨fun pins s σ H R I h => ?_⟩
  refine Call_ (ld_blt I hg hm boot_enumerate (PyProof.Rows.callWith_type1 (thn (ha.run pos pins s σ H _ I h) fun us s1 ⟨vs, H1, I1, r1, q1⟩ => ?_) hs rfl))
  obtain ⟨a, xs, ex, hO, q2⟩ := q1
  subst ex
  cases r1 with
  | cons r rr =>
    cases rr
    cases r
    have fresh2 : ∀ b, b ∈ [s1.heap.objs.size + 1, s1.heap.objs.size] → FpOk X pins H1 b := fun b hb => by
      have e' : b = s1.heap.objs.size + 1 ∨ b = s1.heap.objs.size := by simpa using hb
      have hle : s1.heap.objs.size ≤ b := by
        rcases e' with z | z
        · rw [z]; exact Nat.le_add_right _ _
        · rw [z]; exact Nat.le_refl _
      exact I1.fpOk hle (I1.hok.fresh hle)
    rcases hO with hA | ⟨dx, fs, t, hin, hl, hx⟩
    · rcases enumA_of hA q2 with ⟨hq, q⟩ | ⟨hq, q⟩
      · obtain ⟨its, rv, p', hz⟩ := I1.list hq
        refine call_enumerate_list p'.isList fun h' he hit hsz hk => wpAny_pyIter_enum he ?_
        have I2 : Inv X pins σ H1 { s1 with heap := h' } := I1.kept (t' := s1.toks) hk
        exact ⟨s1.heap.objs.size + 1, [s1.heap.objs.size + 1, s1.heap.objs.size], _, _, H1, rfl, I2, turn_enum a (s1.heap.objs.size + 1) s1.heap.objs.size, ⟨⟨.none, he⟩, hit, Nat.succ_ne_self _⟩, fresh2, q⟩
      · obtain ⟨its, rv, p', hz⟩ := I1.tuple hq
        refine EN.begins1 (begins_tuple a its.toArray) p' (fun h' he hit hsz hk => wpAny_pyIter_enum he ?_) (F.typeCall_enumerate_1 _) (F.newCall_enumerate_1 _) (fun obj => F.args_object_init_2 obj _)
        have I2 : Inv X pins σ H1 { s1 with heap := h' } := I1.kept (t' := s1.toks) hk
        exact ⟨s1.heap.objs.size + 1, [s1.heap.objs.size + 1, s1.heap.objs.size], _, _, H1, rfl, I2, turn_enumT 0 a (s1.heap.objs.size + 1) s1.heap.objs.size (Nat.succ_ne_self _), ⟨⟨.none, he⟩, ⟨_, hit, rfl, rfl⟩⟩, fresh2, q⟩
    · refine enum_q fun Q1 E1 k1 => own_iterA O hr.in1.in1 I1 hin hl hx fun h1 tk1 it1 hk1 hit1 ho1 => k1 it1 _ ?_
      dsimp only
      intro h' he hk
      refine wpAny_pyIter_enum he ?_
      have I2 : Inv X pins σ H1 { s1 with heap := h1, toks := tk1 } := I1.kept (t' := tk1) hk1
      have I3 : Inv X pins σ H1 { s1 with heap := h', toks := tk1 } := I2.kept (t' := tk1) hk
      have l1 : it1 < h1.objs.size := Heap.lt_size ho1
      have ne : h1.objs.size ≠ it1 := Nat.ne_of_gt l1
      refine ⟨h1.objs.size, [h1.objs.size, it1], _, _, H1, rfl, I3, turn_enumT 0 t h1.objs.size it1 ne, ⟨⟨.none, he⟩, ⟨_, hk _ _ ho1, rfl, rfl⟩⟩, fun b hb => ?_, q2 _ _ (fun _ s => s.seqT hx) ((walk_enumT (k := 0)).mono (fun _ h => h) fun i H x H' _ _ y => by
        obtain ⟨T', x', y', z⟩ := y
        exact ⟨T', x', y', by simpa using z⟩)⟩
      have e' : b = h1.objs.size ∨ b = it1 := by simpa using hb
      have hle : s1.heap.objs.size ≤ b := by
        rcases e' with z | z
        · rw [z]; exact Nat.le_of_lt (Nat.lt_of_le_of_lt hit1 l1)
        · rw [z]; exact hit1
      exact I1.fpOk hle (I1.hok.fresh hle)
end L2
namespace L2
open PySem PySem.Spec PyProof.Rows PySem.W
section
variable {X : Cx}
def rSumO (K : Frag) (C : Addr) (fld : Str) : List V → Hp → VK → Prop := fun vs H Q => ∃ (a : Addr) (ns : List Int), vs = [V.ref a] ∧ SqO K C fld H a (ns.map V.int) ∧ Q (.int ns.sum) H
theorem cr_sumO {C f : Addr} {fld : Str} {k : Nat} (O : OwnIt X.K X.mg C f fld) (hr : Room (k + 1) X.A) (hc : X.calm = true) : CallR X (.builtin "sum") (rSumO X.K C fld) := by
  intro pins s σ H xs us Q I r h
  obtain ⟨a, ns, rfl, hq, q⟩ := h
  rcases hq with hq | ⟨dx, fs, t, hin, hl, hx⟩
  · exact cr_sumA hc pins s σ H _ us Q I r ⟨a, ns, rfl, hq, q⟩
  cases r with
  | cons r rr =>
  cases rr
  cases r
  refine PySem.call_sum_walkAnyS (own_iterA O hr.in1 I hin hl hx fun h1 tk1 it hk1 hit1 ho1 => ?_)
  have I2 : Inv X pins σ H { s with heap := h1, toks := tk1 } := I.kept (t' := tk1) hk1
  obtain ⟨its, rv, hT, hz⟩ := I2.tuple hx
  have hi := intsAre_of rv
  obtain ⟨ys, hys⟩ := hi.allInts.items
  have hn : numsOf its.toArray.toList = ns := by rw [show its.toArray.toList = its from rfl, hi.numsOf]
  have hT' : h1.IsTuple t its.toArray := let ⟨o, h1, h2, h3⟩ := hT; ⟨o, h1, h2, h3⟩
  rw [hys] at hT' hn
  rw [nums_intItems] at hn
  have hne : t ≠ it := fun e => by
    obtain ⟨o, h1', h2', h3'⟩ := hT'
    rw [e, ho1] at h1'
    cases h1'
    exact absurd (show Value.type "tuple_iterator" = Value.type "tuple" from h2') (by decide)
  have hsz : (intItems ys).size = ys.size := by simp [intItems]
  have W := (Walks.tuple (prog := X.prog) (w := X.w) (A := X.A.in1) (I.ok.hd hc) it t hne (intItems ys)).toS
  rw [hsz] at W
  have lt : it < h1.objs.size := Heap.lt_size ho1
  refine ⟨it, _, _, _, _, _, _, numAt ys, rfl, W, ⟨⟨_, ho1, rfl, rfl⟩, hT'⟩, fun b hb => ?_, fun i v hP => intItems_at hP, fun s' t' hm => ?_⟩
  · rcases List.mem_cons.mp hb with rfl | hb
    · exact lt
    · obtain rfl := List.mem_singleton.mp hb
      obtain ⟨o, ho, _⟩ := hT'
      exact Heap.lt_size ho
  · obtain ⟨h', g', d', tk', os'⟩ := s'
    have e1 : g' = s.gens := hm.gens
    have e2 : d' = s.drawn := hm.drawn
    have e3 : os' = s.os := hm.os
    subst e1 e2 e3
    rw [preSum_eq, List.take_of_length_le (by simp), hn]
    refine ⟨.int ns.sum, H, I.kept (t' := tk') fun b o e => hm.heap b o (fun hb => ?_) (hk1 _ _ e), ⟨t', rfl⟩, q⟩
    obtain rfl := List.mem_singleton.mp hb
    exact absurd (Heap.lt_size e) (Nat.not_lt_of_le hit1)
/-! ## unions -/
theorem cr_or {n : Value} {r1 r2 r : List V → Hp → VK → Prop} (h1 : CallR X n r1) (h2 : CallR X n r2) (h : ∀ vs H Q, r vs H Q → r1 vs H Q ∨ r2 vs H Q) : CallR X n r := by
  intro pins s σ H xs us Q I rr q
  rcases h _ _ _ q with q | q
  · exact h1 pins s σ H xs us Q I rr q
  · exact h2 pins s σ H xs us Q I rr q
theorem pe_or2 {e : Expr} {t1 t2 t : TE} (h1 : PE X e t1) (h2 : PE X e t2) (h : ∀ σ H Q, t σ H Q → t1 σ H Q ∨ t2 σ H Q) : PE X e t := ⟨fun pins s σ H Q I q => by
  rcases h _ _ _ q with q | q
  · exact h1.run pins s σ H Q I q
  · exact h2.run pins s σ H Q I q⟩
end
end L2

set_option maxRecDepth 100000
set_option maxHeartbeats 8000000
namespace K24
open PySem PySem.Spec PyProof.Rows L2
section
variable {w : World} {K : PySem.W.Frag} {mg : Str → Option Value} {base : Heap}
/-- at a: a list, a tuple or a Telling of ns -/
def IsX (K : PySem.W.Frag) (H : Hp) (a : Addr) (ns : List Int) : Prop := SqA K H a (ns.map V.int) ∨ IsW K H a ns
theorem IsX.same {H H' : Hp} {a : Addr} {ns : List Int} (h : IsX K H a ns) (s : Same H H') : IsX K H' a ns := h.imp s.seqA (fun z => z.same s)
def rListX (K : PySem.W.Frag) : List V → Hp → VK → Prop := fun vs H Q => ∃ (a : Addr) (ns : List Int), vs = [V.ref a] ∧ IsX K H a ns ∧ ns.length ≤ 1000 ∧ ∀ l, H l = none → Q (.ref l) (upd H l (.lst (ns.map V.int)))
theorem listX {vs : List V} {H : Hp} {Q : VK} (h : rListX K vs H Q) : (∃ p ys, vs = [V.ref p] ∧ (SqL K H p ys ∨ SqT K H p ys) ∧ ∀ l, H l = none → Q (.ref l) (upd H l (.lst ys))) ∨ rListO K (c_Telling K) "entries" (spLen K) vs H Q := by
  obtain ⟨a, ns, rfl, h | h, ln, q⟩ := h
  · exact .inl ⟨a, _, rfl, h, q⟩
  · obtain ⟨dx, t, h1, h2⟩ := id h
    exact .inr ⟨a, dx, _, t, _, ns.length, rfl, h1, rfl, h2, by omega, ⟨a, ns, rfl, h, rfl, rfl⟩, q⟩
def lies (ns ls hs : List Int) : Bool := decide (ns.length = ls.length) && (List.range ls.length).all fun i => decide (ls.getD i 0 ≤ ns.getD i 0) && decide (ns.getD i 0 ≤ hs.getD i 0)
def spIn (K : PySem.W.Frag) : Sp := fun vs H Q _ => ∃ (p a : Addr) (ls hs ns : List Int), vs = [.ref p, .ref a] ∧ IsB K H p ls hs ∧ IsX K H a ns ∧ ns.length ≤ 1000 ∧ ∀ H', Same H H' → Q (.bl (lies ns ls hs)) H'
theorem ok_Bounds_contains (T : Tx K mg) : Ok PG w K mg base CX0 6 (a_Bounds_contains K) p_Bounds_contains (spIn K) := by
  refine Ok.of 5 T.f_Bounds_contains sc_Bounds_contains bi_Bounds_contains (by decide) (fun vs H Q E h => ?_) (fun cdv A outer s H vs Q E hr h => ?_)
  · obtain ⟨_, _, _, _, _, rfl, _⟩ := h
    rfl
  · obtain ⟨p, a, ls, hs, ns, rfl, hp, ha, ln, q⟩ := h
    obtain ⟨dx, t, u, p1, p2, p3, l1, l2, b1, b2⟩ := id hp
    have nd := sc_Bounds_contains.nd
    refine ⟨_, pss_cons (ps_set (i := 2) nd rfl (.inl rfl) (pe_callTy (cr_or (r := rListX K) call_list_of (cr_listO rfl (it_Telling T) (ok_Telling_len T) T.wTelling_len hr) (fun _ _ _ => listX)) (by rfl) T.m_list (by decide +kernel) (pa_cons (pv 1) pa_nil)))
      (pss_cons (ps_if (pt_cmpR op_ne (pe_callB call_len_seq (by rfl) T.m_len PySem.boot_len (pa_cons (pv 2) pa_nil)) (pe_callB call_len_seq (by rfl) T.m_len PySem.boot_len (pa_cons (pe_fld (pv 0) rfl) pa_nil)) (nomark _)) (pss_one (ps_ret pe_bl)) pss_nil)
      (pss_one (ps_ret (pe_callB (cr_all rfl) (by rfl) T.m_all (by decide +kernel) (pa_cons (pe_lc (own := [("low", 3), ("number", 4), ("high", 5)]) (g := gTup K 3 (gCons (gName 3) (gCons (gName 4) (gCons (gName 5) gNil)))) (tt := tYes) rfl nd (pi_zip3 T.m_zip (pa_cons (pe_fld (pv 0) rfl) (pa_cons (pv 2) (pa_cons (pe_fld (pv 0) rfl) pa_nil)))) (blkOk_by (N := n_Bounds_contains) (sc := defScope s_Bounds_contains) (by decide +kernel)) (fun _ _ _ _ _ => pg_tup rfl (pgs_cons (pg_name (i := 3) nd rfl (Or.inl rfl)) (pgs_cons (pg_name (i := 4) nd rfl (Or.inl rfl)) (pgs_cons (pg_name (i := 5) nd rfl (Or.inl rfl)) pgs_nil)))) (fun _ _ _ _ _ => pts_nil) (fun _ _ _ _ _ => pe_chain op_le op_le (pv 3) (pv 4) (pv 5))) pa_nil))))), ?_⟩
    refine ⟨_, rfl, a, ns, rfl, ha, ln, fun L hL => ?_⟩
    have s1 := Same.new (o := .lst (ns.map V.int)) hL
    have hL1 : upd H L (.lst (ns.map V.int)) L = some (.lst (ns.map V.int)) := upd_same
    generalize upd H L (.lst (ns.map V.int)) = G at s1 hL1 ⊢
    refine ⟨_, rfl, L, _, rfl, .inl (SqL.of hL1), _, rfl, p, _, dx, _, _, rfl, s1 _ _ p1, T.cBounds, T.nBounds_lows, rfl, t, _, rfl, .inr (s1.seqT p2), ?_⟩
    rw [List.length_map, List.length_map]
    refine ⟨rfl, _, rfl, ite2 (fun c => ?_) (fun c => ?_)⟩
    · have c : ns.length ≠ ls.length := fun z => by simp [z] at c
      have z := q G s1
      rw [lies, decide_eq_false c, Bool.false_and] at z
      exact z
    · have c : ns.length = ls.length := by
        have : ((ns.length : Nat) : Int) = (ls.length : Nat) := by simpa using c
        omega
      refine ⟨_, rfl, p, _, dx, _, _, rfl, s1 _ _ p1, T.cBounds, T.nBounds_lows, rfl, _, rfl, _, rfl, p, _, dx, _, _, rfl, s1 _ _ p1, T.cBounds, T.nBounds_highs, rfl, t, L, u, _, _, _, rfl, s1.seqT p2, SqL.of hL1, s1.seqT p3, fun D hD => ?_⟩
      have val : ∀ {xs : List Int} {i : Nat} {x : V}, (xs.map V.int)[i]? = some x → x = .int (xs.getD i 0) := fun {xs i x} e => by
        obtain ⟨n, hn, rfl⟩ := map_get e
        rw [List.getD_eq_getElem?_getD, hn]; rfl
      refine lc_it (walk_zip3 (xs := ls.map V.int) (ys := ns.map V.int) (zs := hs.map V.int)) (fun i H' => Same G H' ∧ H' D = some (.lst (((List.range i).map fun i => decide (ls.getD i 0 ≤ ns.getD i 0) && decide (ns.getD i 0 ≤ hs.getD i 0)).map V.bl))) ⟨.new hD, upd_same⟩ (fun i H' _ z => ⟨(s1.trans z.1).seqT p2, z.1.seq (SqL.of hL1), (s1.trans z.1).seqT p3⟩) (fun i x H' H2 hi z y => ?_) (fun H' z => ?_)
      · obtain ⟨sm, hd⟩ := z
        obtain ⟨T', x', y', z', rfl, hT, rfl, e1, e2, e3⟩ := y
        obtain rfl := val e1
        obtain rfl := val e2
        obtain rfl := val e3
        rw [List.length_map, List.length_map, List.length_map] at hi
        have sT := Same.new (o := .tup [V.int (ls.getD i 0), .int (ns.getD i 0), .int (hs.getD i 0)]) hT
        have hd' := sT _ _ hd
        have fin : ∀ b, b = (decide (ls.getD i 0 ≤ ns.getD i 0) && decide (ns.getD i 0 ≤ hs.getD i 0)) → ∃ acc, upd H' T' (.tup [V.int (ls.getD i 0), .int (ns.getD i 0), .int (hs.getD i 0)]) D = some (.lst acc) ∧ acc.length < sizeLine ∧ Same G (upd (upd H' T' (.tup [V.int (ls.getD i 0), .int (ns.getD i 0), .int (hs.getD i 0)])) D (.lst (acc ++ [V.bl b]))) ∧
            upd (upd H' T' (.tup [V.int (ls.getD i 0), .int (ns.getD i 0), .int (hs.getD i 0)])) D (.lst (acc ++ [V.bl b])) D = some (.lst (((List.range (i + 1)).map fun i => decide (ls.getD i 0 ≤ ns.getD i 0) && decide (ns.getD i 0 ≤ hs.getD i 0)).map V.bl)) := fun b hb => by
          refine ⟨_, hd', by rw [List.length_map, List.length_map, List.length_range, sizeLine_eq]; omega, fun c o eb => ?_, ?_⟩
          · rw [upd_ne (fun z => by rw [z, hD] at eb; cases eb)]
            exact sT _ _ (sm _ _ eb)
          · rw [upd_same, List.range_succ, List.map_append, List.map_append, hb]; rfl
        refine ⟨T', _, rfl, SqT.of upd_same, rfl, _, _, rfl, _, _, rfl, _, _, rfl, rfl, rfl, yesT ?_⟩
        refine ⟨_, rfl, _, rfl, _, _, rfl, rfl, _, rfl, ite2 (fun c1 => ?_) (fun c1 => ?_)⟩
        · refine ⟨_, rfl, _, _, rfl, rfl, ?_⟩
          exact fin _ (by rw [c1]; rfl)
        · exact fin _ (by rw [eq_false_of_ne_true c1]; rfl)
      · obtain ⟨sm, hd⟩ := z
        rw [List.length_map, List.length_map, List.length_map] at hd
        refine ⟨D, _, rfl, SqL.of hd, ?_⟩
        have z := q H' (s1.trans sm)
        have e : ((List.range (min (min ls.length ns.length) hs.length)).map fun i => decide (ls.getD i 0 ≤ ns.getD i 0) && decide (ns.getD i 0 ≤ hs.getD i 0)).all id = lies ns ls hs := by
          rw [show min (min ls.length ns.length) hs.length = ls.length by omega, lies, decide_eq_true c, Bool.true_and, List.all_map]; rfl
        rw [e]
        exact z
end
end K24

set_option maxRecDepth 100000
set_option maxHeartbeats 4000000
/-! # Lists of numbers drawn from a pool -/
namespace L2
open PySem PySem.Spec PyProof.Rows
/-- [f(pool) for x in range(..)] -/
theorem lc_draws {lo : Int} {n i0 : Nat} {te : TE} {vs : List Nat} {σ : L2.St} {H1 : Hp} {D p : Addr} {st : List V} {Qd : Hp → Prop} {C : Int → Prop} (hp : H1 p = some (.lst st)) (ok : PoolOk st) (hD : H1 D = none) (hn : n ≤ 10000)
    (hte : ∀ (i : Nat) (H2 : Hp) (st2 : List V), H2 p = some (.lst st2) → PoolOk st2 → But p H1 H2 → wipe ((wipe σ vs).set i0 (some (.int (lo + (i : Nat))))) vs = wipe σ vs ∧ ∀ Q : VK, (∀ v H3 st3, C v → But p H2 H3 → H3 p = some (.lst st3) → PoolOk st3 → Q (.int v) H3) → te ((wipe σ vs).set i0 (some (.int (lo + (i : Nat))))) H2 Q)
    (hd : ∀ (H' : Hp) (ns : List Int) (st' : List V), But p H1 H' → H' p = some (.lst st') → PoolOk st' → H' D = some (.lst (ns.map V.int)) → ns.length = n → (∀ x ∈ ns, C x) → Qd H') :
    ∃ W : Nat → Nat → Hp → Prop, (∃ m, W 0 m (upd H1 D (.lst []))) ∧ ∀ i m H, W i m H →
      ((Itr lo n).stop i H ∧ Qd H) ∨ ((Itr lo n).go i H ∧ ∃ Nx : Hp → Prop, (∀ H', Nx H' → ∃ m', m' < m ∧ W (i + 1) m' H') ∧ ∀ x H', (Itr lo n).yld i H x H' → gName i0 x (wipe σ vs) H' fun σ2 H2 => wipe σ2 vs = wipe σ vs ∧ tYes σ2 H2 fun b H3 =>
        if b = true then te σ2 H3 fun y H4 => ∃ acc, H4 D = some (.lst acc) ∧ acc.length < sizeLine ∧ Nx (upd H4 D (.lst (acc ++ [y]))) else Nx H3) := by
  have dp : D ≠ p := fun z => by rw [z, hp] at hD; cases hD
  refine lc_range (lo := lo) (n := n) (fun i H' => ∃ (ns : List Int) (st' : List V), But p H1 H' ∧ H' p = some (.lst st') ∧ PoolOk st' ∧ H' D = some (.lst (ns.map V.int)) ∧ ns.length = i ∧ ∀ x ∈ ns, C x) ⟨[], st, .of (.new hD), by rw [upd_ne (Ne.symm dp)]; exact hp, ok, upd_same, rfl, fun x hx => by cases hx⟩ ?_ ?_
  · rintro i H' hi ⟨ns, st', bt, hp', ok', hl, hn', hb⟩
    obtain ⟨e1, e2⟩ := hte i H' st' hp' ok' bt
    refine ⟨e1, yesT (e2 _ fun v H3 st3 hv b3 hp3 ok3 => ?_)⟩
    refine ⟨ns.map V.int, b3 _ _ dp hl, by rw [List.length_map, hn', sizeLine_eq]; omega, ns ++ [v], st3, fun c o nc hc => ?_, ?_, ok3, ?_, ?_, fun x hx => ?_⟩
    · have nD : c ≠ D := fun z => by rw [z, hD] at hc; cases hc
      rw [upd_ne nD]
      exact b3 c o nc (bt c o nc hc)
    · rw [upd_ne (Ne.symm dp)]; exact hp3
    · rw [upd_same, List.map_append]; rfl
    · rw [List.length_append, hn']; rfl
    · rcases List.mem_append.mp hx with hx | hx
      · exact hb x hx
      · rw [List.mem_singleton.mp hx]; exact hv
  · rintro H' ⟨ns, st', bt, hp', ok', hl, hn', hb⟩
    exact hd H' ns st' bt hp' ok' hl hn' hb
theorem But.none {p l : Addr} {H H' : Hp} {o : HO} (b : But p H H') (hp : H' p = some o) (h : H' l = Option.none) : H l = Option.none := by
  cases e : H l with
  | none => rfl
  | some u =>
    have n : l ≠ p := fun z => by rw [z, hp] at h; cases h
    rw [b l u n e] at h
    cases h
end L2

set_option maxRecDepth 100000
set_option maxHeartbeats 8000000
namespace K24
open PySem PySem.Spec PyProof.Rows L2
/-- a new list of numbers from the pool -/
def NewRow (p : Addr) (H : Hp) (C : List Int → Prop) (Q : VK) : Prop := ∀ (H' : Hp) (l : Addr) (ns : List Int) (st' : List V), But p H H' → H' p = some (.lst st') → PoolOk st' → H l = none → H' l = some (.lst (ns.map V.int)) → C ns → Q (.ref l) H'
/-- a number from the pool -/
def NewNum (p : Addr) (H : Hp) (C : Int → Prop) (Q : VK) : Prop := ∀ (v : Int) (H' : Hp) (st' : List V), C v → But p H H' → (∀ l, H' l = none → H l = none) → H' p = some (.lst st') → PoolOk st' → Q (.int v) H'
theorem dno' {p : Prop} [Decidable p] (c : ¬ decide p = true) : ¬ p := fun z => c (decide_eq_true z)
theorem draw_ok {m : Int} (h0 : 0 < m) (h : m < 2 ^ 190) : m.natAbs < 2 ^ 200 := by
  have : m.natAbs < 2 ^ 190 := by omega
  exact Nat.lt_trans this (by decide)
theorem fr_set {p : Addr} {H : Hp} {o u : HO} (h : H p = some u) : ∀ l, upd H p o l = none → H l = none := fun l hl => by
  by_cases e : l = p
  · rw [e, upd_same] at hl; cases hl
  · rwa [upd_ne e] at hl
theorem fr_new {p : Addr} {H : Hp} {o : HO} : ∀ l, upd H p o l = none → H l = none := fun l hl => by
  by_cases e : l = p
  · rw [e, upd_same] at hl; cases hl
  · rwa [upd_ne e] at hl
theorem flat_one {α : Type} (v : α) : ∀ n : Nat, (List.replicate n [v]).flatten = List.replicate n v
  | 0 => rfl
  | n + 1 => by rw [List.replicate_succ, List.flatten_cons, flat_one v n, List.replicate_succ]; rfl
/-- the pool at p turned, a new list of ns at L -/
structure Cur (p L : Addr) (H H' : Hp) (ns : List Int) : Prop where
  bt : But p H H'
  hp : ∃ st, H' p = some (.lst st) ∧ PoolOk st
  hl : H' L = some (.lst (ns.map V.int))
theorem Cur.draw {p L : Addr} {H H' : Hp} {ns : List Int} (h : Cur p L H H' ns) (n : L ≠ p) {st : List V} (ok : PoolOk st) : Cur p L H (upd H' p (.lst st)) ns :=
  ⟨h.bt.trans .set, ⟨st, upd_same, ok⟩, by rw [upd_ne n]; exact h.hl⟩
theorem Cur.put {p L : Addr} {H H' : Hp} {ns : List Int} (h : Cur p L H H' ns) (n : L ≠ p) (hL : H L = none) (ms : List Int) : Cur p L H (upd H' L (.lst (ms.map V.int))) ms := by
  obtain ⟨st, e, ok⟩ := h.hp
  exact ⟨fun b o nb eb => by
    rw [upd_ne (fun z => by rw [z, hL] at eb; cases eb)]
    exact h.bt _ _ nb eb, ⟨st, by rw [upd_ne (Ne.symm n)]; exact e, ok⟩, upd_same⟩
theorem at1 {ms : List Int} {j : Nat} (h : j < ms.length) : atI (ms.map V.int) ((j : Nat) : Int) = some (V.int (ms.getD j 0)) := atI_nat (by rw [List.getElem?_map, List.getD_eq_getElem?_getD, List.getElem?_eq_getElem h]; rfl)
theorem ten : (10 : Int) ^ (30 : Int).toNat = top := by decide
section
variable {w : World} {K : PySem.W.Frag} {mg : Str → Option Value} {base : Heap}
def spSize : Sp := fun vs H Q _ => ∃ (p : Addr) (st : List V) (m : Int), vs = [.ref p, .int m] ∧ 0 < m ∧ m ≤ 100 ∧ H p = some (.lst st) ∧ PoolOk st ∧ NewNum p H (fun v => 0 ≤ v ∧ v ≤ m) Q
theorem ok_law_size (T : Tx K mg) : Ok PG w K mg base CX0 3 (a_law_size K) p_law_size spSize := by
  refine Ok.of 2 T.f_law_size sc_law_size bi_law_size (by decide) (fun vs H Q E h => ?_) (fun cdv A outer s H vs Q E hr h => ?_)
  · obtain ⟨_, _, _, rfl, _⟩ := h
    rfl
  · obtain ⟨p, st, m, rfl, m0, m1, hp, ok, q⟩ := h
    have mn : m.natAbs < 2 ^ 200 := Nat.lt_trans (show m.natAbs < 2 ^ 10 by omega) (by decide)
    refine ⟨_, pss_cons (ps_if (pt_cmpR op_eq (pc (ok_law_draw T) hr T.g_law_draw pass0 (pa_cons (pv 0) (pa_cons pe_int pa_nil))) pe_int (nomark _)) (pss_one (ps_ret pe_int)) pss_nil)
      (pss_one (ps_ret (pe_op op_add pe_int (pe_callB (call_max2 rfl) (by rfl) T.m_max (by decide +kernel) (pa_cons (pc (ok_law_draw T) hr T.g_law_draw pass0 (pa_cons (pv 0) (pa_cons (pv 1) pa_nil))) (pa_cons (pc (ok_law_draw T) hr T.g_law_draw pass0 (pa_cons (pv 0) (pa_cons (pv 1) pa_nil))) pa_nil)))))), ?_⟩
    refine ⟨_, rfl, p, st, 8, rfl, by decide, by decide, hp, ok, fun v st1 _ _ ok1 => ?_⟩
    refine ⟨rfl, _, rfl, ite2 (fun c => ?_) (fun c => ?_)⟩
    · exact q 0 _ st1 ⟨by omega, by omega⟩ .set fr_new upd_same ok1
    · refine ⟨_, rfl, _, rfl, p, st1, m, rfl, m0, mn, upd_same, ok1, fun a st2 a0 a1 ok2 => ?_⟩
      refine ⟨_, rfl, _, rfl, p, st2, m, rfl, m0, mn, upd_same, ok2, fun b st3 b0 b1 ok3 => ?_⟩
      exact ⟨_, _, rfl, _, _, rfl, rfl, q _ _ st3 (by split <;> constructor <;> omega) ((But.set.trans .set).trans .set) (fun l h => fr_new l (fr_new l (fr_new l h))) upd_same ok3⟩
def spNumber : Sp := fun vs H Q _ => ∃ (p : Addr) (st : List V), vs = [.ref p] ∧ H p = some (.lst st) ∧ PoolOk st ∧ NewNum p H (fun v => 0 ≤ v ∧ v ≤ top) Q
theorem ok_law_number (T : Tx K mg) : Ok PG w K mg base CX0 3 (a_law_number K) p_law_number spNumber := by
  refine Ok.of 2 T.f_law_number sc_law_number bi_law_number (by decide) (fun vs H Q E h => ?_) (fun cdv A outer s H vs Q E hr h => ?_)
  · obtain ⟨_, _, rfl, _⟩ := h
    rfl
  · obtain ⟨p, st, rfl, hp, ok, q⟩ := h
    have nd := sc_law_number.nd
    refine ⟨_, pss_cons (ps_set (i := 1) nd rfl (.inl rfl) (pc (ok_law_draw T) hr T.g_law_draw pass0 (pa_cons (pv 0) (pa_cons pe_int pa_nil))))
      (pss_cons (ps_if (pt_cmpR op_eq (pv 1) pe_int (nomark _)) (pss_one (ps_ret (pe_op op_sub (pe_op op_pow pe_int pe_int) (pc (ok_law_draw T) hr T.g_law_draw pass0 (pa_cons (pv 0) (pa_cons pe_int pa_nil)))))) pss_nil)
      (pss_cons (ps_if (pt_cmpR op_eq (pv 1) pe_int (nomark _)) (pss_one (ps_ret (pc (ok_law_draw T) hr T.g_law_draw pass0 (pa_cons (pv 0) (pa_cons (pe_op op_add (pe_op op_pow pe_int pe_int) pe_int) pa_nil))))) pss_nil)
      (pss_one (ps_ret (pc (ok_law_draw T) hr T.g_law_draw pass0 (pa_cons (pv 0) (pa_cons pe_int pa_nil))))))), ?_⟩
    refine ⟨_, rfl, p, st, 6, rfl, by decide, by decide, hp, ok, fun v st1 v0 v1 ok1 => ?_⟩
    have fin : ∀ (u : Int) (st2 : List V), 0 ≤ u → u ≤ top → PoolOk st2 → Q (.int u) (upd (upd H p (.lst st1)) p (.lst st2)) := fun u st2 a b ok2 => q u _ st2 ⟨a, b⟩ (But.set.trans .set) (fun l h => fr_new l (fr_new l h)) upd_same ok2
    refine ⟨_, rfl, rfl, _, rfl, ite2 (fun _ => ?_) (fun _ => ?_)⟩
    · refine ⟨_, _, rfl, rfl, ⟨by decide, by decide, by decide⟩, _, rfl, p, st1, 3, rfl, by decide, by decide, upd_same, ok1, fun u st2 u0 u1 ok2 => ⟨_, _, rfl, rfl, ?_⟩⟩
      have t := ten
      refine fin _ st2 ?_ ?_ ok2
      · show 0 ≤ 10 ^ (30 : Int).toNat - u
        rw [t]; show 0 ≤ (1000000000000000000000000000000 : Int) - u; omega
      · show 10 ^ (30 : Int).toNat - u ≤ top
        rw [t]; omega
    · refine ⟨_, rfl, rfl, _, rfl, ite2 (fun _ => ?_) (fun _ => ?_)⟩
      · refine ⟨_, rfl, _, _, rfl, rfl, ⟨by decide, by decide, by decide⟩, _, _, rfl, rfl, p, st1, _, rfl, by decide, by decide, upd_same, ok1, fun u st2 u0 u1 ok2 => ?_⟩
        refine fin _ st2 u0 ?_ ok2
        have t := ten
        rw [t] at u1
        omega
      · exact ⟨_, rfl, p, st1, 5, rfl, by decide, by decide, upd_same, ok1, fun u st2 u0 u1 ok2 => fin _ st2 u0 (by show u ≤ 1000000000000000000000000000000; omega) ok2⟩
def spPerhaps : Sp := fun vs H Q _ => ∃ (p : Addr) (st : List V) (n : Int), vs = [.ref p, .int n] ∧ H p = some (.lst st) ∧ PoolOk st ∧ ∀ (v : Int) (H' : Hp) (st' : List V), But p H H' → H' p = some (.lst st') → PoolOk st' → Q (.int v) H'
theorem ok_law_perhaps_bad (T : Tx K mg) : Ok PG w K mg base CX0 3 (a_law_perhaps_bad K) p_law_perhaps_bad spPerhaps := by
  refine Ok.of 2 T.f_law_perhaps_bad sc_law_perhaps_bad bi_law_perhaps_bad (by decide) (fun vs H Q E h => ?_) (fun cdv A outer s H vs Q E hr h => ?_)
  · obtain ⟨_, _, _, rfl, _⟩ := h
    rfl
  · obtain ⟨p, st, n, rfl, hp, ok, q⟩ := h
    have nd := sc_law_perhaps_bad.nd
    refine ⟨_, pss_cons (ps_set (i := 2) nd rfl (.inl rfl) (pc (ok_law_draw T) hr T.g_law_draw pass0 (pa_cons (pv 0) (pa_cons pe_int pa_nil))))
      (pss_cons (ps_set (i := 3) nd rfl (.inl rfl) (pc (ok_law_draw T) hr T.g_law_draw pass0 (pa_cons (pv 0) (pa_cons (pe_op op_pow pe_int pe_int) pa_nil))))
      (pss_cons (ps_if (pt_cmpR op_lt (pv 2) pe_int (nomark _)) (pss_one (ps_ret (pe_ix ix_list (pe_lst (pa_cons (pe_un un_neg pe_int) (pa_cons (pe_op op_add (pe_op op_pow pe_int pe_int) pe_int) (pa_cons (pe_op op_sub (pe_un un_neg pe_int) (pv 3)) (pa_cons (pe_op op_add (pe_op op_add (pe_op op_pow pe_int pe_int) pe_int) (pv 3)) pa_nil))))) (pv 2) (fun _ _ => rfl)))) pss_nil)
      (pss_one (ps_ret (pv 1))))), ?_⟩
    refine ⟨_, rfl, p, st, 12, rfl, by decide, by decide, hp, ok, fun v st1 v0 v1 ok1 => ?_⟩
    refine ⟨_, rfl, _, _, rfl, rfl, ⟨by decide, by decide, by decide⟩, p, st1, _, rfl, by decide, by decide, upd_same, ok1, fun f st2 f0 f1 ok2 => ?_⟩
    rw [upd_upd]
    refine ⟨_, rfl, _, _, rfl, rfl, _, rfl, ite2 (fun c => ?_) (fun c => ?_)⟩
    · have hv : v < 4 := of_decide_eq_true c
      refine ⟨1, rfl, _, _, rfl, rfl, ⟨by decide, by decide, by decide⟩, _, _, rfl, rfl, 1, rfl, _, rfl, _, _, rfl, rfl, _, _, rfl, rfl, ⟨by decide, by decide, by decide⟩, _, _, rfl, rfl, _, rfl, _, _, rfl, rfl, by show 4 ≤ sizeLine; decide, fun l hl => ?_⟩
      have hpl : p ≠ l := fun z => by rw [← z, upd_same] at hl; cases hl
      have fin2 : ∀ x : Int, ∀ o, Q (.int x) (upd (upd H p (.lst st2)) l o) := fun x o => q x _ st2 (But.set.trans (.of (.new hl))) (by rw [upd_ne hpl, upd_same]) ok2
      have hc : v = 0 ∨ v = 1 ∨ v = 2 ∨ v = 3 := by omega
      rcases hc with rfl | rfl | rfl | rfl <;> exact ⟨_, rfl, l, _, _, _, rfl, rfl, SqL.of upd_same, rfl, fin2 _ _⟩
    · exact ⟨_, rfl, q n _ st2 .set upd_same ok2⟩
def spFirstBad (K : PySem.W.Frag) : Sp := fun vs H Q _ => ∃ (a : Addr) (ns : List Int), vs = [.ref a] ∧ SqL K H a (ns.map V.int) ∧ ns.length ≤ 1000 ∧ (bad top 0 ns = none → Q (.int (-1)) H) ∧ (∀ i n, bad top 0 ns = some (i, n) → ns[i]? = some n → Q (.int ((i : Nat) : Int)) H)
theorem ok_law_first_bad (T : Tx K mg) : Ok PG w K mg base CX0 2 (a_law_first_bad K) p_law_first_bad (spFirstBad K) := by
  refine Ok.of 1 T.f_law_first_bad sc_law_first_bad bi_law_first_bad (by decide) (fun vs H Q E h => ?_) (fun cdv A outer s H vs Q E hr h => ?_)
  · obtain ⟨_, _, rfl, _⟩ := h
    rfl
  · obtain ⟨a, ns, rfl, ha, ln, q0, q1⟩ := h
    have nd := sc_law_first_bad.nd
    refine ⟨_, pss_cons (ps_for (passX rfl) rfl (pi_range1 rfl T.m_range (pa_cons (pe_callB call_len_seq (by rfl) T.m_len PySem.boot_len (pa_cons (pv 0) pa_nil)) pa_nil)) (pg_name (i := 1) nd rfl (.inl rfl))
        (pss_one (ps_if (pt_not (pt_chain op_le op_le pe_int (pe_ix ix_list (pv 0) (pv 1) (fun _ _ => rfl)) (pe_op op_pow pe_int pe_int))) (pss_one (ps_ret (pv 1))) pss_nil)))
      (pss_one (ps_ret (pe_un un_neg pe_int))), ?_⟩
    refine ⟨_, rfl, a, _, rfl, .inl ha, _, rfl, by omega, by rw [List.length_map]; omega, ?_⟩
    refine for_range (lo := 0) (n := (ns.map V.int).length) (fun i σ H' => ∃ x1, σ = [some (.ref a), x1] ∧ H' = H ∧ bad top (0 + i) (ns.drop i) = bad top 0 ns) ⟨_, rfl, rfl, rfl⟩ ?_ ?_
    · rintro i σ H' hi ⟨x1, rfl, rfl, hb⟩
      rw [Int.zero_add]
      rw [List.length_map] at hi
      have hg : ns[i]? = some (ns.getD i 0) := by rw [List.getD_eq_getElem?_getD, List.getElem?_eq_getElem hi]; rfl
      obtain ⟨b1, b2⟩ := bad_step hb hg
      rw [Nat.zero_add] at b2
      refine ⟨_, rfl, _, rfl, a, _, _, _, rfl, rfl, ha, at1 hi, _, _, rfl, rfl, _, rfl, ite2 (fun c => ?_) (fun c => ?_)⟩
      · refine ⟨_, _, rfl, rfl, ⟨by decide, by decide, by decide⟩, _, _, rfl, rfl, _, rfl, ite2 (fun d => ?_) (fun d => ?_)⟩
        · refine ⟨_, rfl, q1 i _ (b2 fun y => ?_) hg⟩
          have y2 : ns.getD i 0 ≤ (10 : Int) ^ (30 : Int).toNat := by rw [ten]; exact y.2
          generalize (10 : Int) ^ (30 : Int).toNat = tt at d y2
          generalize ns.getD i 0 = gg at d y2
          simp [y2] at d
        · have d : ns.getD i 0 ≤ (10 : Int) ^ (30 : Int).toNat := by simpa using d
          rw [ten] at d
          exact ⟨_, rfl, rfl, b1 ⟨of_decide_eq_true c, d⟩⟩
      · exact ⟨_, rfl, iteT ⟨_, rfl, q1 i _ (b2 fun y => c (decide_eq_true y.1)) hg⟩⟩
    · rintro σ H' ⟨x1, rfl, rfl, hb⟩
      rw [List.length_map] at hb
      exact ⟨1, rfl, q0 (bad_end (k := 0) hb)⟩
def spLies (K : PySem.W.Frag) : Sp := fun vs H Q _ => ∃ (n a b : Addr) (ns ls hs : List Int), vs = [.ref n, .ref a, .ref b] ∧ (SqL K H n (ns.map V.int) ∨ SqT K H n (ns.map V.int)) ∧ SqL K H a (ls.map V.int) ∧ SqL K H b (hs.map V.int) ∧ ls.length ≤ 1000 ∧ hs.length = ls.length ∧ Q (.bl (lies ns ls hs)) H
end
end K24

set_option maxRecDepth 100000
set_option maxHeartbeats 8000000
namespace K24
open PySem PySem.Spec PyProof.Rows L2
section
variable {w : World} {K : PySem.W.Frag} {mg : Str → Option Value} {base : Heap}
theorem at1T {ms : List Int} {j : Nat} (h : j < ms.length) : atI (ms.map V.int) ((j : Nat) : Int) = some (V.int (ms.getD j 0)) := at1 h
theorem lies_no {ns ls hs : List Int} {i : Nat} (e : ns.length = ls.length) (hi : i < ls.length) (h : ns.getD i 0 < ls.getD i 0 ∨ hs.getD i 0 < ns.getD i 0) : lies ns ls hs = false := by
  unfold lies
  rw [decide_eq_true e, Bool.true_and, List.all_eq_false]
  refine ⟨i, List.mem_range.mpr hi, ?_⟩
  rcases h with h | h
  · rw [decide_eq_false (by omega), Bool.false_and]; decide
  · rw [decide_eq_false (show ¬ ns.getD i 0 ≤ hs.getD i 0 by omega), Bool.and_false]; decide
theorem ok_law_lies (T : Tx K mg) : Ok PG w K mg base CX0 2 (a_law_lies K) p_law_lies (spLies K) := by
  refine Ok.of 1 T.f_law_lies sc_law_lies bi_law_lies (by decide) (fun vs H Q E h => ?_) (fun cdv A outer s H vs Q E hr h => ?_)
  · obtain ⟨_, _, _, _, _, _, rfl, _⟩ := h
    rfl
  · obtain ⟨n, a, b, ns, ls, hs, rfl, hn, ha, hb, ll, lh, q⟩ := h
    have nd := sc_law_lies.nd
    refine ⟨_, pss_cons (ps_if (pt_cmpR op_ne (pe_callB call_len_seq (by rfl) T.m_len PySem.boot_len (pa_cons (pv 0) pa_nil)) (pe_callB call_len_seq (by rfl) T.m_len PySem.boot_len (pa_cons (pv 1) pa_nil)) (nomark _)) (pss_one (ps_ret pe_bl)) pss_nil)
      (pss_cons (ps_for (passX rfl) rfl (pi_range1 rfl T.m_range (pa_cons (pe_callB call_len_seq (by rfl) T.m_len PySem.boot_len (pa_cons (pv 1) pa_nil)) pa_nil)) (pg_name (i := 3) nd rfl (.inl rfl))
        (pss_one (ps_if (PW.pt (pw_or (pt_cmpR op_lt (pe_ix (IxR.or ix_list ix_tup) (pv 0) (pv 3) (fun _ _ => rfl)) (pe_ix ix_list (pv 1) (pv 3) (fun _ _ => rfl)) (nomark _)) (pw_or1 (pt_cmpR op_gt (pe_ix (IxR.or ix_list ix_tup) (pv 0) (pv 3) (fun _ _ => rfl)) (pe_ix ix_list (pv 2) (pv 3) (fun _ _ => rfl)) (nomark _))))) (pss_one (ps_ret pe_bl)) pss_nil)))
      (pss_one (ps_ret pe_bl))), ?_⟩
    have hnA : SqA K H n (ns.map V.int) := hn
    refine ⟨_, rfl, n, _, rfl, hn, _, rfl, a, _, rfl, .inl ha, ?_⟩
    rw [List.length_map, List.length_map]
    refine ⟨rfl, _, rfl, ite2 (fun c => ?_) (fun c => ?_)⟩
    · have c : ns.length ≠ ls.length := fun z => by simp [z] at c
      rw [lies, decide_eq_false c, Bool.false_and] at q
      exact q
    · have c : ns.length = ls.length := by
        have : ((ns.length : Nat) : Int) = (ls.length : Nat) := by simpa using c
        omega
      refine ⟨_, rfl, a, _, rfl, .inl ha, _, rfl, by omega, by rw [List.length_map]; omega, ?_⟩
      refine for_range (lo := 0) (n := (ls.map V.int).length) (fun i σ H' => ∃ x3, σ = [some (.ref n), some (.ref a), some (.ref b), x3] ∧ H' = H ∧ ∀ j, j < i → ls.getD j 0 ≤ ns.getD j 0 ∧ ns.getD j 0 ≤ hs.getD j 0) ⟨_, rfl, rfl, fun j hj => by omega⟩ ?_ ?_
      · rintro i σ H' hi ⟨x3, rfl, rfl, hb'⟩
        rw [Int.zero_add]
        rw [List.length_map] at hi
        have num : ∀ {Q' : VK}, Q' (.int (ns.getD i 0)) H' → (rIxL K (.ref n) (.int ((i : Nat) : Int)) H' Q' ∨ rIxT K (.ref n) (.int ((i : Nat) : Int)) H' Q') := fun {Q'} qq => by
          rcases hn with hn | hn
          · exact .inl ⟨n, _, _, _, rfl, rfl, hn, at1 (by omega), qq⟩
          · exact .inr ⟨n, _, _, _, rfl, rfl, hn, at1 (by omega), qq⟩
        refine ⟨_, rfl, _, rfl, num ⟨_, rfl, _, rfl, a, _, _, _, rfl, rfl, ha, at1 hi, _, _, rfl, rfl, _, rfl, ite2 (fun d => iteT ?_) (fun d => ?_)⟩⟩
        · rw [lies_no c hi (.inl (of_decide_eq_true d))] at q
          exact q
        · refine ⟨_, rfl, _, rfl, num ⟨_, rfl, _, rfl, b, _, _, _, rfl, rfl, hb, at1 (by omega), _, _, rfl, rfl, _, rfl, ite2 (fun d2 => ?_) (fun d2 => ?_)⟩⟩
          · rw [lies_no c hi (.inr (of_decide_eq_true d2))] at q
            exact q
          · refine ⟨_, rfl, rfl, fun j hj => ?_⟩
            by_cases z : j < i
            · exact hb' j z
            · obtain rfl : j = i := by omega
              have k1 := dno' d
              have k2 := dno' d2
              exact ⟨by omega, by omega⟩
      · rintro σ H' ⟨x3, rfl, rfl, hb'⟩
        rw [List.length_map] at hb'
        have e : lies ns ls hs = true := by
          rw [lies, decide_eq_true c, Bool.true_and, List.all_eq_true]
          intro i hi
          obtain ⟨k1, k2⟩ := hb' i (List.mem_range.mp hi)
          rw [decide_eq_true k1, decide_eq_true k2]; rfl
        rw [e] at q
        exact q
def spPair (K : PySem.W.Frag) : Sp := fun vs H Q _ => ∃ (p : Addr) (st : List V) (m : Nat), vs = [.ref p, .int (m : Nat)] ∧ m ≤ 30 ∧ H p = some (.lst st) ∧ PoolOk st ∧
  ∀ H' (l a b : Addr) (ls hs : List Int) (st' : List V), But p H H' → H' p = some (.lst st') → PoolOk st' → l ≠ p → a ≠ p → b ≠ p → H' l = some (.lst [.ref a, .ref b]) → H' a = some (.lst (ls.map V.int)) → H' b = some (.lst (hs.map V.int)) → ls.length = m → hs.length = m → (∀ x ∈ ls, 0 ≤ x ∧ x ≤ top) → (∀ x ∈ hs, 0 ≤ x ∧ x ≤ top) → Q (.ref l) H'
theorem clamp (x : Int) : 0 ≤ (if (if x > 0 then x else 0) < 10 ^ (30 : Int).toNat then (if x > 0 then x else 0) else 10 ^ (30 : Int).toNat) ∧ (if (if x > 0 then x else 0) < 10 ^ (30 : Int).toNat then (if x > 0 then x else 0) else 10 ^ (30 : Int).toNat) ≤ top := by
  have tv : top = 1000000000000000000000000000000 := rfl
  rw [ten, tv]
  split <;> split <;> (constructor <;> omega)
theorem snoc_in {ns : List Int} {v : Int} (h : ∀ x ∈ ns, 0 ≤ x ∧ x ≤ top) (hv : 0 ≤ v ∧ v ≤ top) : ∀ x ∈ ns ++ [v], 0 ≤ x ∧ x ≤ top := fun x hx => by
  rcases List.mem_append.mp hx with hx | hx
  · exact h x hx
  · rw [List.mem_singleton.mp hx]; exact hv
theorem ok_law_pair (T : Tx K mg) : Ok PG w K mg base CX0 4 (a_law_pair K) p_law_pair (spPair K) := by
  refine Ok.of 3 T.f_law_pair sc_law_pair bi_law_pair (by decide) (fun vs H Q E h => ?_) (fun cdv A outer s H vs Q E hr h => ?_)
  · obtain ⟨_, _, _, rfl, _⟩ := h
    rfl
  · obtain ⟨p, st, m, rfl, m30, hp, ok, q⟩ := h
    have nd := sc_law_pair.nd
    refine ⟨_, pss_cons (ps_set (i := 2) nd rfl (.inl rfl) (pe_lst pa_nil))
      (pss_cons (ps_set (i := 3) nd rfl (.inl rfl) (pe_lst pa_nil))
      (pss_cons (ps_set (i := 4) nd rfl (.inl rfl) (pc (ok_law_draw T) (hr.mono (by decide)) T.g_law_draw pass0 (pa_cons (pv 0) (pa_cons pe_int pa_nil))))
      (pss_cons (ps_for (passX rfl) rfl (pi_range1 rfl T.m_range (pa_cons (pv 1) pa_nil)) (pg_name (i := 5) nd rfl (.inl rfl))
        (pss_cons (ps_set (i := 6) nd rfl (.inl rfl) (pc (ok_law_number T) hr T.g_law_number pass0 (pa_cons (pv 0) pa_nil)))
          (pss_cons (ps_set (i := 7) nd rfl (.inl rfl) (pe_callB (call_min2 rfl) (by rfl) T.m_min (by decide +kernel) (pa_cons (pe_op op_pow pe_int pe_int) (pa_cons (pe_callB (call_max2 rfl) (by rfl) T.m_max (by decide +kernel) (pa_cons pe_int (pa_cons (pe_op op_sub (pe_op op_add (pv 6) (pc (ok_law_draw T) (hr.mono (by decide)) T.g_law_draw pass0 (pa_cons (pv 0) (pa_cons pe_int pa_nil)))) pe_int) pa_nil))) pa_nil))))
          (pss_cons (ps_if (pt_cmpR op_eq (pc (ok_law_draw T) (hr.mono (by decide)) T.g_law_draw pass0 (pa_cons (pv 0) (pa_cons pe_int pa_nil))) pe_int (nomark _)) (pss_one (ps_set (i := 7) nd rfl (.inl rfl) (pc (ok_law_number T) hr T.g_law_number pass0 (pa_cons (pv 0) pa_nil)))) pss_nil)
          (pss_cons (ps_if (pt_cmpR op_eq (pv 4) pe_int (nomark _)) (pss_one (ps_set (i := 7) nd rfl (.inl rfl) (pe_callB (call_max2 rfl) (by rfl) T.m_max (by decide +kernel) (pa_cons (pv 6) (pa_cons (pv 7) pa_nil))))) pss_nil)
          (pss_cons (ps_expr (pe_bm PySem.F.plainAttrs_list PySem.F.slot_list_append PySem.F.type_list_append mt_append (pv 2) (pa_cons (pv 6) pa_nil)))
          (pss_one (ps_expr (pe_bm PySem.F.plainAttrs_list PySem.F.slot_list_append PySem.F.type_list_append mt_append (pv 3) (pa_cons (pv 7) pa_nil))))))))))
      (pss_one (ps_ret (pe_lst (pa_cons (pv 2) (pa_cons (pv 3) pa_nil)))))))), ?_⟩
    refine ⟨Nat.zero_le _, fun A' hA => ?_⟩
    have nA : A' ≠ p := fun z => by rw [z, hp] at hA; cases hA
    refine ⟨Nat.zero_le _, fun B hB => ?_⟩
    have nBA : B ≠ A' := fun z => by rw [z, upd_same] at hB; cases hB
    have hB0 : H B = none := by rwa [upd_ne nBA] at hB
    have nB : B ≠ p := fun z => by rw [z, hp] at hB0; cases hB0
    have s2 : Same H (upd (upd H A' (.lst [])) B (.lst [])) := (Same.new hA).new' hB
    refine ⟨_, rfl, p, st, 2, rfl, by decide, by decide, s2 _ _ hp, ok, fun str st1 _ _ ok1 => ?_⟩
    refine ⟨_, rfl, (m : Nat), rfl, by omega, by omega, ?_⟩
    refine for_range (lo := 0) (n := ((m : Nat) : Int).toNat) (fun i σ H' => ∃ (x5 x6 x7 : Option V) (ls hs : List Int) (st' : List V), σ = [some (.ref p), some (.int (m : Nat)), some (.ref A'), some (.ref B), some (.int str), x5, x6, x7] ∧ But p H H' ∧ H' p = some (.lst st') ∧ PoolOk st' ∧ H' A' = some (.lst (ls.map V.int)) ∧ H' B = some (.lst (hs.map V.int)) ∧ ls.length = i ∧ hs.length = i ∧ (∀ x ∈ ls, 0 ≤ x ∧ x ≤ top) ∧ ∀ x ∈ hs, 0 ≤ x ∧ x ≤ top)
      ⟨_, _, _, [], [], st1, rfl, (But.of s2).trans .set, upd_same, ok1, by rw [upd_ne nA, upd_ne (Ne.symm nBA), upd_same]; rfl, by rw [upd_ne nB, upd_same]; rfl, rfl, rfl, (fun x hx => by cases hx), (fun x hx => by cases hx)⟩ ?_ ?_
    · rintro i σ H' hi ⟨x5, x6, x7, ls, hs, st', rfl, bt, hp', ok', hl, hh, l1, l2, b1, b2⟩
      refine ⟨_, rfl, p, st', rfl, hp', ok', fun low H2 st2 hlow bt2 _ hp2 ok2 => ?_⟩
      refine ⟨_, _, rfl, rfl, ⟨by decide, by decide, by decide⟩, _, rfl, _, rfl, p, st2, 4, rfl, by decide, by decide, hp2, ok2, fun d st3 d0 d1 ok3 => ⟨_, _, rfl, rfl, _, _, rfl, rfl, _, _, rfl, _, _, rfl, ?_⟩⟩
      have bt3 : But p H (upd H2 p (.lst st3)) := (bt.trans bt2).trans .set
      have hl3 : upd H2 p (.lst st3) A' = some (.lst (ls.map V.int)) := by rw [upd_ne nA]; exact bt2 _ _ nA hl
      have hh3 : upd H2 p (.lst st3) B = some (.lst (hs.map V.int)) := by rw [upd_ne nB]; exact bt2 _ _ nB hh
      have hp3 : upd H2 p (.lst st3) p = some (.lst st3) := upd_same
      generalize upd H2 p (.lst st3) = G3 at bt3 hl3 hh3 hp3 ⊢
      have hb3 := clamp (low + d - 1)
      generalize (if (if low + d - 1 > 0 then low + d - 1 else 0) < 10 ^ (30 : Int).toNat then (if low + d - 1 > 0 then low + d - 1 else 0) else 10 ^ (30 : Int).toNat) = hgh at hb3 ⊢
      refine seqQ (fun σ' H' => σ' = [some (.ref p), some (.int (m : Nat)), some (.ref A'), some (.ref B), some (.int str), some (.int (0 + ((i : Nat) : Int))), some (.int low), some (.int hgh)] ∧ G3 = H') (fun σ' H' z => ?_) (fun next => next _ _ ⟨rfl, rfl⟩)
      obtain ⟨rfl, rfl⟩ := z
      refine seqQ (fun σ' H' => ∃ (hgh : Int) (st' : List V), σ' = [some (.ref p), some (.int (m : Nat)), some (.ref A'), some (.ref B), some (.int str), some (.int (0 + ((i : Nat) : Int))), some (.int low), some (.int hgh)] ∧ (0 ≤ hgh ∧ hgh ≤ top) ∧ But p G3 H' ∧ H' p = some (.lst st') ∧ PoolOk st') (fun σ' G4 z => ?_) (fun next => ?_)
      · obtain ⟨hgh, st4, rfl, hb4, bt4, hp4, ok4⟩ := z
        refine seqQ (fun σ' H' => ∃ (hgh : Int), σ' = [some (.ref p), some (.int (m : Nat)), some (.ref A'), some (.ref B), some (.int str), some (.int (0 + ((i : Nat) : Int))), some (.int low), some (.int hgh)] ∧ (0 ≤ hgh ∧ hgh ≤ top) ∧ G4 = H') (fun σ' G5 z => ?_) (fun next => ?_)
        · obtain ⟨hgh, rfl, hb5, rfl⟩ := z
          have hl4 := bt4 _ _ nA hl3
          have hh4 := bt4 _ _ nB hh3
          refine ⟨_, rfl, .inl ⟨rfl, _, SqL.of hl4⟩, _, rfl, A', _, _, rfl, rfl, hl4, by rw [List.length_map, sizeLine_eq]; omega, ?_⟩
          have hh5 : upd G4 A' (.lst (ls.map V.int ++ [V.int low])) B = some (.lst (hs.map V.int)) := by rw [upd_ne nBA]; exact hh4
          refine ⟨_, rfl, .inl ⟨rfl, _, SqL.of hh5⟩, _, rfl, B, _, _, rfl, rfl, hh5, by rw [List.length_map, sizeLine_eq]; omega, ?_⟩
          refine ⟨_, _, _, ls ++ [low], hs ++ [hgh], st4, rfl, fun b u nb e => ?_, by rw [upd_ne (Ne.symm nB), upd_ne (Ne.symm nA)]; exact hp4, ok4, by rw [upd_ne (Ne.symm nBA), upd_same, List.map_append]; rfl, by rw [upd_same, List.map_append]; rfl, by rw [List.length_append, l1]; rfl, by rw [List.length_append, l2]; rfl, snoc_in b1 hlow, snoc_in b2 hb5⟩
          rw [upd_ne (fun z => by rw [z, hB0] at e; cases e), upd_ne (fun z => by rw [z, hA] at e; cases e)]
          exact (bt3.trans bt4) _ _ nb e
        · refine ⟨_, rfl, rfl, _, rfl, ite2 (fun _ => ?_) (fun _ => next _ _ ⟨_, rfl, hb4, rfl⟩)⟩
          refine ⟨_, rfl, _, rfl, _, _, rfl, next _ _ ⟨_, rfl, ?_, rfl⟩⟩
          split
          · exact hb4
          · exact hlow
      · refine ⟨_, rfl, p, st3, 4, rfl, by decide, by decide, hp3, ok3, fun v st4 _ _ ok4 => ⟨rfl, _, rfl, ite2 (fun _ => ?_) (fun _ => next _ _ ⟨_, st4, rfl, hb3, .set, upd_same, ok4⟩)⟩⟩
        exact ⟨_, rfl, p, st4, rfl, upd_same, ok4, fun nv H5 st5 hnv bt5 _ hp5 ok5 => next _ _ ⟨nv, st5, rfl, hnv, But.set.trans bt5, hp5, ok5⟩⟩
    · rintro σ H' ⟨x5, x6, x7, ls, hs, st', rfl, bt, hp', ok', hl, hh, l1, l2, b1, b2⟩
      refine ⟨_, rfl, _, rfl, by show 2 ≤ sizeLine; decide, fun R hR => ?_⟩
      have nR : R ≠ p := fun z => by rw [z, hp'] at hR; cases hR
      have sR := Same.new (o := .lst [V.ref A', .ref B]) hR
      exact q _ R A' B ls hs st' (bt.trans (.of sR)) (sR _ _ hp') ok' nR nA nB upd_same (sR _ _ hl) (sR _ _ hh) (by omega) (by omega) b1 b2
end
end K24

set_option maxRecDepth 100000
set_option maxHeartbeats 8000000
namespace K24
open PySem PySem.Spec PyProof.Rows L2
inductive DueM where
  | long
  | badL (i : Nat) (n : Int)
  | wrong
  | badH (i : Nat) (n : Int)
  | made
  deriving DecidableEq
def DueOk (ls hs : List Int) : DueM → Prop
  | .long => 30 < ls.length
  | .badL i n => ls.length ≤ 30 ∧ bad top 0 ls = some (i, n)
  | .wrong => ls.length ≤ 30 ∧ bad top 0 ls = none ∧ hs.length ≠ ls.length
  | .badH i n => ls.length ≤ 30 ∧ bad top 0 ls = none ∧ hs.length = ls.length ∧ bad top 0 hs = some (i, n)
  | .made => ls.length ≤ 30 ∧ bad top 0 ls = none ∧ hs.length = ls.length ∧ bad top 0 hs = none
def IsM (K : PySem.W.Frag) (H : Hp) (t : Addr) (ls hs : List Int) : DueM → Prop
  | .long => SqT K H t [.str "TooLong", .int ((ls.length : Nat) : Int), .bl true, .bl true, .bl false, .bl false]
  | .badL i n => SqT K H t [.str "BadNumber", .int ((i : Nat) : Int), .int n, .bl true, .bl true, .bl false, .bl false]
  | .wrong => SqT K H t [.str "WrongLength", .int ((hs.length : Nat) : Int), .int ((ls.length : Nat) : Int), .bl true, .bl true, .bl false, .bl false]
  | .badH i n => SqT K H t [.str "BadNumber", .int ((i : Nat) : Int), .int n, .bl true, .bl true, .bl false, .bl false]
  | .made => ∃ a b, SqT K H t [.str "made", .ref a, .ref b, .int ((ls.length : Nat) : Int)] ∧ SqT K H a (ls.map V.int) ∧ SqT K H b (hs.map V.int)
theorem IsM.same {K : PySem.W.Frag} {H H' : Hp} {t : Addr} {ls hs : List Int} {D : DueM} (h : IsM K H t ls hs D) (s : Same H H') : IsM K H' t ls hs D := by
  cases D with
  | long => exact s.seqT h
  | badL i n => exact s.seqT h
  | wrong => exact s.seqT h
  | badH i n => exact s.seqT h
  | made => exact h.elim fun a z => z.elim fun b z => ⟨a, b, s.seqT z.1, s.seqT z.2.1, s.seqT z.2.2⟩
theorem due_uniq {ls hs : List Int} {D E : DueM} (h : DueOk ls hs D) (k : DueOk ls hs E) : D = E := by
  cases D <;> cases E <;> simp only [DueOk] at h k <;> first
    | rfl
    | omega
    | (obtain ⟨h1, h2, h3, h4⟩ := h; obtain ⟨k1, k2, k3, k4⟩ := k; rw [h4] at k4; cases k4; rfl)
    | (obtain ⟨h1, h2, h3, h4⟩ := h; obtain ⟨k1, k2, k3, k4⟩ := k; rw [h4] at k4; cases k4)
    | (obtain ⟨h1, h2⟩ := h; obtain ⟨k1, k2⟩ := k; rw [h2] at k2; cases k2; rfl)
    | (obtain ⟨h1, h2⟩ := h; obtain ⟨k1, k2, k3⟩ := k; rw [h2] at k2; cases k2)
    | (obtain ⟨h1, h2, h3⟩ := h; obtain ⟨k1, k2⟩ := k; rw [h2] at k2; cases k2)
theorem eqd_atoms {K : PySem.W.Frag} {n : Nat} {H : Hp} {a b : Addr} {xs : List V} (h1 : SqT K H a xs) (h2 : SqT K H b xs) (l : xs.length ≤ 1000) (at' : ∀ x ∈ xs, Atom x) : Eqd K (n + 1) H (.ref a) (.ref b) :=
  .inr ⟨a, b, _, _, rfl, rfl, .inl ⟨h1, h2⟩, rfl, sL l, fun i u v e1 e2 => by rw [e1] at e2; cases e2; exact .atom (at' _ (List.mem_of_getElem? e1))⟩
theorem eqd_made {K : PySem.W.Frag} {H : Hp} {a b : Addr} {ls hs : List Int} (l1 : ls.length ≤ 1000) (l2 : hs.length ≤ 1000) (h1 : IsM K H a ls hs .made) (h2 : IsM K H b ls hs .made) : Eqd K 2 H (.ref a) (.ref b) := by
  obtain ⟨x, y, g1, g2, g3⟩ := h1
  obtain ⟨z, w, k1, k2, k3⟩ := h2
  exact .inr ⟨a, b, _, _, rfl, rfl, .inl ⟨g1, k1⟩, rfl, sL (by show 4 ≤ 1000; decide), fun i u v e1 e2 => by
    match i with
    | 0 => cases e1; cases e2; exact .atom (.str _)
    | 1 => cases e1; cases e2; exact Eqd.row (.inl ⟨g2, k2⟩) l1
    | 2 => cases e1; cases e2; exact Eqd.row (.inl ⟨g3, k3⟩) l2
    | 3 => cases e1; cases e2; exact .atom (.int _)
    | i + 4 => cases e1⟩
theorem eqd_due {K : PySem.W.Frag} {H : Hp} {a b : Addr} {ls hs : List Int} {D : DueM} (l1 : ls.length ≤ 1000) (l2 : hs.length ≤ 1000) (h1 : IsM K H a ls hs D) (h2 : IsM K H b ls hs D) : Eqd K 2 H (.ref a) (.ref b) := by
  cases D with
  | long => exact eqd_atoms h1 h2 (by show 6 ≤ 1000; decide) (fun x hx => by simp at hx; rcases hx with rfl | rfl | rfl | rfl <;> constructor)
  | badL i n => exact eqd_atoms h1 h2 (by show 7 ≤ 1000; decide) (fun x hx => by simp at hx; rcases hx with rfl | rfl | rfl | rfl | rfl <;> constructor)
  | wrong => exact eqd_atoms h1 h2 (by show 7 ≤ 1000; decide) (fun x hx => by simp at hx; rcases hx with rfl | rfl | rfl | rfl | rfl <;> constructor)
  | badH i n => exact eqd_atoms h1 h2 (by show 7 ≤ 1000; decide) (fun x hx => by simp at hx; rcases hx with rfl | rfl | rfl | rfl | rfl <;> constructor)
  | made => exact eqd_made l1 l2 h1 h2
section
variable {w : World} {K : PySem.W.Frag} {mg : Str → Option Value} {base : Heap}
theorem tyB (T : Tx K mg) {H : Hp} {p : Addr} {ls hs : List Int} (h : IsB K H p ls hs) : TyX K H (.ref p) (.ref (c_Bounds K)) := by
  obtain ⟨dx, t, u, h1, _⟩ := h
  exact .base (.ins h1 T.cBounds T.tBounds.ha T.tBounds.hn T.tBounds.ht T.tBounds.hm)
def spShown (K : PySem.W.Frag) : Sp := fun vs H Q _ => ∃ (p : Addr) (ls hs : List Int), vs = [.ref p] ∧ IsB K H p ls hs ∧ ∀ H' t, Same H H' → IsM K H' t ls hs .made → Q (.ref t) H'
theorem ok_law_shown (T : Tx K mg) : Ok PG w K mg base CX0 4 (a_law_shown K) p_law_shown (spShown K) := by
  refine Ok.of 3 T.f_law_shown sc_law_shown bi_law_shown (by decide) (fun vs H Q E h => ?_) (fun cdv A outer s H vs Q E hr h => ?_)
  · obtain ⟨_, _, _, rfl, _⟩ := h
    rfl
  · obtain ⟨p, ls, hs, rfl, hp, q⟩ := h
    obtain ⟨dx, t, u, h1, h2, h3, l1, _⟩ := id hp
    have nd := sc_law_shown.nd
    refine ⟨_, pss_cons (ps_if (pt_not (pt_val (pe_callB call_isi (by rfl) T.m_isinstance (by decide +kernel) (pa_cons (pv 0) (pa_cons (pgC T.gBounds) pa_nil))))) (pss_one (ps_ret (pe_tup (pa_cons pe_str pa_nil)))) pss_nil)
      (pss_one (ps_ret (pe_tup (pa_cons pe_str (pa_cons (pe_fld (pv 0) rfl) (pa_cons (pe_fld (pv 0) rfl) (pa_cons (pe_callB (cLen (ok_Bounds_len T) T.wBounds_len hr pass0) (by rfl) T.m_len PySem.boot_len (pa_cons (pv 0) pa_nil)) pa_nil))))))), ?_⟩
    refine ⟨_, rfl, _, _, _, _, true, rfl, .own _, tyB T hp, T.kBounds_Bounds, _, rfl, nope rfl ?_⟩
    refine ⟨_, rfl, p, _, dx, _, _, rfl, h1, T.cBounds, T.nBounds_lows, rfl, _, rfl, p, _, dx, _, _, rfl, h1, T.cBounds, T.nBounds_highs, rfl, _, rfl, p, dx, _, rfl, h1, p, ls, hs, rfl, hp, ls.length, rfl, by omega, by show 4 ≤ sizeLine; decide, fun x hx => ?_⟩
    have sx := Same.new (o := .tup [V.str "made", .ref t, .ref u, .int ((ls.length : Nat) : Int)]) hx
    exact q _ x sx ⟨t, u, SqT.of upd_same, sx.seqT h2, sx.seqT h3⟩
def spDueMade (K : PySem.W.Frag) : Sp := fun vs H Q _ => ∃ (a b : Addr) (ls hs : List Int), vs = [.ref a, .ref b] ∧ SqL K H a (ls.map V.int) ∧ SqL K H b (hs.map V.int) ∧ ls.length ≤ 1000 ∧ hs.length ≤ 1000 ∧ ∀ D H' t, DueOk ls hs D → Same H H' → IsM K H' t ls hs D → Q (.ref t) H'
theorem ok_law_due_made (T : Tx K mg) : Ok PG w K mg base CX0 3 (a_law_due_made K) p_law_due_made (spDueMade K) := by
  refine Ok.of 2 T.f_law_due_made sc_law_due_made bi_law_due_made (by decide) (fun vs H Q E h => ?_) (fun cdv A outer s H vs Q E hr h => ?_)
  · obtain ⟨_, _, _, _, rfl, _⟩ := h
    rfl
  · obtain ⟨a, b, ls, hs, rfl, ha, hb, l1, l2, q⟩ := h
    have nd := sc_law_due_made.nd
    have six : 6 ≤ sizeLine := by decide
    have seven : 7 ≤ sizeLine := by decide
    refine ⟨_, pss_cons (ps_if (pt_cmpR op_gt (pe_callB call_len_seq (by rfl) T.m_len PySem.boot_len (pa_cons (pv 0) pa_nil)) pe_int (nomark _)) (pss_one (ps_ret (pe_tup (pa_cons pe_str (pa_cons (pe_callB call_len_seq (by rfl) T.m_len PySem.boot_len (pa_cons (pv 0) pa_nil)) (pa_cons pe_bl (pa_cons pe_bl (pa_cons pe_bl (pa_cons pe_bl pa_nil))))))))) pss_nil)
      (pss_cons (ps_set (i := 2) nd rfl (.inl rfl) (pc (ok_law_first_bad T) hr T.g_law_first_bad pass0 (pa_cons (pv 0) pa_nil)))
      (pss_cons (ps_if (pt_cmpR op_ge (pv 2) pe_int (nomark _)) (pss_one (ps_ret (pe_tup (pa_cons pe_str (pa_cons (pv 2) (pa_cons (pe_ix ix_list (pv 0) (pv 2) (fun _ _ => rfl)) (pa_cons pe_bl (pa_cons pe_bl (pa_cons pe_bl (pa_cons pe_bl pa_nil)))))))))) pss_nil)
      (pss_cons (ps_if (pt_cmpR op_ne (pe_callB call_len_seq (by rfl) T.m_len PySem.boot_len (pa_cons (pv 1) pa_nil)) (pe_callB call_len_seq (by rfl) T.m_len PySem.boot_len (pa_cons (pv 0) pa_nil)) (nomark _)) (pss_one (ps_ret (pe_tup (pa_cons pe_str (pa_cons (pe_callB call_len_seq (by rfl) T.m_len PySem.boot_len (pa_cons (pv 1) pa_nil)) (pa_cons (pe_callB call_len_seq (by rfl) T.m_len PySem.boot_len (pa_cons (pv 0) pa_nil)) (pa_cons pe_bl (pa_cons pe_bl (pa_cons pe_bl (pa_cons pe_bl pa_nil)))))))))) pss_nil)
      (pss_cons (ps_set (i := 2) nd rfl (.inl rfl) (pc (ok_law_first_bad T) hr T.g_law_first_bad pass0 (pa_cons (pv 1) pa_nil)))
      (pss_cons (ps_if (pt_cmpR op_ge (pv 2) pe_int (nomark _)) (pss_one (ps_ret (pe_tup (pa_cons pe_str (pa_cons (pv 2) (pa_cons (pe_ix ix_list (pv 1) (pv 2) (fun _ _ => rfl)) (pa_cons pe_bl (pa_cons pe_bl (pa_cons pe_bl (pa_cons pe_bl pa_nil)))))))))) pss_nil)
      (pss_one (ps_ret (pe_tup (pa_cons pe_str (pa_cons (pe_callTy call_tuple_of (by rfl) T.m_tuple (by decide +kernel) (pa_cons (pv 0) pa_nil)) (pa_cons (pe_callTy call_tuple_of (by rfl) T.m_tuple (by decide +kernel) (pa_cons (pv 1) pa_nil)) (pa_cons (pe_callB call_len_seq (by rfl) T.m_len PySem.boot_len (pa_cons (pv 0) pa_nil)) pa_nil)))))))))))), ?_⟩
    refine ⟨_, rfl, a, _, rfl, .inl ha, _, _, rfl, rfl, _, rfl, ?_⟩
    rw [List.length_map]
    refine ite2 (fun c => ?_) (fun c => ?_)
    · refine ⟨_, rfl, a, _, rfl, .inl ha, ?_⟩
      rw [List.length_map]
      exact ⟨six, fun x hx => q .long _ x (by have := of_decide_eq_true c; show 30 < ls.length; omega) (.new hx) (SqT.of upd_same)⟩
    have c : ls.length ≤ 30 := by have := dno' c; omega
    refine ⟨_, rfl, a, ls, rfl, ha, l1, fun e1 => ?_, fun i n e1 hn => ?_⟩
    · refine ⟨_, rfl, _, _, rfl, rfl, _, rfl, nope (by decide) ?_⟩
      refine ⟨_, rfl, b, _, rfl, .inl hb, _, rfl, a, _, rfl, .inl ha, ?_⟩
      rw [List.length_map, List.length_map]
      refine ⟨rfl, _, rfl, ite2 (fun cw => ?_) (fun cw => ?_)⟩
      · have cw : hs.length ≠ ls.length := fun z => by simp [z] at cw
        refine ⟨_, rfl, b, _, rfl, .inl hb, _, rfl, a, _, rfl, .inl ha, ?_⟩
        rw [List.length_map, List.length_map]
        exact ⟨seven, fun x hx => q .wrong _ x ⟨c, e1, cw⟩ (.new hx) (SqT.of upd_same)⟩
      have cw : hs.length = ls.length := by
        have : ((hs.length : Nat) : Int) = (ls.length : Nat) := by simpa using cw
        omega
      refine ⟨_, rfl, b, hs, rfl, hb, l2, fun e2 => ?_, fun i n e2 hn => ?_⟩
      · refine ⟨_, rfl, _, _, rfl, rfl, _, rfl, nope (by decide) ?_⟩
        refine ⟨_, rfl, a, _, rfl, .inl ⟨ha, fun t ht => ?_⟩⟩
        have s1 := Same.new (o := .tup (ls.map V.int)) ht
        refine ⟨_, rfl, b, _, rfl, .inl ⟨s1.seq hb, fun u hu => ?_⟩⟩
        have s2 := s1.new' (o := .tup (hs.map V.int)) hu
        have ht2 : SqT K (upd (upd H t (.tup (ls.map V.int))) u (.tup (hs.map V.int))) t (ls.map V.int) := (Same.new hu).seqT (SqT.of upd_same)
        refine ⟨_, rfl, a, _, rfl, .inl (s2.seq ha), ?_⟩
        rw [List.length_map]
        refine ⟨by show 4 ≤ sizeLine; decide, fun x hx => q .made _ x ⟨c, e1, cw, e2⟩ (s2.new' hx) ⟨t, u, SqT.of upd_same, (Same.new hx).seqT ht2, (Same.new hx).seqT (SqT.of upd_same)⟩⟩
      · refine ⟨_, rfl, _, _, rfl, rfl, _, rfl, yep (decide_eq_true (by omega)) ?_⟩
        exact ⟨_, rfl, _, rfl, _, rfl, b, _, _, _, rfl, rfl, hb, atI_nat (by rw [List.getElem?_map, hn]; rfl), seven, fun x hx => q (.badH i n) _ x ⟨c, e1, cw, e2⟩ (.new hx) (SqT.of upd_same)⟩
    · refine ⟨_, rfl, _, _, rfl, rfl, _, rfl, yep (decide_eq_true (by omega)) ?_⟩
      exact ⟨_, rfl, _, rfl, _, rfl, a, _, _, _, rfl, rfl, ha, atI_nat (by rw [List.getElem?_map, hn]; rfl), seven, fun x hx => q (.badL i n) _ x ⟨c, e1⟩ (.new hx) (SqT.of upd_same)⟩
end
end K24

set_option maxRecDepth 100000
set_option maxHeartbeats 4000000
/-! # o.m(e, ..) in a try's body -/
namespace L2
open PySem PySem.Spec PyProof.Rows
section
variable {X : Cx} {CX : CXT} {k : Nat} {f C : Addr} {ps : List Str} {sp : Sp} {E : St → XK} {m : Str} {p apos pos : Pos} {o e : Expr} {es : List Expr} {ta : TE} {t : TA}
def tMethSS (C : Addr) (m : Str) (sp : Sp) (E : St → XK) (ta : TE) (t : TA) : TE := fun σ H Q => ta σ H fun x H1 => ∃ a dx fs, x = .ref a ∧ H1 a = some (.ins C dx fs) ∧ fs.lookup m = none ∧
  t σ H1 fun vs H2 => sp (x :: vs) H2 Q (E σ)
theorem pmethSS {pl : Sem Bool} (O : Ok X.prog X.w X.K X.mg X.base CX k f ps sp) (he : PE X o ta) (c : Cls X.K C) (hm : Meth X.K C m f) (hr : Room k X.A) (hx : ∀ σ, PassesAt CX X σ (E σ)) (ha : PA X (e :: es) t)
    (hst : starEach (e :: es) X.env = (false, eval e X.env) :: starEach es X.env := by rfl) (hpl : (backTo pos (starEach es X.env)).any (·.1) = false := by rfl)
    (ht : eval (.Call (.Attribute o m apos) (e :: es) [] pos) X.env = (do
      let ov ← eval o X.env
      standAt apos.atName
      let (f, first) ← holding [ov] (getMethod ov m pl)
      callWith pos f first (backTo pos (starEach (e :: es) X.env)) (backToKw pos (keywordEach [] X.env))) := by rfl) :
    PE X (.Call (.Attribute o m apos) (e :: es) [] pos) (tMethSS C m sp E ta t) := by
  obtain ⟨fd, F, hb, _⟩ := O.ex
  refine ⟨fun pins s σ H Q I h => ?_⟩
  refine PySem.W.methodCall_KW (pl := pl) (thn (he.run pins s σ H _ I h) fun u s1 ⟨x, H1, I1, rx, a, dx, fs, ex, ea, l, q⟩ => ?_) ht
  subst ex
  obtain rfl : u = Value.ref a := rx
  refine getmeth_ok I1 ea c hm l ?_
  refine PySem.W.callWith_K (first := [.ref a]) (h₀ := X.base) I.ok.mod.kin hm.kp (thn (ha.run pos pins s1 σ H1 _ I1 q) fun us s2 ⟨vs, H2, I2, r, q2⟩ => ⟨I2.kIn, ?_⟩) hst hpl
  exact run_fnS (us := .ref a :: us) (vs := .ref a :: vs) F hr hb (hx σ) I2 (.cons rfl r) q2
end
end L2

set_option maxRecDepth 100000
set_option maxHeartbeats 4000000
/-! # in a try's body: a op b of one own class, C(..), C.m(..) -/
namespace L2
open PySem PySem.Spec PyProof.Rows
section
variable {X : Cx} {CX : CXT} {k : Nat} {f C g p' : Addr} {mc : Value} {ps : List Str} {sp : Sp} {E : St → XK} {x m : Str} {p pos apos : Pos} {e o a b : Expr} {es : List Expr} {ta tb : TE} {t : TA} {op : Operator} {pl : Sem Bool}
def tOwnOS (C : Addr) (sp : Sp) (E : St → XK) (ta tb : TE) : TE := fun σ H Q => ta σ H fun x H1 => tb σ H1 fun y H2 => rOwnOp C sp (E σ) x y H2 Q
theorem peOwnOS (O : Ok X.prog X.w X.K X.mg X.base CX k f ps sp) (W : OwnOp X.K C op f) (hr : Room k X.A) (hx : ∀ σ, PassesAt CX X σ (E σ)) (ha : PE X a ta) (hb : PE X b tb) : PE X (.BinOp a op b pos) (tOwnOS C sp E ta tb) := by
  obtain ⟨fd, F, bn, _⟩ := O.ex
  refine ⟨fun pins s σ H Q I h => wpAny_BinOp (binT ha hb I h fun v u s2 x y H2 I2 rx ry q => ?_)⟩
  obtain ⟨a, dx, fs, b, dy, gs, rfl, rfl, ha, hb', hsp⟩ := q
  cases rx
  cases ry
  obtain ⟨od, J⟩ := inst_of I2.hok ha
  obtain ⟨od', J'⟩ := inst_of I2.hok hb'
  obtain ⟨m, hF⟩ := I2.fr
  refine PySem.W.binop_K hF I2.ok.mod.kin J J'.type W.first W.at_ W.fn (wpAny_mono (run_fnS F hr bn (hx σ) I2 (us := [.ref a, .ref b]) (vs := [.ref a, .ref b]) (.cons rfl (.cons rfl .nil)) hsp) (fun r s' q => back_of q) fun _ _ z => z)
def tMakeS (C : Addr) (sp : Sp) (E : St → XK) (t : TA) : TE := fun σ H Q => t σ H fun vs H1 => ∀ x dx, H1 x = none → H1 dx = none → dx ≠ x → sp (.ref x :: vs) (upd (upd H1 dx (.own x)) x (.ins C dx [])) (fun v H2 => v = .non ∧ Q (.ref x) H2) (E σ)
theorem pmkS (O : Ok X.prog X.w X.K X.mg X.base CX k f ps sp) (M : Mk X.K C f) (hr : Room (k + 1) X.A) (hm : X.mg x = some (.ref C)) (hx : ∀ σ, PassesAt CX X σ (E σ)) (ha : PA X (e :: es) t) (hg : Gl X x := by rfl) (hdb : (x == ("__debug__" : Str)) = false := by decide)
    (he : starEach (e :: es) X.env = (false, eval e X.env) :: starEach es X.env := by rfl) (hpl : (backTo pos (starEach es X.env)).any (·.1) = false := by rfl) :
    PE X (.Call (.Name x p) (e :: es) [] pos) (tMakeS C sp E t) := by
  obtain ⟨fd, F, hb, _⟩ := O.ex
  refine ⟨fun pins s σ H Q I h => ?_⟩
  refine wpAny_Call_Name_kw (ld_glob I hg hm ?_ hdb)
  refine PySem.W.callWith_K (h₀ := X.base) I.ok.mod.kin M.kp (thn (ha.run pos pins s σ H _ I h) fun us s ⟨vs, H, I, r, h⟩ => ⟨I.kIn, ?_⟩) he hpl
  have hq := h (s.heap.objs.size + 1) s.heap.objs.size (I.hok.fresh (Nat.le_succ _)) (I.hok.fresh (Nat.le_refl _)) (Nat.ne_of_lt (Nat.lt_succ_self _))
  have I2 := Inv.made (C := C) I
  have r2 : Vals (V.ref (s.heap.objs.size + 1) :: (vs ++ [])) (Value.ref (s.heap.objs.size + 1) :: (us ++ [])) := .cons rfl (r.append .nil)
  rw [List.append_nil] at r2
  have hl : (Value.ref (s.heap.objs.size + 1) :: us ++ []).length = ps.length := by
    have e := r2.length
    rw [F.len _ _ _ _ hq] at e
    exact e.symm
  refine wpAny_call (make_map (f := f) I.kIn M.makes M.init (beq_iff_eq.mp M.fn) (codeAny_mono (F.run _ X.stack _ _ ⟨Value.ref (s.heap.objs.size + 1) :: us, []⟩ (Value.ref (s.heap.objs.size + 1) :: (us ++ [])) _ _ (E σ) (hr.make C us [])
    (I2.env0.make C us []) (by have z := hb _ (Value.ref (s.heap.objs.size + 1) :: us) I2.kIn hl; rwa [List.cons_append] at z) r2 hq) fun r s' hq' => ?_))
  cases r with
  | error e => exact hx σ pins _ _ e s' I2 hq'
  | ok fl =>
    cases fl with
    | ret u =>
      obtain ⟨v, H', I3, rv, ev, q3⟩ := I2.after hq'
      subst ev
      exact ⟨rv, ⟨V.ref (s.heap.objs.size + 1), H', I3, rfl, q3⟩⟩
    | next => exact False.elim hq'
    | brk => exact False.elim hq'
    | cont => exact False.elim hq'
def tCMethS (C : Addr) (sp : Sp) (E : St → XK) (ta : TE) (t : TA) : TE := fun σ H Q => ta σ H fun x H1 => x = .ref C ∧ t σ H1 fun vs H2 => sp (.ref C :: vs) H2 Q (E σ)
theorem pcmS (O : Ok X.prog X.w X.K X.mg X.base CX k g ps sp) (he : PE X o ta) (r : ClX.CRead X.K C mc) (c : ClX.CMet X.K C mc m p' g) (hr : Room k X.A) (hx : ∀ σ, PassesAt CX X σ (E σ)) (ha : PA X (e :: es) t)
    (hst : starEach (e :: es) X.env = (false, eval e X.env) :: starEach es X.env := by rfl) (hpl : (backTo pos (starEach es X.env)).any (·.1) = false := by rfl)
    (ht : eval (.Call (.Attribute o m apos) (e :: es) [] pos) X.env = (do
      let ov ← eval o X.env
      standAt apos.atName
      let (f, first) ← holding [ov] (getMethod ov m pl)
      callWith pos f first (backTo pos (starEach (e :: es) X.env)) (backToKw pos (keywordEach [] X.env))) := by rfl) :
    PE X (.Call (.Attribute o m apos) (e :: es) [] pos) (tCMethS C sp E ta t) := by
  obtain ⟨fd, F, hb, _⟩ := O.ex
  refine ⟨fun pins s σ H Q I h => ?_⟩
  refine PySem.W.methodCall_KW (pl := pl) (thn (he.run pins s σ H _ I h) fun u s1 ⟨x, H1, I1, rx, ex, q⟩ => ?_) ht
  subst ex
  obtain rfl : u = Value.ref C := rx
  refine ClX.getmethcm_ok I1 r c fun s2 I2 => ?_
  refine ClX.callwith_cm I2 (ClX.base_none I1 (Nat.le_refl _)) c.fi (thn (ha.run pos _ s2 σ H1 _ I2 q) fun us s3 ⟨vs, H2, I3, rv, q2⟩ => ⟨⟨ClX.pin_at I3, I3.kIn⟩, ?_⟩) hst hpl
  have r2 : Vals (V.ref C :: vs) (Value.ref C :: us) := .cons rfl rv
  have hl : (Value.ref C :: us).length = ps.length := by rw [← r2.length]; exact F.len _ _ _ _ q2
  have b := hb s3 (Value.ref C :: us) I3.kIn (by rw [List.append_nil]; exact hl)
  rw [List.append_nil] at b
  have z : wpAny (model X.prog X.w) X.A (call (.ref s1.heap.objs.size) us) (EP X ((s1.heap.objs.size, PySem.W.methodObj (.ref g) (.ref C)) :: pins) σ Q) X.xe s3 := by
   refine wpAny_call (PySem.W.method_call (ClX.pin_at I3) (codeAny_mono (F.run X.A X.stack s3 H2 ⟨Value.ref C :: us, []⟩ (Value.ref C :: us) (V.ref C :: vs) Q (E σ) hr I3.env0 b r2 q2) fun r s' hq => ?_))
   cases r with
   | error e => exact hx σ _ H2 s3 e s' I3 hq
   | ok fl =>
     cases fl with
     | ret u => exact I3.after hq
     | next => exact False.elim hq
     | brk => exact False.elim hq
     | cont => exact False.elim hq
  exact thn z fun _ _ y => ClX.unpinE y
end
end L2

set_option maxRecDepth 100000
set_option maxHeartbeats 8000000
namespace K24
open PySem PySem.Spec PyProof.Rows L2
section
variable {w : World} {K : PySem.W.Frag} {mg : Str → Option Value} {base : Heap}
theorem mk_boxP {H : Hp} {a b : Addr} {ls hs : List Int} {Q2 : VK} {E : XK} (ha : SqA K H a (ls.map V.int)) (hb : SqA K H b (hs.map V.int)) (er : BErr K ls hs H E) (x dx : Addr) (hx : H x = none) (hdx : H dx = none) (hne : dx ≠ x)
    (q : ls.length ≤ 30 → bad top 0 ls = none → hs.length = ls.length → bad top 0 hs = none → ∀ H', Same H H' → IsB K H' x ls hs → Q2 .non H') : spBInit K ([.ref x, .ref a, .ref b]) (upd (upd H dx (.own x)) x (.ins (c_Bounds K) dx [])) Q2 E := by
  have s1 : Same H (upd (upd H dx (.own x)) x (.ins (c_Bounds K) dx [])) := (Same.new hdx).new' (by rw [upd_ne (Ne.symm hne)]; exact hx)
  refine ⟨x, a, b, dx, ls, hs, rfl, upd_same, s1.seqA ha, s1.seqA hb, er.same s1, fun l b1 c b2 H' t u s2 ht hu => ?_⟩
  have hx' : H' x = some (.ins (c_Bounds K) dx []) := s2 _ _ upd_same
  have ms : Same H (upd H' x (.ins (c_Bounds K) dx [("lows", .ref t), ("highs", .ref u)])) := fun b o q => by
    have : b ≠ x := fun z => by rw [z, hx] at q; cases q
    rw [upd_ne this]
    exact s2 _ _ (s1 _ _ q)
  exact q l b1 c b2 _ ms ⟨dx, t, u, upd_same, sqT_ins ht hx', sqT_ins hu hx', l, c, b1, b2⟩
/-- what a new box is asked -/
def GoodB (K : PySem.W.Frag) (ls hs : List Int) (H : Hp) (Q : VK) : Prop := ls.length ≤ 30 → bad top 0 ls = none → hs.length = ls.length → bad top 0 hs = none → ∀ H' r, Same H H' → IsB K H' r ls hs → Q (.ref r) H'
def spExact (K : PySem.W.Frag) : Sp := fun vs H Q E => ∃ (a : Addr) (ls : List Int), vs = [.ref (c_Bounds K), .ref a] ∧ SqA K H a (ls.map V.int) ∧ BErr K ls ls H E ∧ GoodB K ls ls H Q
theorem ok_Bounds_exact (T : Tx K mg) : Ok PG w K mg base (L2.CX PG w) 6 (a_Bounds_exact K) p_Bounds_exact (spExact K) := by
  refine Ok.of 5 T.f_Bounds_exact sc_Bounds_exact bi_Bounds_exact (by decide) (fun vs H Q E h => ?_) (fun cdv A outer s H vs Q E hr h => ?_)
  · obtain ⟨_, _, rfl, _⟩ := h
    rfl
  · obtain ⟨a, ls, rfl, ha, er, q⟩ := h
    refine ⟨_, pss_one (ps_ret (pmkL (i := 0) (ok_Bounds_init T) T.kBounds (hr.mono (by decide)) rfl (.inl rfl) px (pa_cons (pv 1) (pa_cons (pv 1) pa_nil)))), ?_⟩
    exact ⟨rfl, _, rfl, _, rfl, mk_box ha ha er q⟩
def spUpTo (K : PySem.W.Frag) : Sp := fun vs H Q E => ∃ (n : Nat) (m : Int), vs = [.ref (c_Bounds K), .int (n : Nat), .int m] ∧ n ≤ 1000 ∧ BErr K (List.replicate n 0) (List.replicate n m) H E ∧ GoodB K (List.replicate n 0) (List.replicate n m) H Q
theorem ok_Bounds_up_to (T : Tx K mg) : Ok PG w K mg base (L2.CX PG w) 6 (a_Bounds_up_to K) p_Bounds_up_to (spUpTo K) := by
  refine Ok.of 5 T.f_Bounds_up_to sc_Bounds_up_to bi_Bounds_up_to (by decide) (fun vs H Q E h => ?_) (fun cdv A outer s H vs Q E hr h => ?_)
  · obtain ⟨_, _, rfl, _⟩ := h
    rfl
  · obtain ⟨n, m, rfl, ln, er, q⟩ := h
    have nd := sc_Bounds_up_to.nd
    obtain ⟨_, cv_MOST_PEOPLE⟩ := T.v_MOST_PEOPLE
    refine ⟨_, pss_cons (ps_expr (pc (ok_check_count T) (hr.mono (by decide)) T.g_check_count px (pa_cons (pv 1) (pa_cons (pe_glob (v := .int 30) rfl cv_MOST_PEOPLE ⟨_, rfl⟩) pa_nil))))
      (pss_one (ps_ret (pmkL (i := 0) (ok_Bounds_init T) T.kBounds (hr.mono (by decide)) rfl (.inl rfl) px (pa_cons (pe_op op_rep (pe_lst (pa_cons pe_int pa_nil)) (pv 1)) (pa_cons (pe_op op_rep (pe_lst (pa_cons (pv 2) pa_nil)) (pv 1)) pa_nil))))), ?_⟩
    refine ⟨_, rfl, (n : Nat), _, rfl, fun c => ?_, fun c => ?_⟩
    · have z := er.long (by rw [List.length_replicate]; omega)
      rw [List.length_replicate] at z
      exact z
    · have one : 1 ≤ sizeLine := by decide
      refine ⟨rfl, one, fun z hz => ?_⟩
      have s1 := Same.new (o := .lst [V.int 0]) hz
      refine ⟨_, rfl, z, (n : Nat), _, rfl, rfl, upd_same, by omega, by omega, by rw [sizeLine_eq]; show 1 * _ ≤ _; omega, fun A' hA => ?_⟩
      rw [flat_one]
      have s2 := s1.new' (o := .lst (List.replicate ((n : Nat) : Int).toNat (V.int 0))) hA
      refine ⟨_, rfl, one, fun y hy => ?_⟩
      have s3 := Same.new (o := .lst [V.int m]) hy
      refine ⟨_, rfl, y, (n : Nat), _, rfl, rfl, upd_same, by omega, by omega, by rw [sizeLine_eq]; show 1 * _ ≤ _; omega, fun B hB => ?_⟩
      rw [flat_one]
      have s4 := s3.new' (o := .lst (List.replicate ((n : Nat) : Int).toNat (V.int m))) hB
      have hA4 := s4 _ _ (show upd (upd H z (.lst [V.int 0])) A' (.lst (List.replicate ((n : Nat) : Int).toNat (V.int 0))) A' = _ from upd_same)
      have e1 : List.replicate ((n : Nat) : Int).toNat (V.int 0) = (List.replicate n (0 : Int)).map V.int := by simp
      have e2 : List.replicate ((n : Nat) : Int).toNat (V.int m) = (List.replicate n m).map V.int := by simp
      have s24 := s2.trans s4
      refine mk_box (.inl (SqL.of (by rw [← e1]; exact hA4))) (.inl (SqL.of (by rw [← e2]; exact upd_same))) (er.same s24) fun b1 b2 b3 b4 H' r sm hb => q b1 b2 b3 b4 H' r (s24.trans sm) hb
/-- what the three ways of making are handed -/
def MadeArgs (K : PySem.W.Frag) (H : Hp) (way : Int) (x y : V) (ls hs : List Int) : Prop :=
  (way = 0 ∧ ∃ a b, x = .ref a ∧ y = .ref b ∧ SqA K H a (ls.map V.int) ∧ SqA K H b (hs.map V.int)) ∨ (way = 1 ∧ hs = ls ∧ ∃ a, x = .ref a ∧ SqA K H a (ls.map V.int)) ∨ (way = 2 ∧ ∃ (n : Nat) (m : Int), n ≤ 1000 ∧ x = .int (n : Nat) ∧ y = .int m ∧ ls = List.replicate n 0 ∧ hs = List.replicate n m)
def spTryMade (K : PySem.W.Frag) : Sp := fun vs H Q _ => ∃ (way : Int) (x y : V) (ls hs : List Int), vs = [.int way, x, y] ∧ MadeArgs K H way x y ls hs ∧ ∀ D H' t, DueOk ls hs D → Same H H' → IsM K H' t ls hs D → Q (.ref t) H'
theorem ok_law_try_made (T : Tx K mg) : Ok PG w K mg base CX0 8 (a_law_try_made K) p_law_try_made (spTryMade K) := by
  obtain ⟨_, cEx⟩ := T.wBounds_exact
  obtain ⟨_, cUp⟩ := T.wBounds_up_to
  refine Ok.of 7 T.f_law_try_made sc_law_try_made bi_law_try_made (by decide) (fun vs H Q E h => ?_) (fun cdv A outer s H vs Q E hr h => ?_)
  · obtain ⟨_, _, _, _, _, rfl, _⟩ := h
    rfl
  · obtain ⟨way, x, y, ls, hs, rfl, ar, q⟩ := h
    have nd := sc_law_try_made.nd
    have six : 6 ≤ sizeLine := by decide
    have seven : 7 ≤ sizeLine := by decide
    refine ⟨_, pss_cons (ps_set (i := 3) nd rfl (.inl rfl) pe_non)
      (pss_cons (ps_set (i := 4) nd rfl (.inl rfl) (pe_tup (pa_cons pe_str pa_nil)))
      (pss_cons (ps_try_any rfl rfl nd takes0
          (fun W pn xe tk _ => (pss_one (ps_if (pt_cmpR op_eq (pv 0) pe_int (nomark _)) (pss_one (ps_set (i := 3) nd rfl (.inl rfl) (pmkS (ok_Bounds_init T) T.kBounds (hr.mono (by decide)) T.gBounds (fun σ => passAt tk σ) (pa_cons (pv 1) (pa_cons (pv 2) pa_nil))))) (pss_one (ps_if (pt_cmpR op_eq (pv 0) pe_int (nomark _)) (pss_one (ps_set (i := 3) nd rfl (.inl rfl) (pcmS (ok_Bounds_exact T) (pgC T.gBounds) T.rBounds cEx (hr.mono (by decide)) (fun σ => passAt tk σ) (pa_cons (pv 1) pa_nil)))) (pss_one (ps_set (i := 3) nd rfl (.inl rfl) (pcmS (ok_Bounds_up_to T) (pgC T.gBounds) T.rBounds cUp (hr.mono (by decide)) (fun σ => passAt tk σ) (pa_cons (pv 1) (pa_cons (pv 2) pa_nil))))))))))
          (.as (i := 5) ⟨rfl, by decide, .inl T.e_TooLong.gC⟩ rfl rfl (fun a oe cls d pn hz hf => (pss_one (ps_set (i := 4) nd rfl (.inl rfl) (pe_tup (pa_cons pe_str (pa_cons (pe_xf T.xTooLong.1 T.nTooLong_count hz hf (pv 5)) (pa_cons (pe_callB (call_isD T.xTooLong.2 hz hf) (by rfl) T.m_isinstance (by decide +kernel) (pa_cons (pv 5) (pa_cons (pgC T.gNightsError) pa_nil))) (pa_cons (pe_callB (call_isD T.xTooLong.2 hz hf) (by rfl) T.m_isinstance (by decide +kernel) (pa_cons (pv 5) (pa_cons (pe_bltn (v := .ty "ValueError") (by rfl) T.m_ValueError (by decide +kernel) rfl) pa_nil))) (pa_cons (pe_callB (call_isD T.xTooLong.2 hz hf) (by rfl) T.m_isinstance (by decide +kernel) (pa_cons (pv 5) (pa_cons (pgC T.e_BadNumber.gC) pa_nil))) (pa_cons (pe_callB (call_isD T.xTooLong.2 hz hf) (by rfl) T.m_isinstance (by decide +kernel) (pa_cons (pv 5) (pa_cons (pgC T.e_WrongLength.gC) pa_nil))) pa_nil))))))))))
          (.as (i := 5) ⟨rfl, by decide, .inl T.e_BadNumber.gC⟩ rfl rfl (fun a oe cls d pn hz hf => (pss_one (ps_set (i := 4) nd rfl (.inl rfl) (pe_tup (pa_cons pe_str (pa_cons (pe_xf T.xBadNumber.1 T.nBadNumber_place hz hf (pv 5)) (pa_cons (pe_xf T.xBadNumber.1 T.nBadNumber_number hz hf (pv 5)) (pa_cons (pe_callB (call_isD T.xBadNumber.2 hz hf) (by rfl) T.m_isinstance (by decide +kernel) (pa_cons (pv 5) (pa_cons (pgC T.gNightsError) pa_nil))) (pa_cons (pe_callB (call_isD T.xBadNumber.2 hz hf) (by rfl) T.m_isinstance (by decide +kernel) (pa_cons (pv 5) (pa_cons (pe_bltn (v := .ty "ValueError") (by rfl) T.m_ValueError (by decide +kernel) rfl) pa_nil))) (pa_cons (pe_callB (call_isD T.xBadNumber.2 hz hf) (by rfl) T.m_isinstance (by decide +kernel) (pa_cons (pv 5) (pa_cons (pgC T.e_TooLong.gC) pa_nil))) (pa_cons (pe_callB (call_isD T.xBadNumber.2 hz hf) (by rfl) T.m_isinstance (by decide +kernel) (pa_cons (pv 5) (pa_cons (pgC T.e_WrongLength.gC) pa_nil))) pa_nil)))))))))))
          (.as (i := 5) ⟨rfl, by decide, .inl T.e_WrongLength.gC⟩ rfl rfl (fun a oe cls d pn hz hf => (pss_one (ps_set (i := 4) nd rfl (.inl rfl) (pe_tup (pa_cons pe_str (pa_cons (pe_xf T.xWrongLength.1 T.nWrongLength_found hz hf (pv 5)) (pa_cons (pe_xf T.xWrongLength.1 T.nWrongLength_wanted hz hf (pv 5)) (pa_cons (pe_callB (call_isD T.xWrongLength.2 hz hf) (by rfl) T.m_isinstance (by decide +kernel) (pa_cons (pv 5) (pa_cons (pgC T.gNightsError) pa_nil))) (pa_cons (pe_callB (call_isD T.xWrongLength.2 hz hf) (by rfl) T.m_isinstance (by decide +kernel) (pa_cons (pv 5) (pa_cons (pe_bltn (v := .ty "ValueError") (by rfl) T.m_ValueError (by decide +kernel) rfl) pa_nil))) (pa_cons (pe_callB (call_isD T.xWrongLength.2 hz hf) (by rfl) T.m_isinstance (by decide +kernel) (pa_cons (pv 5) (pa_cons (pgC T.e_TooLong.gC) pa_nil))) (pa_cons (pe_callB (call_isD T.xWrongLength.2 hz hf) (by rfl) T.m_isinstance (by decide +kernel) (pa_cons (pv 5) (pa_cons (pgC T.e_BadNumber.gC) pa_nil))) pa_nil)))))))))))
          .nil))))
      (pss_cons (ps_if (pt_cmpR op_notN (pv 3) pe_non (nomark _)) (pss_one (ps_set (i := 4) nd rfl (.inl rfl) (pc (ok_law_shown T) (hr.mono (by decide)) T.g_law_shown pass0 (pa_cons (pv 3) pa_nil)))) pss_nil)
      (pss_one (ps_ret (pv 4)))))), ?_⟩
    refine ⟨by show 1 ≤ sizeLine; decide, fun wd hwd => ?_⟩
    have s1 : Same H (upd H wd (.tup [.str "none"])) := .new hwd
    rcases ar with ⟨rfl, a, b, rfl, rfl, ha, hb0⟩ | ⟨rfl, rfl, a, rfl, ha⟩ | ⟨rfl, n0, m0, ln, rfl, rfl, el, eh⟩
    · refine ⟨_, rfl, rfl, _, rfl, yep rfl ?_⟩
      refine ⟨_, rfl, _, rfl, fun q1 q2 g1 g2 g3 => ?_⟩
      refine mk_boxP (s1.seqA ha) (s1.seqA hb0) ⟨fun c1 => ?_, fun c1 i n c2 => ?_, fun c1 c2 c3 => ?_, fun c1 c2 c3 i n c4 => ?_⟩ q1 q2 g1 g2 g3 (fun b1 b2 b3 b4 H' sm hb => ⟨rfl, ?_⟩)
      · intro H' d sm hd
        have s2 : Same H (upd H' d (xT ls.length)) := (s1.trans sm).new' hd
        refine ⟨true, T.mTooLong_TooLong, fun _ x hx => ?_, fun z => nomatch z⟩
        refine ⟨_, rfl, rfl, rfl, d, _, _, rfl, upd_same, rfl, ?_⟩
        refine ⟨_, rfl, rfl, _, _, true, d, _, rfl, fun u r => r, rfl, upd_same, T.kTooLong_NightsError, ?_⟩
        refine ⟨_, rfl, rfl, _, _, true, d, _, rfl, fun u r => r, rfl, upd_same, T.kTooLong_ValueError, ?_⟩
        refine ⟨_, rfl, rfl, _, _, false, d, _, rfl, fun u r => r, rfl, upd_same, T.kTooLong_BadNumber, ?_⟩
        refine ⟨_, rfl, rfl, _, _, false, d, _, rfl, fun u r => r, rfl, upd_same, T.kTooLong_WrongLength, ?_⟩
        refine ⟨six, fun w2 hw2 => ?_⟩
        refine ⟨_, rfl, rfl, _, rfl, iteF ?_⟩
        exact ⟨_, rfl, q .long _ w2 c1 (s2.new' hw2) (SqT.of upd_same)⟩
      · intro H' d sm hd
        have s2 : Same H (upd H' d (xB (i : Nat) n)) := (s1.trans sm).new' hd
        refine ⟨false, T.mBadNumber_TooLong, ⟨fun z => Bool.noConfusion z, fun _ => ⟨true, T.mBadNumber_BadNumber, fun _ x hx => ?_, fun z => nomatch z⟩⟩⟩
        refine ⟨_, rfl, rfl, rfl, d, _, _, rfl, upd_same, rfl, ?_⟩
        refine ⟨_, rfl, rfl, rfl, d, _, _, rfl, upd_same, rfl, ?_⟩
        refine ⟨_, rfl, rfl, _, _, true, d, _, rfl, fun u r => r, rfl, upd_same, T.kBadNumber_NightsError, ?_⟩
        refine ⟨_, rfl, rfl, _, _, true, d, _, rfl, fun u r => r, rfl, upd_same, T.kBadNumber_ValueError, ?_⟩
        refine ⟨_, rfl, rfl, _, _, false, d, _, rfl, fun u r => r, rfl, upd_same, T.kBadNumber_TooLong, ?_⟩
        refine ⟨_, rfl, rfl, _, _, false, d, _, rfl, fun u r => r, rfl, upd_same, T.kBadNumber_WrongLength, ?_⟩
        refine ⟨seven, fun w2 hw2 => ?_⟩
        refine ⟨_, rfl, rfl, _, rfl, iteF ?_⟩
        exact ⟨_, rfl, q (.badL i n) _ w2 ⟨c1, c2⟩ (s2.new' hw2) (SqT.of upd_same)⟩
      · intro H' d sm hd
        have s2 : Same H (upd H' d (xL hs.length ls.length)) := (s1.trans sm).new' hd
        refine ⟨false, T.mWrongLength_TooLong, ⟨fun z => Bool.noConfusion z, fun _ => ⟨false, T.mWrongLength_BadNumber, ⟨fun z => Bool.noConfusion z, fun _ => ⟨true, T.mWrongLength_WrongLength, fun _ x hx => ?_, fun z => nomatch z⟩⟩⟩⟩⟩
        refine ⟨_, rfl, rfl, rfl, d, _, _, rfl, upd_same, rfl, ?_⟩
        refine ⟨_, rfl, rfl, rfl, d, _, _, rfl, upd_same, rfl, ?_⟩
        refine ⟨_, rfl, rfl, _, _, true, d, _, rfl, fun u r => r, rfl, upd_same, T.kWrongLength_NightsError, ?_⟩
        refine ⟨_, rfl, rfl, _, _, true, d, _, rfl, fun u r => r, rfl, upd_same, T.kWrongLength_ValueError, ?_⟩
        refine ⟨_, rfl, rfl, _, _, false, d, _, rfl, fun u r => r, rfl, upd_same, T.kWrongLength_TooLong, ?_⟩
        refine ⟨_, rfl, rfl, _, _, false, d, _, rfl, fun u r => r, rfl, upd_same, T.kWrongLength_BadNumber, ?_⟩
        refine ⟨seven, fun w2 hw2 => ?_⟩
        refine ⟨_, rfl, rfl, _, rfl, iteF ?_⟩
        exact ⟨_, rfl, q .wrong _ w2 ⟨c1, c2, c3⟩ (s2.new' hw2) (SqT.of upd_same)⟩
      · intro H' d sm hd
        have s2 : Same H (upd H' d (xB (i : Nat) n)) := (s1.trans sm).new' hd
        refine ⟨false, T.mBadNumber_TooLong, ⟨fun z => Bool.noConfusion z, fun _ => ⟨true, T.mBadNumber_BadNumber, fun _ x hx => ?_, fun z => nomatch z⟩⟩⟩
        refine ⟨_, rfl, rfl, rfl, d, _, _, rfl, upd_same, rfl, ?_⟩
        refine ⟨_, rfl, rfl, rfl, d, _, _, rfl, upd_same, rfl, ?_⟩
        refine ⟨_, rfl, rfl, _, _, true, d, _, rfl, fun u r => r, rfl, upd_same, T.kBadNumber_NightsError, ?_⟩
        refine ⟨_, rfl, rfl, _, _, true, d, _, rfl, fun u r => r, rfl, upd_same, T.kBadNumber_ValueError, ?_⟩
        refine ⟨_, rfl, rfl, _, _, false, d, _, rfl, fun u r => r, rfl, upd_same, T.kBadNumber_TooLong, ?_⟩
        refine ⟨_, rfl, rfl, _, _, false, d, _, rfl, fun u r => r, rfl, upd_same, T.kBadNumber_WrongLength, ?_⟩
        refine ⟨seven, fun w2 hw2 => ?_⟩
        refine ⟨_, rfl, rfl, _, rfl, iteF ?_⟩
        exact ⟨_, rfl, q (.badH i n) _ w2 ⟨c1, c2, c3, c4⟩ (s2.new' hw2) (SqT.of upd_same)⟩
      · refine ⟨_, rfl, rfl, _, rfl, iteT ?_⟩
        exact ⟨_, rfl, q1, ls, hs, rfl, hb, fun H2 t s2 ht => ⟨_, rfl, q .made _ t ⟨b1, b2, b3, b4⟩ ((s1.trans sm).trans s2) ht⟩⟩
    · refine ⟨_, rfl, rfl, _, rfl, nope (by decide) ?_⟩
      refine ⟨_, rfl, rfl, _, rfl, yep rfl ?_⟩
      refine ⟨rfl, _, rfl, a, hs, rfl, s1.seqA ha, ⟨fun c1 => ?_, fun c1 i n c2 => ?_, fun c1 c2 c3 => ?_, fun c1 c2 c3 i n c4 => ?_⟩, fun b1 b2 b3 b4 H' r sm hb => ?_⟩
      · intro H' d sm hd
        have s2 : Same H (upd H' d (xT hs.length)) := (s1.trans sm).new' hd
        refine ⟨true, T.mTooLong_TooLong, fun _ x hx => ?_, fun z => nomatch z⟩
        refine ⟨_, rfl, rfl, rfl, d, _, _, rfl, upd_same, rfl, ?_⟩
        refine ⟨_, rfl, rfl, _, _, true, d, _, rfl, fun u r => r, rfl, upd_same, T.kTooLong_NightsError, ?_⟩
        refine ⟨_, rfl, rfl, _, _, true, d, _, rfl, fun u r => r, rfl, upd_same, T.kTooLong_ValueError, ?_⟩
        refine ⟨_, rfl, rfl, _, _, false, d, _, rfl, fun u r => r, rfl, upd_same, T.kTooLong_BadNumber, ?_⟩
        refine ⟨_, rfl, rfl, _, _, false, d, _, rfl, fun u r => r, rfl, upd_same, T.kTooLong_WrongLength, ?_⟩
        refine ⟨six, fun w2 hw2 => ?_⟩
        refine ⟨_, rfl, rfl, _, rfl, iteF ?_⟩
        exact ⟨_, rfl, q .long _ w2 c1 (s2.new' hw2) (SqT.of upd_same)⟩
      · intro H' d sm hd
        have s2 : Same H (upd H' d (xB (i : Nat) n)) := (s1.trans sm).new' hd
        refine ⟨false, T.mBadNumber_TooLong, ⟨fun z => Bool.noConfusion z, fun _ => ⟨true, T.mBadNumber_BadNumber, fun _ x hx => ?_, fun z => nomatch z⟩⟩⟩
        refine ⟨_, rfl, rfl, rfl, d, _, _, rfl, upd_same, rfl, ?_⟩
        refine ⟨_, rfl, rfl, rfl, d, _, _, rfl, upd_same, rfl, ?_⟩
        refine ⟨_, rfl, rfl, _, _, true, d, _, rfl, fun u r => r, rfl, upd_same, T.kBadNumber_NightsError, ?_⟩
        refine ⟨_, rfl, rfl, _, _, true, d, _, rfl, fun u r => r, rfl, upd_same, T.kBadNumber_ValueError, ?_⟩
        refine ⟨_, rfl, rfl, _, _, false, d, _, rfl, fun u r => r, rfl, upd_same, T.kBadNumber_TooLong, ?_⟩
        refine ⟨_, rfl, rfl, _, _, false, d, _, rfl, fun u r => r, rfl, upd_same, T.kBadNumber_WrongLength, ?_⟩
        refine ⟨seven, fun w2 hw2 => ?_⟩
        refine ⟨_, rfl, rfl, _, rfl, iteF ?_⟩
        exact ⟨_, rfl, q (.badL i n) _ w2 ⟨c1, c2⟩ (s2.new' hw2) (SqT.of upd_same)⟩
      · intro H' d sm hd
        have s2 : Same H (upd H' d (xL hs.length hs.length)) := (s1.trans sm).new' hd
        refine ⟨false, T.mWrongLength_TooLong, ⟨fun z => Bool.noConfusion z, fun _ => ⟨false, T.mWrongLength_BadNumber, ⟨fun z => Bool.noConfusion z, fun _ => ⟨true, T.mWrongLength_WrongLength, fun _ x hx => ?_, fun z => nomatch z⟩⟩⟩⟩⟩
        refine ⟨_, rfl, rfl, rfl, d, _, _, rfl, upd_same, rfl, ?_⟩
        refine ⟨_, rfl, rfl, rfl, d, _, _, rfl, upd_same, rfl, ?_⟩
        refine ⟨_, rfl, rfl, _, _, true, d, _, rfl, fun u r => r, rfl, upd_same, T.kWrongLength_NightsError, ?_⟩
        refine ⟨_, rfl, rfl, _, _, true, d, _, rfl, fun u r => r, rfl, upd_same, T.kWrongLength_ValueError, ?_⟩
        refine ⟨_, rfl, rfl, _, _, false, d, _, rfl, fun u r => r, rfl, upd_same, T.kWrongLength_TooLong, ?_⟩
        refine ⟨_, rfl, rfl, _, _, false, d, _, rfl, fun u r => r, rfl, upd_same, T.kWrongLength_BadNumber, ?_⟩
        refine ⟨seven, fun w2 hw2 => ?_⟩
        refine ⟨_, rfl, rfl, _, rfl, iteF ?_⟩
        exact ⟨_, rfl, q .wrong _ w2 ⟨c1, c2, c3⟩ (s2.new' hw2) (SqT.of upd_same)⟩
      · intro H' d sm hd
        have s2 : Same H (upd H' d (xB (i : Nat) n)) := (s1.trans sm).new' hd
        refine ⟨false, T.mBadNumber_TooLong, ⟨fun z => Bool.noConfusion z, fun _ => ⟨true, T.mBadNumber_BadNumber, fun _ x hx => ?_, fun z => nomatch z⟩⟩⟩
        refine ⟨_, rfl, rfl, rfl, d, _, _, rfl, upd_same, rfl, ?_⟩
        refine ⟨_, rfl, rfl, rfl, d, _, _, rfl, upd_same, rfl, ?_⟩
        refine ⟨_, rfl, rfl, _, _, true, d, _, rfl, fun u r => r, rfl, upd_same, T.kBadNumber_NightsError, ?_⟩
        refine ⟨_, rfl, rfl, _, _, true, d, _, rfl, fun u r => r, rfl, upd_same, T.kBadNumber_ValueError, ?_⟩
        refine ⟨_, rfl, rfl, _, _, false, d, _, rfl, fun u r => r, rfl, upd_same, T.kBadNumber_TooLong, ?_⟩
        refine ⟨_, rfl, rfl, _, _, false, d, _, rfl, fun u r => r, rfl, upd_same, T.kBadNumber_WrongLength, ?_⟩
        refine ⟨seven, fun w2 hw2 => ?_⟩
        refine ⟨_, rfl, rfl, _, rfl, iteF ?_⟩
        exact ⟨_, rfl, q (.badH i n) _ w2 ⟨c1, c2, c3, c4⟩ (s2.new' hw2) (SqT.of upd_same)⟩
      · refine ⟨_, rfl, rfl, _, rfl, iteT ?_⟩
        exact ⟨_, rfl, r, hs, hs, rfl, hb, fun H2 t s2 ht => ⟨_, rfl, q .made _ t ⟨b1, b2, b3, b4⟩ ((s1.trans sm).trans s2) ht⟩⟩
    · refine ⟨_, rfl, rfl, _, rfl, nope (by decide) ?_⟩
      refine ⟨_, rfl, rfl, _, rfl, nope (by decide) ?_⟩
      subst el eh
      refine ⟨rfl, _, rfl, _, rfl, n0, m0, rfl, ln, ⟨fun c1 => ?_, fun c1 i n c2 => ?_, fun c1 c2 c3 => ?_, fun c1 c2 c3 i n c4 => ?_⟩, fun b1 b2 b3 b4 H' r sm hb => ?_⟩
      · intro H' d sm hd
        have s2 : Same H (upd H' d (xT (List.replicate n0 (0 : Int)).length)) := (s1.trans sm).new' hd
        refine ⟨true, T.mTooLong_TooLong, fun _ x hx => ?_, fun z => nomatch z⟩
        refine ⟨_, rfl, rfl, rfl, d, _, _, rfl, upd_same, rfl, ?_⟩
        refine ⟨_, rfl, rfl, _, _, true, d, _, rfl, fun u r => r, rfl, upd_same, T.kTooLong_NightsError, ?_⟩
        refine ⟨_, rfl, rfl, _, _, true, d, _, rfl, fun u r => r, rfl, upd_same, T.kTooLong_ValueError, ?_⟩
        refine ⟨_, rfl, rfl, _, _, false, d, _, rfl, fun u r => r, rfl, upd_same, T.kTooLong_BadNumber, ?_⟩
        refine ⟨_, rfl, rfl, _, _, false, d, _, rfl, fun u r => r, rfl, upd_same, T.kTooLong_WrongLength, ?_⟩
        refine ⟨six, fun w2 hw2 => ?_⟩
        refine ⟨_, rfl, rfl, _, rfl, iteF ?_⟩
        exact ⟨_, rfl, q .long _ w2 c1 (s2.new' hw2) (SqT.of upd_same)⟩
      · intro H' d sm hd
        have s2 : Same H (upd H' d (xB (i : Nat) n)) := (s1.trans sm).new' hd
        refine ⟨false, T.mBadNumber_TooLong, ⟨fun z => Bool.noConfusion z, fun _ => ⟨true, T.mBadNumber_BadNumber, fun _ x hx => ?_, fun z => nomatch z⟩⟩⟩
        refine ⟨_, rfl, rfl, rfl, d, _, _, rfl, upd_same, rfl, ?_⟩
        refine ⟨_, rfl, rfl, rfl, d, _, _, rfl, upd_same, rfl, ?_⟩
        refine ⟨_, rfl, rfl, _, _, true, d, _, rfl, fun u r => r, rfl, upd_same, T.kBadNumber_NightsError, ?_⟩
        refine ⟨_, rfl, rfl, _, _, true, d, _, rfl, fun u r => r, rfl, upd_same, T.kBadNumber_ValueError, ?_⟩
        refine ⟨_, rfl, rfl, _, _, false, d, _, rfl, fun u r => r, rfl, upd_same, T.kBadNumber_TooLong, ?_⟩
        refine ⟨_, rfl, rfl, _, _, false, d, _, rfl, fun u r => r, rfl, upd_same, T.kBadNumber_WrongLength, ?_⟩
        refine ⟨seven, fun w2 hw2 => ?_⟩
        refine ⟨_, rfl, rfl, _, rfl, iteF ?_⟩
        exact ⟨_, rfl, q (.badL i n) _ w2 ⟨c1, c2⟩ (s2.new' hw2) (SqT.of upd_same)⟩
      · intro H' d sm hd
        have s2 : Same H (upd H' d (xL (List.replicate n0 m0).length (List.replicate n0 (0 : Int)).length)) := (s1.trans sm).new' hd
        refine ⟨false, T.mWrongLength_TooLong, ⟨fun z => Bool.noConfusion z, fun _ => ⟨false, T.mWrongLength_BadNumber, ⟨fun z => Bool.noConfusion z, fun _ => ⟨true, T.mWrongLength_WrongLength, fun _ x hx => ?_, fun z => nomatch z⟩⟩⟩⟩⟩
        refine ⟨_, rfl, rfl, rfl, d, _, _, rfl, upd_same, rfl, ?_⟩
        refine ⟨_, rfl, rfl, rfl, d, _, _, rfl, upd_same, rfl, ?_⟩
        refine ⟨_, rfl, rfl, _, _, true, d, _, rfl, fun u r => r, rfl, upd_same, T.kWrongLength_NightsError, ?_⟩
        refine ⟨_, rfl, rfl, _, _, true, d, _, rfl, fun u r => r, rfl, upd_same, T.kWrongLength_ValueError, ?_⟩
        refine ⟨_, rfl, rfl, _, _, false, d, _, rfl, fun u r => r, rfl, upd_same, T.kWrongLength_TooLong, ?_⟩
        refine ⟨_, rfl, rfl, _, _, false, d, _, rfl, fun u r => r, rfl, upd_same, T.kWrongLength_BadNumber, ?_⟩
        refine ⟨seven, fun w2 hw2 => ?_⟩
        refine ⟨_, rfl, rfl, _, rfl, iteF ?_⟩
        exact ⟨_, rfl, q .wrong _ w2 ⟨c1, c2, c3⟩ (s2.new' hw2) (SqT.of upd_same)⟩
      · intro H' d sm hd
        have s2 : Same H (upd H' d (xB (i : Nat) n)) := (s1.trans sm).new' hd
        refine ⟨false, T.mBadNumber_TooLong, ⟨fun z => Bool.noConfusion z, fun _ => ⟨true, T.mBadNumber_BadNumber, fun _ x hx => ?_, fun z => nomatch z⟩⟩⟩
        refine ⟨_, rfl, rfl, rfl, d, _, _, rfl, upd_same, rfl, ?_⟩
        refine ⟨_, rfl, rfl, rfl, d, _, _, rfl, upd_same, rfl, ?_⟩
        refine ⟨_, rfl, rfl, _, _, true, d, _, rfl, fun u r => r, rfl, upd_same, T.kBadNumber_NightsError, ?_⟩
        refine ⟨_, rfl, rfl, _, _, true, d, _, rfl, fun u r => r, rfl, upd_same, T.kBadNumber_ValueError, ?_⟩
        refine ⟨_, rfl, rfl, _, _, false, d, _, rfl, fun u r => r, rfl, upd_same, T.kBadNumber_TooLong, ?_⟩
        refine ⟨_, rfl, rfl, _, _, false, d, _, rfl, fun u r => r, rfl, upd_same, T.kBadNumber_WrongLength, ?_⟩
        refine ⟨seven, fun w2 hw2 => ?_⟩
        refine ⟨_, rfl, rfl, _, rfl, iteF ?_⟩
        exact ⟨_, rfl, q (.badH i n) _ w2 ⟨c1, c2, c3, c4⟩ (s2.new' hw2) (SqT.of upd_same)⟩
      · refine ⟨_, rfl, rfl, _, rfl, iteT ?_⟩
        exact ⟨_, rfl, r, _, _, rfl, hb, fun H2 t s2 ht => ⟨_, rfl, q .made _ t ⟨b1, b2, b3, b4⟩ ((s1.trans sm).trans s2) ht⟩⟩
end
end K24

set_option maxRecDepth 100000
set_option maxHeartbeats 8000000
namespace K24
open PySem PySem.Spec PyProof.Rows L2
/-- what a joining tells -/
def IsJ (K : PySem.W.Frag) (H : Hp) (t : Addr) (way : Int) (ls hs ms ns : List Int) : Prop :=
  (ms.length ≠ ls.length ∧ SqT K H t [.str "WrongLength", .int ((ms.length : Nat) : Int), .int ((ls.length : Nat) : Int), .bl true, .bl true, .bl false, .bl false]) ∨
  (ms.length = ls.length ∧ ((way = 0 ∧ IsM K H t (List.zipWith mx ls ms) (List.zipWith mn hs ns) .made) ∨ (way ≠ 0 ∧ IsM K H t (List.zipWith mn ls ms) (List.zipWith mx hs ns) .made)))
section
variable {w : World} {K : PySem.W.Frag} {mg : Str → Option Value} {base : Heap}
def spTryJ (K : PySem.W.Frag) : Sp := fun vs H Q _ => ∃ (p o : Addr) (ls hs ms ns : List Int) (way : Int), vs = [.int way, .ref p, .ref o] ∧ IsB K H p ls hs ∧ IsB K H o ms ns ∧ ∀ H' t, Same H H' → IsJ K H' t way ls hs ms ns → Q (.ref t) H'
theorem ok_law_try_joined (T : Tx K mg) : Ok PG w K mg base CX0 8 (a_law_try_joined K) p_law_try_joined (spTryJ K) := by
  refine Ok.of 7 T.f_law_try_joined sc_law_try_joined bi_law_try_joined (by decide) (fun vs H Q E h => ?_) (fun cdv A outer s H vs Q E hr h => ?_)
  · obtain ⟨_, _, _, _, _, _, _, rfl, _⟩ := h
    rfl
  · obtain ⟨p, o, ls, hs, ms, ns, way, rfl, hp, ho, q⟩ := h
    obtain ⟨dx, t, u, p1, p2, p3, l1, l2, b1, b2⟩ := id hp
    obtain ⟨dy, t', u', o1, o2, o3, l3, l4, b3, b4⟩ := id ho
    have nd := sc_law_try_joined.nd
    have seven : 7 ≤ sizeLine := by decide
    refine ⟨_, pss_cons (ps_set (i := 3) nd rfl (.inl rfl) pe_non)
      (pss_cons (ps_set (i := 4) nd rfl (.inl rfl) (pe_tup (pa_cons pe_str pa_nil)))
      (pss_cons (ps_try_any rfl rfl nd takes0
          (fun W pn xe tk _ => (pss_one (ps_if (pt_cmpR op_eq (pv 0) pe_int (nomark _)) (pss_one (ps_set (i := 3) nd rfl (.inl rfl) (peOwnOS (ok_Bounds_and T) T.wBounds_and hr (fun σ => passAt tk σ) (pv 1) (pv 2)))) (pss_one (ps_set (i := 3) nd rfl (.inl rfl) (peOwnOS (ok_Bounds_or T) T.wBounds_or hr (fun σ => passAt tk σ) (pv 1) (pv 2)))))))
          (.as (i := 5) ⟨rfl, by decide, .inl T.e_WrongLength.gC⟩ rfl rfl (fun a oe cls d pn hz hf => (pss_one (ps_set (i := 4) nd rfl (.inl rfl) (pe_tup (pa_cons pe_str (pa_cons (pe_xf T.xWrongLength.1 T.nWrongLength_found hz hf (pv 5)) (pa_cons (pe_xf T.xWrongLength.1 T.nWrongLength_wanted hz hf (pv 5)) (pa_cons (pe_callB (call_isD T.xWrongLength.2 hz hf) (by rfl) T.m_isinstance (by decide +kernel) (pa_cons (pv 5) (pa_cons (pgC T.gNightsError) pa_nil))) (pa_cons (pe_callB (call_isD T.xWrongLength.2 hz hf) (by rfl) T.m_isinstance (by decide +kernel) (pa_cons (pv 5) (pa_cons (pe_bltn (v := .ty "ValueError") (by rfl) T.m_ValueError (by decide +kernel) rfl) pa_nil))) (pa_cons (pe_callB (call_isD T.xWrongLength.2 hz hf) (by rfl) T.m_isinstance (by decide +kernel) (pa_cons (pv 5) (pa_cons (pgC T.e_BadNumber.gC) pa_nil))) (pa_cons (pe_callB (call_isD T.xWrongLength.2 hz hf) (by rfl) T.m_isinstance (by decide +kernel) (pa_cons (pv 5) (pa_cons (pgC T.e_TooLong.gC) pa_nil))) pa_nil)))))))))))
          .nil))
      (pss_cons (ps_if (pt_cmpR op_notN (pv 3) pe_non (nomark _)) (pss_one (ps_set (i := 4) nd rfl (.inl rfl) (pc (ok_law_shown T) (hr.mono (by decide)) T.g_law_shown pass0 (pa_cons (pv 3) pa_nil)))) pss_nil)
      (pss_one (ps_ret (pv 4)))))), ?_⟩
    refine ⟨by show 1 ≤ sizeLine; decide, fun wd hwd => ?_⟩
    have s1 : Same H (upd H wd (.tup [.str "none"])) := .new hwd
    refine ⟨_, rfl, rfl, _, rfl, ite2 (fun c0 => ?_) (fun c0 => ?_)⟩
    · have c0 : way = 0 := by simpa using c0
      refine ⟨_, rfl, _, rfl, p, dx, _, o, dy, _, rfl, rfl, s1 _ _ p1, s1 _ _ o1, p, o, ls, hs, ms, ns, rfl, hp.same s1, ho.same s1, fun c => ?_, fun c H' r sm hb => ?_⟩
      · intro H' d sm hd
        have s2 : Same H (upd H' d (xL ms.length ls.length)) := (s1.trans sm).new' hd
        refine ⟨true, T.mWrongLength_WrongLength, fun _ x hx => ?_, fun z => nomatch z⟩
        refine ⟨_, rfl, rfl, rfl, d, _, _, rfl, upd_same, rfl, ?_⟩
        refine ⟨_, rfl, rfl, rfl, d, _, _, rfl, upd_same, rfl, ?_⟩
        refine ⟨_, rfl, rfl, _, _, true, d, _, rfl, fun u r => r, rfl, upd_same, T.kWrongLength_NightsError, ?_⟩
        refine ⟨_, rfl, rfl, _, _, true, d, _, rfl, fun u r => r, rfl, upd_same, T.kWrongLength_ValueError, ?_⟩
        refine ⟨_, rfl, rfl, _, _, false, d, _, rfl, fun u r => r, rfl, upd_same, T.kWrongLength_BadNumber, ?_⟩
        refine ⟨_, rfl, rfl, _, _, false, d, _, rfl, fun u r => r, rfl, upd_same, T.kWrongLength_TooLong, ?_⟩
        refine ⟨seven, fun w2 hw2 => ?_⟩
        refine ⟨_, rfl, rfl, _, rfl, iteF ?_⟩
        exact ⟨_, rfl, q _ w2 (s2.new' hw2) (.inl ⟨c, SqT.of upd_same⟩)⟩
      · refine ⟨_, rfl, rfl, _, rfl, iteT ?_⟩
        exact ⟨_, rfl, r, _, _, rfl, hb, fun H2 t s2 ht => ⟨_, rfl, q _ t ((s1.trans sm).trans s2) (.inr ⟨c, .inl ⟨c0, ht⟩⟩)⟩⟩
    · have c0 : way ≠ 0 := by simpa using c0
      refine ⟨_, rfl, _, rfl, p, dx, _, o, dy, _, rfl, rfl, s1 _ _ p1, s1 _ _ o1, p, o, ls, hs, ms, ns, rfl, hp.same s1, ho.same s1, fun c => ?_, fun c H' r sm hb => ?_⟩
      · intro H' d sm hd
        have s2 : Same H (upd H' d (xL ms.length ls.length)) := (s1.trans sm).new' hd
        refine ⟨true, T.mWrongLength_WrongLength, fun _ x hx => ?_, fun z => nomatch z⟩
        refine ⟨_, rfl, rfl, rfl, d, _, _, rfl, upd_same, rfl, ?_⟩
        refine ⟨_, rfl, rfl, rfl, d, _, _, rfl, upd_same, rfl, ?_⟩
        refine ⟨_, rfl, rfl, _, _, true, d, _, rfl, fun u r => r, rfl, upd_same, T.kWrongLength_NightsError, ?_⟩
        refine ⟨_, rfl, rfl, _, _, true, d, _, rfl, fun u r => r, rfl, upd_same, T.kWrongLength_ValueError, ?_⟩
        refine ⟨_, rfl, rfl, _, _, false, d, _, rfl, fun u r => r, rfl, upd_same, T.kWrongLength_BadNumber, ?_⟩
        refine ⟨_, rfl, rfl, _, _, false, d, _, rfl, fun u r => r, rfl, upd_same, T.kWrongLength_TooLong, ?_⟩
        refine ⟨seven, fun w2 hw2 => ?_⟩
        refine ⟨_, rfl, rfl, _, rfl, iteF ?_⟩
        exact ⟨_, rfl, q _ w2 (s2.new' hw2) (.inl ⟨c, SqT.of upd_same⟩)⟩
      · refine ⟨_, rfl, rfl, _, rfl, iteT ?_⟩
        exact ⟨_, rfl, r, _, _, rfl, hb, fun H2 t s2 ht => ⟨_, rfl, q _ t ((s1.trans sm).trans s2) (.inr ⟨c, .inr ⟨c0, ht⟩⟩)⟩⟩
def spBase (K : PySem.W.Frag) : Sp := fun vs H Q _ => ∃ (a b : Addr) (ls hs : List Int), vs = [.ref a, .ref b] ∧ SqA K H a (ls.map V.int) ∧ SqA K H b (hs.map V.int) ∧ ∀ D H', DueOk ls hs D → Same H H' → Q (.bl (decide (D ≠ .made))) H'
def spHanded (K : PySem.W.Frag) : Sp := fun vs H Q _ => ∃ (a : Addr) (ns : List Int) (way : Int), vs = [.ref a, .int way] ∧ SqL K H a (ns.map V.int) ∧ (way = 1 → ∀ t, H t = none → Q (.ref t) (upd H t (.tup (ns.map V.int)))) ∧ (way ≠ 1 → ∀ t, H t = none → Q (.ref t) (upd H t (.lst (ns.map V.int))))
theorem ok_law_handed (T : Tx K mg) : Ok PG w K mg base CX0 2 (a_law_handed K) p_law_handed (spHanded K) := by
  refine Ok.of 1 T.f_law_handed sc_law_handed bi_law_handed (by decide) (fun vs H Q E h => ?_) (fun cdv A outer s H vs Q E hr h => ?_)
  · obtain ⟨_, _, _, rfl, _⟩ := h
    rfl
  · obtain ⟨a, ns, way, rfl, ha, q1, q2⟩ := h
    have nd := sc_law_handed.nd
    refine ⟨_, pss_cons (ps_if (pt_cmpR op_eq (pv 1) pe_int (nomark _)) (pss_one (ps_ret (pe_callTy call_tuple_of (by rfl) T.m_tuple (by decide +kernel) (pa_cons (pv 0) pa_nil)))) pss_nil)
      (pss_one (ps_ret (pe_callTy call_list_of (by rfl) T.m_list (by decide +kernel) (pa_cons (pv 0) pa_nil)))), ?_⟩
    refine ⟨_, rfl, rfl, _, rfl, ite2 (fun c => ?_) (fun c => ?_)⟩
    · exact ⟨_, rfl, a, _, rfl, .inl ⟨ha, fun t ht => q1 (by simpa using c) t ht⟩⟩
    · exact ⟨_, rfl, a, _, rfl, .inl ha, fun t ht => q2 (by simpa using c) t ht⟩
end
end K24

set_option maxRecDepth 100000
set_option maxHeartbeats 8000000
namespace K24
open PySem PySem.Spec PyProof.Rows L2
/-- a cell that was free before may change -/
theorem same_set {H H' : Hp} {l : Addr} {o : HO} (s : Same H H') (h : H l = none) : Same H (upd H' l o) := fun b u e => by
  rw [upd_ne (fun z => by rw [z, h] at e; cases e)]
  exact s _ _ e
def crL (ls hs : List Int) (n : Nat) : List Int := ((List.range n).filter fun i => decide (ls.getD i 0 > hs.getD i 0)).map fun i => ((i : Nat) : Int)
theorem crL_len {ls hs : List Int} {n : Nat} : (crL ls hs n).length ≤ n := by
  unfold crL
  rw [List.length_map]
  exact crossed_len
theorem crL_map {ls hs : List Int} {n : Nat} : (((List.range n).filter fun i => decide (ls.getD i 0 > hs.getD i 0)).map fun i => V.int ((i : Nat) : Int)) = (crL ls hs n).map V.int := by
  unfold crL
  rw [List.map_map]
  rfl
section
variable {w : World} {K : PySem.W.Frag} {mg : Str → Option Value} {base : Heap}
def spCrossingRight (K : PySem.W.Frag) : Sp := fun vs H Q _ => ∃ (p a b : Addr) (ls hs : List Int), vs = [.ref p, .ref a, .ref b] ∧ IsB K H p ls hs ∧ SqL K H a (ls.map V.int) ∧ SqL K H b (hs.map V.int) ∧ ls.length ≤ 900 ∧ ∀ H', Same H H' → Q (.bl true) H'
theorem ok_law_crossing_right (T : Tx K mg) : Ok PG w K mg base CX0 6 (a_law_crossing_right K) p_law_crossing_right (spCrossingRight K) := by
  refine Ok.of 5 T.f_law_crossing_right sc_law_crossing_right bi_law_crossing_right (by decide) (fun vs H Q E h => ?_) (fun cdv A outer s H vs Q E hr h => ?_)
  · obtain ⟨_, _, _, _, _, rfl, _⟩ := h
    rfl
  · obtain ⟨p, a, b, ls, hs, rfl, hB, ha, hb, l9, q⟩ := h
    obtain ⟨dx, t, u, h1, h2, h3, l1, l2, _⟩ := id hB
    have nd := sc_law_crossing_right.nd
    refine ⟨_, pss_cons (ps_setLc (i := 3) (own := [("place", 4)]) (g := gName 4) rfl nd rfl rfl (sw_true rfl rfl rfl (by decide +kernel)) (pi_range1 rfl T.m_range (pa_cons (pe_callB call_len_seq (by rfl) T.m_len PySem.boot_len (pa_cons (pv 1) pa_nil)) pa_nil)) (blkOk_by (N := n_law_crossing_right) (sc := defScope s_law_crossing_right) (by decide +kernel)) (fun _ _ _ _ _ => pg_name (i := 4) nd rfl (Or.inl rfl)) (fun _ _ _ _ _ => pts_one (pt_cmpR op_gt (pe_ix (r := rIxL K) (ta := tVar 1) (tb := tVar 4) ix_list (pv 1) (pv 4) (fun _ _ => rfl)) (pe_ix (r := rIxL K) (ta := tVar 2) (tb := tVar 4) ix_list (pv 2) (pv 4) (fun _ _ => rfl)) (nomark _))) (fun _ _ _ _ _ => pv 4))
      (pss_cons (ps_set (i := 5) nd rfl (.inl rfl) (pmeth0 (ok_Bounds_crossed T) (pv 0) T.cBounds T.wBounds_crossed (hr.mono (by decide)) pass0))
      (pss_cons (ps_if (pt_not (pt_val (pc (ok_law_same T 1) (hr.mono (by decide)) T.g_law_same pass0 (pa_cons (pv 5) (pa_cons (pv 3) pa_nil))))) (pss_one (ps_ret pe_bl)) pss_nil)
      (pss_cons (ps_expr (pe_bm PySem.F.plainAttrs_list PySem.F.slot_list_append PySem.F.type_list_append mt_append (pv 5) (pa_cons (pe_callB call_len_seq (by rfl) T.m_len PySem.boot_len (pa_cons (pv 1) pa_nil)) pa_nil)))
      (pss_one (ps_ret (pc (ok_law_same T 1) (hr.mono (by decide)) T.g_law_same pass0 (pa_cons (pmeth0 (ok_Bounds_crossed T) (pv 0) T.cBounds T.wBounds_crossed (hr.mono (by decide)) pass0) (pa_cons (pv 3) pa_nil)))))))), ?_⟩
    refine ⟨_, rfl, a, _, rfl, .inl ha, _, rfl, (by omega), (by rw [List.length_map]; omega), fun D hD => ?_⟩
    refine lc_range (lo := 0) (n := ((ls.map V.int).length : Int).toNat) (fun i H' => Same H H' ∧ H' D = some (.lst ((crL ls hs i).map V.int))) ⟨.new hD, upd_same⟩ (fun i H' hi z => ?_) (fun H' z => ?_)
    · obtain ⟨sm, hd⟩ := z
      rw [List.length_map] at hi
      have hi : i < ls.length := by omega
      have va : (ls.map V.int)[i]? = some (V.int (ls.getD i 0)) := by rw [List.getElem?_map, List.getD_eq_getElem?_getD, List.getElem?_eq_getElem hi]; rfl
      have vb : (hs.map V.int)[i]? = some (V.int (hs.getD i 0)) := by rw [List.getElem?_map, List.getD_eq_getElem?_getD, List.getElem?_eq_getElem (by omega)]; rfl
      refine ⟨rfl, _, rfl, _, rfl, a, _, _, _, rfl, rfl, sm.seq ha, (by rw [Int.zero_add]; exact atI_nat va), ?_⟩
      refine ⟨_, rfl, _, rfl, b, _, _, _, rfl, rfl, sm.seq hb, (by rw [Int.zero_add]; exact atI_nat vb), ?_⟩
      refine ⟨_, _, rfl, rfl, _, rfl, ?_⟩
      have cl := @crL_len ls hs i
      refine ite2 (fun c => ?_) (fun c => ?_)
      · have c := of_decide_eq_true c
        refine ⟨_, rfl, _, hd, by rw [List.length_map, sizeLine_eq]; omega, same_set sm hD, ?_⟩
        rw [upd_same]
        show _ = some (HO.lst ((crL ls hs (i + 1)).map V.int))
        rw [← crL_map, ← crL_map, crossed_step, if_pos c, List.map_append, Int.zero_add]
        rfl
      · refine ⟨sm, ?_⟩
        rw [← crL_map, crossed_step, if_neg (fun y => c (decide_eq_true y)), crL_map]
        exact hd
    · obtain ⟨sm, hd⟩ := z
      rw [List.length_map, Int.toNat_natCast] at hd
      have cl := @crL_len ls hs ls.length
      have row : ∀ {G : Hp} {x y : Addr}, G x = some (.lst ((crL ls hs ls.length).map V.int)) → G y = some (.lst ((crL ls hs ls.length).map V.int)) → Eqd K 1 G (.ref x) (.ref y) := fun gx gy => Eqd.row (.inr ⟨SqL.of gx, SqL.of gy⟩) (by omega)
      refine ⟨_, rfl, p, dx, _, rfl, sm _ _ h1, rfl, p, ls, hs, rfl, hB.same sm, fun H2 F s2 hF0 hF => ?_⟩
      rw [crL_map] at hF
      refine ⟨_, rfl, _, rfl, _, _, rfl, row hF (s2 _ _ hd), _, rfl, iteF ?_⟩
      have sl : Same H H2 := sm.trans s2
      refine ⟨_, rfl, .inl ⟨rfl, _, SqL.of hF⟩, _, rfl, a, _, rfl, .inl (sl.seq ha), F, _, _, rfl, rfl, hF, (by rw [List.length_map, sizeLine_eq]; omega), ?_⟩
      have nDF : D ≠ F := fun z => by rw [← z, hd] at hF0; cases hF0
      have s3 := same_set (o := .lst ((crL ls hs ls.length).map V.int ++ [.int ((ls.map V.int).length : Nat)])) s2 hF0
      refine ⟨_, rfl, p, dx, _, rfl, (sm.trans s3) _ _ h1, rfl, p, ls, hs, rfl, hB.same (sm.trans s3), fun H4 E4 s4 hE0 hE => ?_⟩
      rw [crL_map] at hE
      exact ⟨_, rfl, _, _, rfl, row hE (s4 _ _ (s3 _ _ hd)), q _ ((sm.trans s3).trans s4)⟩
end
end K24

set_option maxRecDepth 100000
set_option maxHeartbeats 8000000
namespace K24
open PySem PySem.Spec PyProof.Rows L2
theorem at_int {xs : List Int} {i : Nat} (h : i < xs.length) : (xs.map V.int)[i]? = some (V.int xs[i]) := by
  rw [List.getElem?_map, List.getElem?_eq_getElem h]; rfl
/-- [f(xs[i], ys[i]) for i in range(n)] reads as the lists joined -/
theorem lc_zip {f : Int → Int → Int} {n : Nat} {xs ys : List Int} {H1 : Hp} {D : Addr} {te : TE} {vs : List Nat} {σ : L2.St} {i0 : Nat} {Qd : Hp → Prop} (hD : H1 D = none) (hx : xs.length = n) (hy : ys.length = n) (hn : n ≤ 1000)
    (ht : ∀ (i : Nat) (H2 : Hp) (a b : Int), Same H1 H2 → (xs.map V.int)[i]? = some (.int a) → (ys.map V.int)[i]? = some (.int b) → wipe ((wipe σ vs).set i0 (some (.int (0 + ((i : Nat) : Int))))) vs = wipe σ vs ∧ ∀ Q : VK, Q (.int (f a b)) H2 → te ((wipe σ vs).set i0 (some (.int (0 + ((i : Nat) : Int))))) H2 Q)
    (hd : ∀ (H' : Hp), Same H1 H' → H' D = some (.lst ((List.zipWith f xs ys).map V.int)) → Qd H') :
    ∃ W : Nat → Nat → Hp → Prop, (∃ m, W 0 m (upd H1 D (.lst []))) ∧ ∀ i m H, W i m H →
      ((Itr 0 n).stop i H ∧ Qd H) ∨ ((Itr 0 n).go i H ∧ ∃ Nx : Hp → Prop, (∀ H', Nx H' → ∃ m', m' < m ∧ W (i + 1) m' H') ∧ ∀ x H', (Itr 0 n).yld i H x H' → gName i0 x (wipe σ vs) H' fun σ2 H2 => wipe σ2 vs = wipe σ vs ∧ tYes σ2 H2 fun b H3 =>
        if b = true then te σ2 H3 fun y H4 => ∃ acc, H4 D = some (.lst acc) ∧ acc.length < sizeLine ∧ Nx (upd H4 D (.lst (acc ++ [y]))) else Nx H3) := by
  refine lc_range (lo := 0) (n := n) (fun i H' => Same H1 H' ∧ H' D = some (.lst (((List.zipWith f xs ys).take i).map V.int))) ⟨.new hD, upd_same⟩ ?_ ?_
  · rintro i H' hi ⟨sm, h'⟩
    have hx' : i < xs.length := by omega
    have hy' : i < ys.length := by omega
    obtain ⟨h0, h2⟩ := ht i H' xs[i] ys[i] sm (at_int hx') (at_int hy')
    refine ⟨h0, yesT (h2 _ ⟨_, h', ?_, same_set sm hD, ?_⟩)⟩
    · rw [List.length_map, List.length_take, sizeLine_eq]; omega
    · rw [upd_same, List.take_succ, List.getElem?_zipWith, List.getElem?_eq_getElem hx', List.getElem?_eq_getElem hy', List.map_append]
      rfl
  · rintro H' ⟨sm, h'⟩
    rw [List.take_of_length_le (by rw [List.length_zipWith]; omega)] at h'
    exact hd H' sm h'
section
variable {w : World} {K : PySem.W.Frag} {mg : Str → Option Value} {base : Heap}
def IsPair (K : PySem.W.Frag) (H : Hp) (p : Addr) (ls hs : List Int) : Prop := ∃ a b, SqL K H p [.ref a, .ref b] ∧ SqL K H a (ls.map V.int) ∧ SqL K H b (hs.map V.int)
def spJoiningRight (K : PySem.W.Frag) : Sp := fun vs H Q _ => ∃ (p o x y : Addr) (ls hs ms ns : List Int), vs = [.ref p, .ref o, .ref x, .ref y] ∧ IsB K H p ls hs ∧ IsB K H o ms ns ∧ IsPair K H x ls hs ∧ IsPair K H y ms ns ∧ ∀ H', Same H H' → Q (.bl true) H'
theorem ok_law_joining_right (T : Tx K mg) : Ok PG w K mg base CX0 10 (a_law_joining_right K) p_law_joining_right (spJoiningRight K) := by
  refine Ok.of 9 T.f_law_joining_right sc_law_joining_right bi_law_joining_right (by decide) (fun vs H Q E h => ?_) (fun cdv A outer s H vs Q E hr h => ?_)
  · obtain ⟨_, _, _, _, _, _, _, _, rfl, _⟩ := h
    rfl
  · obtain ⟨p, o, x, y, ls, hs, ms, ns, rfl, hp, ho, ⟨a, b, hx, ha, hb⟩, ⟨c, d, hy, hc, hd⟩, q⟩ := h
    obtain ⟨dx, t, u, p1, p2, p3, l1, l2, _⟩ := id hp
    obtain ⟨dy, t', u', o1, o2, o3, m1, m2, _⟩ := id ho
    have nd := sc_law_joining_right.nd
    refine ⟨_, pss_cons (ps_asg (pv 2) (pg_unl rfl (pgs_cons (pg_name (i := 4) nd rfl (.inr rfl)) (pgs_cons (pg_name (i := 5) nd rfl (.inr rfl)) pgs_nil))))
      (pss_cons (ps_set (i := 6) nd rfl (.inl rfl) (pe_callB call_len_seq (by rfl) T.m_len PySem.boot_len (pa_cons (pv 4) pa_nil)))
      (pss_cons (ps_if (pt_cmpR op_ne (pe_callB call_len_seq (by rfl) T.m_len PySem.boot_len (pa_cons (pe_ix ix_list (pv 3) pe_int (fun _ _ => rfl)) pa_nil)) (pv 6) (nomark _)) (pss_cons (ps_set (i := 7) nd rfl (.inl rfl) (pe_tup (pa_cons pe_str (pa_cons (pe_callB call_len_seq (by rfl) T.m_len PySem.boot_len (pa_cons (pe_ix ix_list (pv 3) pe_int (fun _ _ => rfl)) pa_nil)) (pa_cons (pv 6) (pa_cons pe_bl (pa_cons pe_bl (pa_cons pe_bl (pa_cons pe_bl pa_nil)))))))))
        (pss_one (ps_ret (pe_and (pc (ok_law_same T 1) (hr.mono (by decide)) T.g_law_same pass0 (pa_cons (pc (ok_law_try_joined T) (hr.mono (by decide)) T.g_law_try_joined pass0 (pa_cons pe_int (pa_cons (pv 0) (pa_cons (pv 1) pa_nil)))) (pa_cons (pv 7) pa_nil))) (pe_one (pc (ok_law_same T 1) (hr.mono (by decide)) T.g_law_same pass0 (pa_cons (pc (ok_law_try_joined T) (hr.mono (by decide)) T.g_law_try_joined pass0 (pa_cons pe_int (pa_cons (pv 0) (pa_cons (pv 1) pa_nil)))) (pa_cons (pv 7) pa_nil)))))))) pss_nil)
      (pss_cons (ps_setLc (i := 8) (own := [("place", 9)]) (g := gName 9) (tt := tYes) rfl nd rfl rfl (sw_true rfl rfl rfl (by decide +kernel)) (pi_range1 rfl T.m_range (pa_cons (pv 6) pa_nil)) (blkOk_by (N := n_law_joining_right) (sc := defScope s_law_joining_right) (by decide +kernel)) (fun _ _ _ _ _ => pg_name (i := 9) nd rfl (Or.inl rfl)) (fun _ _ _ _ _ => pts_nil) (fun _ _ _ _ _ => pe_callB (call_max2 rfl) (by rfl) T.m_max (by decide +kernel) (pa_cons (pe_ix (r := rIxL K) (ta := tVar 4) (tb := tVar 9) ix_list (pv 4) (pv 9) (fun _ _ => rfl)) (pa_cons (pe_ix (r := rIxL K) (tb := tVar 9) ix_list (pe_ix (r := rIxL K) (ta := tVar 3) (tb := tC (V.int 0)) ix_list (pv 3) pe_int (fun _ _ => rfl)) (pv 9) (fun _ _ => rfl)) pa_nil))))
      (pss_cons (ps_setLc (i := 10) (own := [("place", 9)]) (g := gName 9) (tt := tYes) rfl nd rfl rfl (sw_true rfl rfl rfl (by decide +kernel)) (pi_range1 rfl T.m_range (pa_cons (pv 6) pa_nil)) (blkOk_by (N := n_law_joining_right) (sc := defScope s_law_joining_right) (by decide +kernel)) (fun _ _ _ _ _ => pg_name (i := 9) nd rfl (Or.inl rfl)) (fun _ _ _ _ _ => pts_nil) (fun _ _ _ _ _ => pe_callB (call_min2 rfl) (by rfl) T.m_min (by decide +kernel) (pa_cons (pe_ix (r := rIxL K) (ta := tVar 5) (tb := tVar 9) ix_list (pv 5) (pv 9) (fun _ _ => rfl)) (pa_cons (pe_ix (r := rIxL K) (tb := tVar 9) ix_list (pe_ix (r := rIxL K) (ta := tVar 3) (tb := tC (V.int 1)) ix_list (pv 3) pe_int (fun _ _ => rfl)) (pv 9) (fun _ _ => rfl)) pa_nil))))
      (pss_cons (ps_if (pt_not (pt_val (pc (ok_law_same T 2) (hr.mono (by decide)) T.g_law_same pass0 (pa_cons (pc (ok_law_try_joined T) (hr.mono (by decide)) T.g_law_try_joined pass0 (pa_cons pe_int (pa_cons (pv 0) (pa_cons (pv 1) pa_nil)))) (pa_cons (pe_tup (pa_cons pe_str (pa_cons (pe_callTy call_tuple_of (by rfl) T.m_tuple (by decide +kernel) (pa_cons (pv 8) pa_nil)) (pa_cons (pe_callTy call_tuple_of (by rfl) T.m_tuple (by decide +kernel) (pa_cons (pv 10) pa_nil)) (pa_cons (pv 6) pa_nil))))) pa_nil))))) (pss_one (ps_ret pe_bl)) pss_nil)
      (pss_cons (ps_setLc (i := 8) (own := [("place", 9)]) (g := gName 9) (tt := tYes) rfl nd rfl rfl (sw_true rfl rfl rfl (by decide +kernel)) (pi_range1 rfl T.m_range (pa_cons (pv 6) pa_nil)) (blkOk_by (N := n_law_joining_right) (sc := defScope s_law_joining_right) (by decide +kernel)) (fun _ _ _ _ _ => pg_name (i := 9) nd rfl (Or.inl rfl)) (fun _ _ _ _ _ => pts_nil) (fun _ _ _ _ _ => pe_callB (call_min2 rfl) (by rfl) T.m_min (by decide +kernel) (pa_cons (pe_ix (r := rIxL K) (ta := tVar 4) (tb := tVar 9) ix_list (pv 4) (pv 9) (fun _ _ => rfl)) (pa_cons (pe_ix (r := rIxL K) (tb := tVar 9) ix_list (pe_ix (r := rIxL K) (ta := tVar 3) (tb := tC (V.int 0)) ix_list (pv 3) pe_int (fun _ _ => rfl)) (pv 9) (fun _ _ => rfl)) pa_nil))))
      (pss_cons (ps_setLc (i := 10) (own := [("place", 9)]) (g := gName 9) (tt := tYes) rfl nd rfl rfl (sw_true rfl rfl rfl (by decide +kernel)) (pi_range1 rfl T.m_range (pa_cons (pv 6) pa_nil)) (blkOk_by (N := n_law_joining_right) (sc := defScope s_law_joining_right) (by decide +kernel)) (fun _ _ _ _ _ => pg_name (i := 9) nd rfl (Or.inl rfl)) (fun _ _ _ _ _ => pts_nil) (fun _ _ _ _ _ => pe_callB (call_max2 rfl) (by rfl) T.m_max (by decide +kernel) (pa_cons (pe_ix (r := rIxL K) (ta := tVar 5) (tb := tVar 9) ix_list (pv 5) (pv 9) (fun _ _ => rfl)) (pa_cons (pe_ix (r := rIxL K) (tb := tVar 9) ix_list (pe_ix (r := rIxL K) (ta := tVar 3) (tb := tC (V.int 1)) ix_list (pv 3) pe_int (fun _ _ => rfl)) (pv 9) (fun _ _ => rfl)) pa_nil))))
      (pss_one (ps_ret (pc (ok_law_same T 2) (hr.mono (by decide)) T.g_law_same pass0 (pa_cons (pc (ok_law_try_joined T) (hr.mono (by decide)) T.g_law_try_joined pass0 (pa_cons pe_int (pa_cons (pv 0) (pa_cons (pv 1) pa_nil)))) (pa_cons (pe_tup (pa_cons pe_str (pa_cons (pe_callTy call_tuple_of (by rfl) T.m_tuple (by decide +kernel) (pa_cons (pv 8) pa_nil)) (pa_cons (pe_callTy call_tuple_of (by rfl) T.m_tuple (by decide +kernel) (pa_cons (pv 10) pa_nil)) (pa_cons (pv 6) pa_nil))))) pa_nil)))))))))))), ?_⟩
    refine ⟨_, rfl, x, _, rfl, hx, rfl, _, _, rfl, _, _, rfl, rfl, ?_⟩
    refine ⟨_, rfl, a, _, rfl, .inl ha, ?_⟩
    refine ⟨_, rfl, y, _, _, .ref c, rfl, rfl, hy, rfl, c, _, rfl, .inl hc, _, rfl, rfl, _, rfl, ite2 (fun e => ?_) (fun e => ?_)⟩
    · have ne : ms.length ≠ ls.length := fun z => by
        rw [List.length_map, List.length_map, z] at e
        simp at e
      refine ⟨_, rfl, y, _, _, .ref c, rfl, rfl, hy, rfl, c, _, rfl, .inl hc, _, rfl, (by show 7 ≤ sizeLine; decide), fun W hW => ?_⟩
      have s1 : Same H (upd H W (.tup [.str "WrongLength", .int (((ms.map V.int).length : Nat) : Int), .int (((ls.map V.int).length : Nat) : Int), .bl true, .bl true, .bl false, .bl false])) := .new hW
      have gw : SqT K (upd H W (.tup [.str "WrongLength", .int (((ms.map V.int).length : Nat) : Int), .int (((ls.map V.int).length : Nat) : Int), .bl true, .bl true, .bl false, .bl false])) W [.str "WrongLength", .int ((ms.length : Nat) : Int), .int ((ls.length : Nat) : Int), .bl true, .bl true, .bl false, .bl false] := by
        rw [← List.length_map (f := V.int) (as := ms), ← List.length_map (f := V.int) (as := ls)]
        exact SqT.of upd_same
      generalize (upd H W (.tup [.str "WrongLength", .int (((ms.map V.int).length : Nat) : Int), .int (((ls.map V.int).length : Nat) : Int), .bl true, .bl true, .bl false, .bl false])) = G at s1 gw ⊢
      have eq : ∀ {G1 : Hp} {t1 : Addr} {way : Int}, Same G G1 → IsJ K G1 t1 way ls hs ms ns → Eqd K 1 G1 (.ref t1) (.ref W) := fun sg j => by
        rcases j with ⟨_, j⟩ | ⟨z, _⟩
        · exact eqd_atoms j (sg.seqT gw) (by show 7 ≤ 1000; decide) (fun x hx => by simp at hx; rcases hx with rfl | rfl | rfl | rfl | rfl <;> constructor)
        · exact absurd z ne
      refine ⟨_, rfl, _, rfl, p, o, ls, hs, ms, ns, 0, rfl, hp.same s1, ho.same s1, fun G1 t1 g1 j1 => ?_⟩
      refine ⟨_, rfl, _, _, rfl, eq g1 j1, _, rfl, iteT ?_⟩
      have s2 := s1.trans g1
      refine ⟨_, rfl, _, rfl, p, o, ls, hs, ms, ns, 1, rfl, hp.same s2, ho.same s2, fun G2 t2 g2 j2 => ?_⟩
      exact ⟨_, rfl, _, _, rfl, eq (g1.trans g2) j2, q _ (s2.trans g2)⟩
    · have le : ms.length = ls.length := by
        rw [List.length_map, List.length_map] at e
        have : ¬ ((ms.length : Nat) : Int) ≠ ((ls.length : Nat) : Int) := fun z => e (by simpa using fun y => z (by rw [y]))
        omega
      refine ⟨_, rfl, _, rfl, by omega, by rw [List.length_map]; omega, fun D1 hD1 => ?_⟩
      refine lc_zip (f := mx) (xs := ls) (ys := ms) hD1 (by rw [List.length_map]; omega) (by rw [List.length_map]; omega) (by rw [List.length_map]; omega) (fun i G va vb g ea eb => ⟨rfl, fun Q q => ?_⟩) (fun GD1 gD1 kD1 => ?_)
      · exact ⟨_, rfl, _, rfl, a, _, _, _, rfl, rfl, ((Same.refl H).trans g).seq ha, (by rw [Int.zero_add]; exact atI_nat ea), _, rfl, y, _, _, .ref c, rfl, rfl, ((Same.refl H).trans g).seq hy, rfl, _, rfl, c, _, _, _, rfl, rfl, ((Same.refl H).trans g).seq hc, (by rw [Int.zero_add]; exact atI_nat eb), _, _, rfl, q⟩
      refine ⟨_, rfl, _, rfl, by omega, by rw [List.length_map]; omega, fun D2 hD2 => ?_⟩
      refine lc_zip (f := mn) (xs := hs) (ys := ns) hD2 (by rw [List.length_map]; omega) (by rw [List.length_map]; omega) (by rw [List.length_map]; omega) (fun i G va vb g ea eb => ⟨rfl, fun Q q => ?_⟩) (fun GD2 gD2 kD2 => ?_)
      · exact ⟨_, rfl, _, rfl, b, _, _, _, rfl, rfl, (gD1.trans g).seq hb, (by rw [Int.zero_add]; exact atI_nat ea), _, rfl, y, _, _, .ref d, rfl, rfl, (gD1.trans g).seq hy, rfl, _, rfl, d, _, _, _, rfl, rfl, (gD1.trans g).seq hd, (by rw [Int.zero_add]; exact atI_nat eb), _, _, rfl, q⟩
      have s2 : Same H GD2 := gD1.trans gD2
      have kkD1 := gD2 _ _ kD1
      have eqL : ∀ f : Int → Int → Int, ((List.zipWith f ls ms).length : Nat) = (ls.map V.int).length := fun f => by rw [List.length_zipWith, List.length_map]; omega
      refine ⟨_, rfl, _, rfl, p, o, ls, hs, ms, ns, 0, rfl, hp.same s2, ho.same s2, fun F1 t1 f1 j1 => ?_⟩
      refine ⟨_, rfl, D1, _, rfl, .inl ⟨SqL.of (f1 _ _ kkD1), fun v1 hv1 => ⟨_, rfl, D2, _, rfl, .inl ⟨SqL.of (Same.new hv1 _ _ (f1 _ _ kD2)), fun u1 hu1 => ⟨_, rfl, (by show 4 ≤ sizeLine; decide), fun W1 hW1 => ?_⟩⟩⟩⟩⟩
      have z1 : Same F1 (upd (upd (upd F1 v1 (.tup ((List.zipWith mx ls ms).map V.int))) u1 (.tup ((List.zipWith mn hs ns).map V.int))) W1 (.tup [.str "made", .ref v1, .ref u1, .int (((ls.map V.int).length : Nat) : Int)])) := ((Same.new hv1).new' hu1).new' hW1
      have m1 : IsM K (upd (upd (upd F1 v1 (.tup ((List.zipWith mx ls ms).map V.int))) u1 (.tup ((List.zipWith mn hs ns).map V.int))) W1 (.tup [.str "made", .ref v1, .ref u1, .int (((ls.map V.int).length : Nat) : Int)])) W1 (List.zipWith mx ls ms) (List.zipWith mn hs ns) .made :=
        ⟨v1, u1, by rw [eqL]; exact SqT.of upd_same, (Same.new hW1).seqT ((Same.new hu1).seqT (SqT.of upd_same)), (Same.new hW1).seqT (SqT.of upd_same)⟩
      have r1 := z1
      generalize (upd (upd (upd F1 v1 (.tup ((List.zipWith mx ls ms).map V.int))) u1 (.tup ((List.zipWith mn hs ns).map V.int))) W1 (.tup [.str "made", .ref v1, .ref u1, .int (((ls.map V.int).length : Nat) : Int)])) = G1 at z1 m1 ⊢
      rcases j1 with ⟨z, _⟩ | ⟨_, ⟨_, j1⟩ | ⟨z, _⟩⟩
      · exact absurd le z
      · refine ⟨_, _, rfl, eqd_made (by rw [List.length_zipWith]; omega) (by rw [List.length_zipWith]; omega) (j1.same z1) m1, _, rfl, iteF ?_⟩
        have s3 : Same H G1 := (s2.trans f1).trans z1
        refine ⟨_, rfl, _, rfl, by omega, by rw [List.length_map]; omega, fun D3 hD3 => ?_⟩
        refine lc_zip (f := mn) (xs := ls) (ys := ms) hD3 (by rw [List.length_map]; omega) (by rw [List.length_map]; omega) (by rw [List.length_map]; omega) (fun i G va vb g ea eb => ⟨rfl, fun Q q => ?_⟩) (fun GD3 gD3 kD3 => ?_)
        · exact ⟨_, rfl, _, rfl, a, _, _, _, rfl, rfl, (s3.trans g).seq ha, (by rw [Int.zero_add]; exact atI_nat ea), _, rfl, y, _, _, .ref c, rfl, rfl, (s3.trans g).seq hy, rfl, _, rfl, c, _, _, _, rfl, rfl, (s3.trans g).seq hc, (by rw [Int.zero_add]; exact atI_nat eb), _, _, rfl, q⟩
        refine ⟨_, rfl, _, rfl, by omega, by rw [List.length_map]; omega, fun D4 hD4 => ?_⟩
        refine lc_zip (f := mx) (xs := hs) (ys := ns) hD4 (by rw [List.length_map]; omega) (by rw [List.length_map]; omega) (by rw [List.length_map]; omega) (fun i G va vb g ea eb => ⟨rfl, fun Q q => ?_⟩) (fun GD4 gD4 kD4 => ?_)
        · exact ⟨_, rfl, _, rfl, b, _, _, _, rfl, rfl, ((s3.trans gD3).trans g).seq hb, (by rw [Int.zero_add]; exact atI_nat ea), _, rfl, y, _, _, .ref d, rfl, rfl, ((s3.trans gD3).trans g).seq hy, rfl, _, rfl, d, _, _, _, rfl, rfl, ((s3.trans gD3).trans g).seq hd, (by rw [Int.zero_add]; exact atI_nat eb), _, _, rfl, q⟩
        have s4 : Same H GD4 := (s3.trans gD3).trans gD4
        have kkD3 := gD4 _ _ kD3
        refine ⟨_, rfl, _, rfl, p, o, ls, hs, ms, ns, 1, rfl, hp.same s4, ho.same s4, fun F2 t2 f2 j2 => ?_⟩
        refine ⟨_, rfl, D3, _, rfl, .inl ⟨SqL.of (f2 _ _ kkD3), fun v2 hv2 => ⟨_, rfl, D4, _, rfl, .inl ⟨SqL.of (Same.new hv2 _ _ (f2 _ _ kD4)), fun u2 hu2 => ⟨_, rfl, (by show 4 ≤ sizeLine; decide), fun W2 hW2 => ?_⟩⟩⟩⟩⟩
        have z2 : Same F2 (upd (upd (upd F2 v2 (.tup ((List.zipWith mn ls ms).map V.int))) u2 (.tup ((List.zipWith mx hs ns).map V.int))) W2 (.tup [.str "made", .ref v2, .ref u2, .int (((ls.map V.int).length : Nat) : Int)])) := ((Same.new hv2).new' hu2).new' hW2
        have m2 : IsM K (upd (upd (upd F2 v2 (.tup ((List.zipWith mn ls ms).map V.int))) u2 (.tup ((List.zipWith mx hs ns).map V.int))) W2 (.tup [.str "made", .ref v2, .ref u2, .int (((ls.map V.int).length : Nat) : Int)])) W2 (List.zipWith mn ls ms) (List.zipWith mx hs ns) .made :=
          ⟨v2, u2, by rw [eqL]; exact SqT.of upd_same, (Same.new hW2).seqT ((Same.new hu2).seqT (SqT.of upd_same)), (Same.new hW2).seqT (SqT.of upd_same)⟩
        generalize (upd (upd (upd F2 v2 (.tup ((List.zipWith mn ls ms).map V.int))) u2 (.tup ((List.zipWith mx hs ns).map V.int))) W2 (.tup [.str "made", .ref v2, .ref u2, .int (((ls.map V.int).length : Nat) : Int)])) = G2 at z2 m2 ⊢
        rcases j2 with ⟨z, _⟩ | ⟨_, ⟨z, _⟩ | ⟨_, j2⟩⟩
        · exact absurd le z
        · exact absurd z (by decide)
        · exact ⟨_, _, rfl, eqd_made (by rw [List.length_zipWith]; omega) (by rw [List.length_zipWith]; omega) (j2.same z2) m2, q _ ((s4.trans f2).trans z2)⟩
      · exact absurd rfl z
end
end K24

set_option maxRecDepth 100000
set_option maxHeartbeats 8000000
namespace K24
open PySem PySem.Spec PyProof.Rows L2
section
variable {w : World} {K : PySem.W.Frag} {mg : Str → Option Value} {base : Heap}
/-- what a pinning tells -/
def IsPn (K : PySem.W.Frag) (H : Hp) (t : Addr) (ls hs : List Int) (i lo hi : Int) : Prop :=
  (¬ (0 ≤ i ∧ i < ls.length) ∧ SqT K H t [.str "NoPerson", .int i, .bl true, .bl true, .bl false]) ∨
  ((0 ≤ i ∧ i < ls.length) ∧ ((∃ k n, bad top 0 [lo, hi] = some (k, n) ∧ SqT K H t [.str "BadNumber", .int ((k : Nat) : Int), .int n, .bl true, .bl true, .bl false]) ∨
    (bad top 0 [lo, hi] = none ∧ IsM K H t (ls.set i.toNat lo) (hs.set i.toNat hi) .made)))
def spTryP (K : PySem.W.Frag) : Sp := fun vs H Q _ => ∃ (p : Addr) (ls hs : List Int) (i lo hi : Int), vs = [.ref p, .int i, .int lo, .int hi] ∧ IsB K H p ls hs ∧ ∀ H' t, Same H H' → IsPn K H' t ls hs i lo hi → Q (.ref t) H'
theorem ok_law_try_pinned (T : Tx K mg) : Ok PG w K mg base CX0 8 (a_law_try_pinned K) p_law_try_pinned (spTryP K) := by
  refine Ok.of 7 T.f_law_try_pinned sc_law_try_pinned bi_law_try_pinned (by decide) (fun vs H Q E h => ?_) (fun cdv A outer s H vs Q E hr h => ?_)
  · obtain ⟨_, _, _, _, _, _, rfl, _⟩ := h
    rfl
  · obtain ⟨p, ls, hs, i, lo, hi, rfl, hp, q⟩ := h
    obtain ⟨dx, t, u, p1, p2, p3, l1, l2, _⟩ := id hp
    have six : 6 ≤ sizeLine := by decide
    have five : 5 ≤ sizeLine := by decide
    have nd := sc_law_try_pinned.nd
    refine ⟨_, pss_cons (ps_set (i := 4) nd rfl (.inl rfl) pe_non)
      (pss_cons (ps_set (i := 5) nd rfl (.inl rfl) (pe_tup (pa_cons pe_str pa_nil)))
      (pss_cons (ps_try_any rfl rfl nd takes0
          (fun W pn xe tk _ => (pss_one (ps_set (i := 4) nd rfl (.inl rfl) (pmethSS (ok_Bounds_pinned T) (pv 0) T.cBounds T.wBounds_pinned (hr.mono (by decide)) (fun σ => passAt tk σ) (pa_cons (pv 1) (pa_cons (pv 2) (pa_cons (pv 3) pa_nil)))))))
          (.as (i := 6) ⟨rfl, by decide, .inl T.e_NoPerson.gC⟩ rfl rfl (fun a oe cls d pn hz hf => (pss_one (ps_set (i := 5) nd rfl (.inl rfl) (pe_tup (pa_cons pe_str (pa_cons (pe_xf T.xNoPerson.1 T.nNoPerson_person hz hf (pv 6)) (pa_cons (pe_callB (call_isD T.xNoPerson.2 hz hf) (by rfl) T.m_isinstance (by decide +kernel) (pa_cons (pv 6) (pa_cons (pgC T.gNightsError) pa_nil))) (pa_cons (pe_callB (call_isD T.xNoPerson.2 hz hf) (by rfl) T.m_isinstance (by decide +kernel) (pa_cons (pv 6) (pa_cons (pe_bltn (v := .ty "ValueError") (by rfl) T.m_ValueError (by decide +kernel) rfl) pa_nil))) (pa_cons (pe_callB (call_isD T.xNoPerson.2 hz hf) (by rfl) T.m_isinstance (by decide +kernel) (pa_cons (pv 6) (pa_cons (pgC T.e_BadNumber.gC) pa_nil))) pa_nil)))))))))
          (.as (i := 6) ⟨rfl, by decide, .inl T.e_BadNumber.gC⟩ rfl rfl (fun a oe cls d pn hz hf => (pss_one (ps_set (i := 5) nd rfl (.inl rfl) (pe_tup (pa_cons pe_str (pa_cons (pe_xf T.xBadNumber.1 T.nBadNumber_place hz hf (pv 6)) (pa_cons (pe_xf T.xBadNumber.1 T.nBadNumber_number hz hf (pv 6)) (pa_cons (pe_callB (call_isD T.xBadNumber.2 hz hf) (by rfl) T.m_isinstance (by decide +kernel) (pa_cons (pv 6) (pa_cons (pgC T.gNightsError) pa_nil))) (pa_cons (pe_callB (call_isD T.xBadNumber.2 hz hf) (by rfl) T.m_isinstance (by decide +kernel) (pa_cons (pv 6) (pa_cons (pe_bltn (v := .ty "ValueError") (by rfl) T.m_ValueError (by decide +kernel) rfl) pa_nil))) (pa_cons (pe_callB (call_isD T.xBadNumber.2 hz hf) (by rfl) T.m_isinstance (by decide +kernel) (pa_cons (pv 6) (pa_cons (pgC T.e_NoPerson.gC) pa_nil))) pa_nil))))))))))
          .nil)))
      (pss_cons (ps_if (pt_cmpR op_notN (pv 4) pe_non (nomark _)) (pss_one (ps_set (i := 5) nd rfl (.inl rfl) (pc (ok_law_shown T) (hr.mono (by decide)) T.g_law_shown pass0 (pa_cons (pv 4) pa_nil)))) pss_nil)
      (pss_one (ps_ret (pv 5)))))), ?_⟩
    refine ⟨by show 1 ≤ sizeLine; decide, fun wd hwd => ?_⟩
    have s1 : Same H (upd H wd (.tup [.str "none"])) := .new hwd
    refine ⟨_, rfl, p, dx, _, rfl, s1 _ _ p1, rfl, _, rfl, _, rfl, _, rfl, p, ls, hs, i, lo, hi, rfl, hp.same s1, fun c => ?_, fun c => ⟨fun k n c2 => ?_, fun c2 H' r sm hb => ?_⟩⟩
    · intro H' d sm hd
      have s2 : Same H (upd H' d (xP i)) := (s1.trans sm).new' hd
      refine ⟨true, T.mNoPerson_NoPerson, fun _ x hx => ?_, fun z => nomatch z⟩
      refine ⟨_, rfl, rfl, rfl, d, _, _, rfl, upd_same, rfl, ?_⟩
      refine ⟨_, rfl, rfl, _, _, true, d, _, rfl, fun u r => r, rfl, upd_same, T.kNoPerson_NightsError, ?_⟩
      refine ⟨_, rfl, rfl, _, _, true, d, _, rfl, fun u r => r, rfl, upd_same, T.kNoPerson_ValueError, ?_⟩
      refine ⟨_, rfl, rfl, _, _, false, d, _, rfl, fun u r => r, rfl, upd_same, T.kNoPerson_BadNumber, ?_⟩
      refine ⟨five, fun w2 hw2 => ?_⟩
      refine ⟨_, rfl, rfl, _, rfl, iteF ?_⟩
      exact ⟨_, rfl, q _ w2 (s2.new' hw2) (.inl ⟨c, SqT.of upd_same⟩)⟩
    · intro H' d sm hd
      have s2 : Same H (upd H' d (xB (k : Nat) n)) := (s1.trans sm).new' hd
      refine ⟨false, T.mBadNumber_NoPerson, ⟨fun z => Bool.noConfusion z, fun _ => ⟨true, T.mBadNumber_BadNumber, fun _ x hx => ?_, fun z => nomatch z⟩⟩⟩
      refine ⟨_, rfl, rfl, rfl, d, _, _, rfl, upd_same, rfl, ?_⟩
      refine ⟨_, rfl, rfl, rfl, d, _, _, rfl, upd_same, rfl, ?_⟩
      refine ⟨_, rfl, rfl, _, _, true, d, _, rfl, fun u r => r, rfl, upd_same, T.kBadNumber_NightsError, ?_⟩
      refine ⟨_, rfl, rfl, _, _, true, d, _, rfl, fun u r => r, rfl, upd_same, T.kBadNumber_ValueError, ?_⟩
      refine ⟨_, rfl, rfl, _, _, false, d, _, rfl, fun u r => r, rfl, upd_same, T.kBadNumber_NoPerson, ?_⟩
      refine ⟨six, fun w2 hw2 => ?_⟩
      refine ⟨_, rfl, rfl, _, rfl, iteF ?_⟩
      exact ⟨_, rfl, q _ w2 (s2.new' hw2) (.inr ⟨c, .inl ⟨k, n, c2, SqT.of upd_same⟩⟩)⟩
    · refine ⟨_, rfl, rfl, _, rfl, iteT ?_⟩
      exact ⟨_, rfl, r, _, _, rfl, hb, fun H2 t2 s2 ht => ⟨_, rfl, q _ t2 ((s1.trans sm).trans s2) (.inr ⟨c, .inr ⟨c2, ht⟩⟩)⟩⟩
end
end K24

set_option maxRecDepth 100000
set_option maxHeartbeats 4000000
/-! # rows of numbers: ==, != -/
namespace L2
open PySem PySem.Spec PyProof.Rows
theorem dp_ints {K : PySem.W.Frag} {H : Hp} : ∀ (ns : List Int), DpAll K H (ns.map V.int) (ns.map PyData.int)
  | [] => .nil
  | n :: ns => .cons (.int n) (dp_ints ns)
theorem eqvAll_ints : ∀ (ns ms : List Int), PyData.eqvAll (ns.map PyData.int) (ms.map PyData.int) = decide (ns = ms)
  | [], [] => rfl
  | [], _ :: _ => rfl
  | _ :: _, [] => rfl
  | n :: ns, m :: ms => by
    rw [List.map_cons, List.map_cons, PyData.eqvAll, eqvAll_ints ns ms]
    show (decide (n = m) && decide (ns = ms)) = _
    by_cases h : n = m <;> by_cases h' : ns = ms <;> simp [h, h']
theorem shaped_tup (ns : List Int) : SeqAt.shaped (.tuple (ns.map PyData.int)) = true := by
  simp [SeqAt.shaped, PyData.canLay0, PyData.depth, PySem.W.ke_canLayAll0, PySem.W.ke_depthAll]
theorem shaped_lst (ns : List Int) : SeqAt.shaped (.list (ns.map PyData.int)) = true := by
  simp [SeqAt.shaped, PyData.canLay0, PyData.depth, PySem.W.ke_canLayAll0, PySem.W.ke_depthAll]
section
variable {X : Cx}
/-- two rows of numbers, both tuples or both lists -/
def rEqRow (K : PySem.W.Frag) (neg : Bool) : R2 := fun x y H Q => ∃ (a b : Addr) (ns ms : List Int), x = .ref a ∧ y = .ref b ∧ ((SqT K H a (ns.map V.int) ∧ SqT K H b (ms.map V.int)) ∨ (SqL K H a (ns.map V.int) ∧ SqL K H b (ms.map V.int))) ∧ Q (.bl (if neg = true then !decide (ns = ms) else decide (ns = ms))) H
theorem op_eqRow (hu : X.A.units + 64 < cLine) : OpR X (compareOp .Eq) (rEqRow X.K false) := by
  intro pins s σ H x y v u Q I rx ry h
  obtain ⟨a, b, ns, ms, rfl, rfl, hs, q⟩ := h
  rcases hs with ⟨h1, h2⟩ | ⟨h1, h2⟩
  · refine op_eqD hu pins s σ H _ _ v u Q I rx ry ⟨.tuple (ns.map PyData.int), .tuple (ms.map PyData.int), .tup h1 (dp_ints ns), .tup h2 (dp_ints ms), shaped_tup ns, shaped_tup ms, ?_⟩
    rw [PyData.eqv, eqvAll_ints]
    exact q
  · refine op_eqD hu pins s σ H _ _ v u Q I rx ry ⟨.list (ns.map PyData.int), .list (ms.map PyData.int), .lst h1 (dp_ints ns), .lst h2 (dp_ints ms), shaped_lst ns, shaped_lst ms, ?_⟩
    rw [PyData.eqv, eqvAll_ints]
    exact q
theorem op_neRow (hu : X.A.units + 64 < cLine) : OpR X (compareOp .NotEq) (rEqRow X.K true) := by
  intro pins s σ H x y v u Q I rx ry h
  obtain ⟨a, b, ns, ms, rfl, rfl, hs, q⟩ := h
  rcases hs with ⟨h1, h2⟩ | ⟨h1, h2⟩
  · refine op_neD hu pins s σ H _ _ v u Q I rx ry ⟨.tuple (ns.map PyData.int), .tuple (ms.map PyData.int), .tup h1 (dp_ints ns), .tup h2 (dp_ints ms), shaped_tup ns, shaped_tup ms, ?_⟩
    rw [PyData.eqv, eqvAll_ints]
    exact q
  · refine op_neD hu pins s σ H _ _ v u Q I rx ry ⟨.list (ns.map PyData.int), .list (ms.map PyData.int), .lst h1 (dp_ints ns), .lst h2 (dp_ints ms), shaped_lst ns, shaped_lst ms, ?_⟩
    rw [PyData.eqv, eqvAll_ints]
    exact q
end
end L2

set_option maxRecDepth 100000
set_option maxHeartbeats 4000000
/-! # Readings answered step by step -/
namespace L2
open PySem PySem.Spec PyProof.Rows
theorem Same.get {H H' : Hp} {b : Addr} {o : HO} (s : Same H H') (h : H b = some o) : H' b = some o := s b o h
theorem But.get {p : Addr} {H H' : Hp} {b : Addr} {o : HO} (s : But p H H') (n : b ≠ p) (h : H b = some o) : H' b = some o := s b o n h
theorem ne_free {H : Hp} {a p : Addr} (hp : H p = none) (h : ∃ o, H a = some o) : a ≠ p := fun z => by
  obtain ⟨o, h⟩ := h
  rw [z, hp] at h; cases h
theorem iteD {p A B : Prop} [Decidable p] (h1 : p → A) (h2 : ¬ p → B) : if decide p = true then A else B := by
  by_cases c : p
  · rw [if_pos (decide_eq_true c)]; exact h1 c
  · rw [if_neg (fun z => c (of_decide_eq_true z))]; exact h2 c
theorem iteN {p A B : Prop} [Decidable p] (h1 : ¬ p → A) (h2 : p → B) : if (!decide p) = true then A else B := by
  by_cases c : p
  · rw [decide_eq_true c]; exact iteF (h2 c)
  · rw [decide_eq_false c]; exact iteT (h1 c)
theorem iteB {b : Bool} {A B : Prop} (h1 : b = true → A) (h2 : b = false → B) : if b = true then A else B := by
  cases b with
  | true => exact iteT (h1 rfl)
  | false => exact iteF (h2 rfl)
theorem iteNB {b : Bool} {A B : Prop} (h1 : b = false → A) (h2 : b = true → B) : if (!b) = true then A else B := by
  cases b with
  | true => exact iteF (h2 rfl)
  | false => exact iteT (h1 rfl)
theorem at1 {ms : List Int} {j : Nat} (h : j < ms.length) : atI (ms.map V.int) ((j : Nat) : Int) = some (V.int (ms.getD j 0)) := atI_nat (by rw [List.getElem?_map, List.getD_eq_getElem?_getD, List.getElem?_eq_getElem h]; rfl)
theorem at0 {ms : List Int} {j : Nat} (h : j < ms.length) : atI (ms.map V.int) (0 + ((j : Nat) : Int)) = some (V.int (ms.getD j 0)) := by rw [Int.zero_add]; exact at1 h
theorem atI_z {ms : List Int} {j : Int} (h0 : 0 ≤ j) (h : j < ms.length) : atI (ms.map V.int) j = some (V.int (ms.getD j.toNat 0)) := by
  obtain ⟨k, rfl⟩ : ∃ k : Nat, j = k := ⟨j.toNat, by omega⟩
  exact at1 (by omega)
theorem sizeLe {n : Nat} (h : n.ble 1000 = true) : n ≤ sizeLine := by
  have := Nat.le_of_ble_eq_true h
  rw [sizeLine_eq]; omega
theorem drawOk {m : Int} (h0 : 0 < m) (h : m < 2 ^ 190) : m.natAbs < 2 ^ 200 := by
  have : m.natAbs < 2 ^ 190 := by omega
  exact Nat.lt_trans this (by decide)
theorem flat_one {α : Type} (v : α) : ∀ n : Nat, (List.replicate n [v]).flatten = List.replicate n v
  | 0 => rfl
  | n + 1 => by rw [List.replicate_succ, List.flatten_cons, flat_one v n, List.replicate_succ]; rfl
theorem rep_int (n : Nat) (v : Int) : List.replicate n (V.int v) = (List.replicate n v).map V.int := by rw [List.map_replicate]
theorem tyL {K : PySem.W.Frag} {H : Hp} {p : Addr} (h : ∃ xs, H p = some (.lst xs)) : tyV K "list" (.ref p) H := let ⟨_, h⟩ := h; .inl ⟨rfl, _, SqL.of h⟩
theorem ixN_ok {n : Nat} {i : Int} (h0 : 0 ≤ i) (h : i < n) : ixN n i = some i.toNat := by
  unfold ixN
  rw [if_pos h0, if_pos h]
theorem butLate {p L : Addr} {H H' : Hp} {o : HO} (b : But p H H') (h : H L = none) : But p H (upd H' L o) := fun c u n e => by
  rw [upd_ne (fun z => by rw [z, h] at e; cases e)]
  exact b c u n e
theorem atG {xs : List V} {i : Int} {v : V} (h : atI xs i = some v) : atI xs i = some v := h
theorem tf {G : Prop} (h : true = false) : G := nomatch h
theorem ft {G : Prop} (h : false = true) : G := nomatch h
theorem sameLate {L : Addr} {H H' : Hp} {o : HO} (b : Same H H') (h : H L = none) : Same H (upd H' L o) := fun c u e => by
  rw [upd_ne (fun z => by rw [z, h] at e; cases e)]
  exact b c u e
/-- two lists, or two tuples, of numbers -/
def rEqL (K : PySem.W.Frag) : R2 := fun x y H Q => ∃ (a b : Addr) (ns ms : List Int), x = .ref a ∧ y = .ref b ∧ SqL K H a (ns.map V.int) ∧ SqL K H b (ms.map V.int) ∧ Q (.bl (decide (ns = ms))) H
def rNeL (K : PySem.W.Frag) : R2 := fun x y H Q => ∃ (a b : Addr) (ns ms : List Int), x = .ref a ∧ y = .ref b ∧ SqL K H a (ns.map V.int) ∧ SqL K H b (ms.map V.int) ∧ Q (.bl (!decide (ns = ms))) H
def rEqT (K : PySem.W.Frag) : R2 := fun x y H Q => ∃ (a b : Addr) (ns ms : List Int), x = .ref a ∧ y = .ref b ∧ SqT K H a (ns.map V.int) ∧ SqT K H b (ms.map V.int) ∧ Q (.bl (decide (ns = ms))) H
def rNeT (K : PySem.W.Frag) : R2 := fun x y H Q => ∃ (a b : Addr) (ns ms : List Int), x = .ref a ∧ y = .ref b ∧ SqT K H a (ns.map V.int) ∧ SqT K H b (ms.map V.int) ∧ Q (.bl (!decide (ns = ms))) H
theorem op_eqL {X : Cx} (hu : X.A.units + 64 < cLine) : OpR X (compareOp .Eq) (rEqL X.K) := by
  intro pins s σ H x y v u Q I rx ry h
  obtain ⟨a, b, ns, ms, e1, e2, h1, h2, q⟩ := h
  exact op_eqRow hu pins s σ H x y v u Q I rx ry ⟨a, b, ns, ms, e1, e2, .inr ⟨h1, h2⟩, q⟩
theorem op_neL {X : Cx} (hu : X.A.units + 64 < cLine) : OpR X (compareOp .NotEq) (rNeL X.K) := by
  intro pins s σ H x y v u Q I rx ry h
  obtain ⟨a, b, ns, ms, e1, e2, h1, h2, q⟩ := h
  exact op_neRow hu pins s σ H x y v u Q I rx ry ⟨a, b, ns, ms, e1, e2, .inr ⟨h1, h2⟩, q⟩
theorem op_eqT {X : Cx} (hu : X.A.units + 64 < cLine) : OpR X (compareOp .Eq) (rEqT X.K) := by
  intro pins s σ H x y v u Q I rx ry h
  obtain ⟨a, b, ns, ms, e1, e2, h1, h2, q⟩ := h
  exact op_eqRow hu pins s σ H x y v u Q I rx ry ⟨a, b, ns, ms, e1, e2, .inl ⟨h1, h2⟩, q⟩
theorem op_neT {X : Cx} (hu : X.A.units + 64 < cLine) : OpR X (compareOp .NotEq) (rNeT X.K) := by
  intro pins s σ H x y v u Q I rx ry h
  obtain ⟨a, b, ns, ms, e1, e2, h1, h2, q⟩ := h
  exact op_neRow hu pins s σ H x y v u Q I rx ry ⟨a, b, ns, ms, e1, e2, .inl ⟨h1, h2⟩, q⟩
theorem lateMid {L : Addr} {H0 H H' : Hp} {o : HO} (h : H L = none) (s0 : Same H0 H) (s : Same H H') : Same H0 (upd H' L o) := s0.trans (sameLate s h)
theorem getLate {H H' : Hp} {x b : Addr} {o u : HO} (hx : H x = none) (s : Same H H') (h : H b = some u) : upd H' x o b = some u := sameLate s hx _ _ h
theorem at_hd {v : V} {r : List V} : atI (v :: r) 0 = some v := atI_nat (j := 0) rfl
theorem repL {K : PySem.W.Frag} {H : Hp} {a : Addr} {n : Nat} {v : Int} (h : H a = some (.lst (List.replicate n [V.int v]).flatten)) : SqL K H a ((List.replicate n v).map V.int) := by
  rw [flat_one, rep_int] at h
  exact .of h
/-- [i] * k -/
def rRepI : R2 := fun x y H Q => ∃ (l : Addr) (k i : Int), x = .ref l ∧ y = .int k ∧ H l = some (.lst [.int i]) ∧ -(2 ^ 63) ≤ k ∧ k < 2 ^ 63 ∧ k.toNat ≤ sizeLine ∧ ∀ p, H p = none → Q (.ref p) (upd H p (.lst ((List.replicate k.toNat i).map V.int)))
theorem op_repI {X : Cx} : OpR X (binaryOp .Mult) rRepI := by
  intro pins s σ H x y v u Q I rx ry h
  obtain ⟨l, k, i, e1, e2, hl, a, b, c, q⟩ := h
  refine op_rep pins s σ H x y v u Q I rx ry ⟨l, k, _, e1, e2, hl, a, b, by show 1 * k.toNat ≤ _; omega, fun p hp => ?_⟩
  rw [flat_one, rep_int]
  exact q p hp
theorem at2I {w a b : Int} (h0 : 0 ≤ w) (h : w < 2) : atI [V.int a, V.int b] w = some (V.int (if w = 0 then a else b)) := by
  rcases (by omega : w = 0 ∨ w = 1) with rfl | rfl <;> rfl
theorem at3I {w a b c : Int} (h0 : 0 ≤ w) (h : w < 3) : atI [V.int a, V.int b, V.int c] w = some (V.int (if w = 0 then a else if w = 1 then b else c)) := by
  rcases (by omega : w = 0 ∨ w = 1 ∨ w = 2) with rfl | rfl | rfl <;> rfl
theorem at4I {w a b c d : Int} (h0 : 0 ≤ w) (h : w < 4) : atI [V.int a, V.int b, V.int c, V.int d] w = some (V.int (if w = 0 then a else if w = 1 then b else if w = 2 then c else d)) := by
  rcases (by omega : w = 0 ∨ w = 1 ∨ w = 2 ∨ w = 3) with rfl | rfl | rfl | rfl <;> rfl
theorem at5I {w a b c d e : Int} (h0 : 0 ≤ w) (h : w < 5) : atI [V.int a, V.int b, V.int c, V.int d, V.int e] w = some (V.int (if w = 0 then a else if w = 1 then b else if w = 2 then c else if w = 3 then d else e)) := by
  rcases (by omega : w = 0 ∨ w = 1 ∨ w = 2 ∨ w = 3 ∨ w = 4) with rfl | rfl | rfl | rfl | rfl <;> rfl
theorem exV {P : V → Prop} {x : V} (h : P x) : ∃ x, P x := ⟨x, h⟩
theorem exA {P : Addr → Prop} {x : Addr} (h : P x) : ∃ x, P x := ⟨x, h⟩
theorem exI {P : Int → Prop} {x : Int} (h : P x) : ∃ x, P x := ⟨x, h⟩
theorem exL {α : Type} {P : List α → Prop} {x : List α} (h : P x) : ∃ x, P x := ⟨x, h⟩
theorem exB {P : Bool → Prop} {x : Bool} (h : P x) : ∃ x, P x := ⟨x, h⟩
theorem exS {P : Str → Prop} {x : Str} (h : P x) : ∃ x, P x := ⟨x, h⟩
theorem exVal {P : Value → Prop} {x : Value} (h : P x) : ∃ x, P x := ⟨x, h⟩
theorem exPI {P : PyData → Prop} {x : PyData} (h : P x) : ∃ x, P x := ⟨x, h⟩
theorem exF {α β : Type} {P : List (α × β) → Prop} {x : List (α × β)} (h : P x) : ∃ x, P x := ⟨x, h⟩
theorem iteX {c A B : Prop} [Decidable c] (h : if c then A else B) : if c then A else B := h
theorem iteDI {a b : Int} {A B : Prop} (h1 : a = b → A) (h2 : a ≠ b → B) : if decide (V.int a = V.int b) = true then A else B := iteD (fun h => h1 (V.int.inj h)) (fun h => h2 fun e => h (by rw [e]))
theorem iteNI {a b : Int} {A B : Prop} (h1 : a ≠ b → A) (h2 : a = b → B) : if (!decide (V.int a = V.int b)) = true then A else B := iteN (fun h => h1 fun e => h (by rw [e])) (fun h => h2 (V.int.inj h))
/-- two statements, one behind the other: here a reading may be cut -/
@[irreducible] def tCutI (t u : TS) : TS := tSeq t u
theorem tCutI_eq (t u : TS) : tCutI t u = tSeq t u := by unfold tCutI; rfl
theorem pss_cutI {X : Cx} {st : Stmt} {sts : List Stmt} {t u : TS} (h1 : PS X st t) (h2 : PSs X sts u) : PSs X (st :: sts) (tCutI t u) := by rw [tCutI_eq]; exact pss_cons h1 h2
theorem cutI {t u : TS} {D : Ends} {σ : L2.St} {H : Hp} (P : L2.St → Hp → Prop) (h1 : ∀ N : L2.St → Hp → Prop, (∀ σ' H', P σ' H' → N σ' H') → t { D with nx := N } σ H) (h2 : ∀ σ' H', P σ' H' → u D σ' H') : tCutI t u D σ H := by
  rw [tCutI_eq]
  exact h1 _ h2
theorem noCut {t u : TS} {D : Ends} {σ : L2.St} {H : Hp} (h : tSeq t u D σ H) : tCutI t u D σ H := by rw [tCutI_eq]; exact h
end L2
open L2
/- the chain of heaps -/
local macro_rules | `(tactic| o_fieldsN) => `(tactic| first
  | exact L2.Same.refl _
  | with_reducible assumption
  | (refine L2.Same.new' ?_ (by with_reducible assumption); o_fieldsN)
  | (refine L2.sameLate ?_ (by with_reducible assumption); o_fieldsN)
  | (refine L2.Same.new' ?_ ((L2.upd_ne (Ne.symm (by with_reducible assumption))).trans (by with_reducible assumption)); o_fieldsN)
  | (refine L2.Same.trans ?_ (by with_reducible assumption); o_fieldsN)
  | (refine L2.lateMid (by with_reducible assumption) ?_ ?_; (· o_fieldsN); (· o_fieldsN))
  | exact L2.But.refl _ _
  | (refine L2.But.trans ?_ (L2.But.of (L2.Same.new (by with_reducible assumption))); o_fieldsN)
  | (refine L2.But.trans ?_ L2.But.set; o_fieldsN)
  | (refine L2.butLate ?_ (by with_reducible assumption); o_fieldsN)
  | (refine L2.But.trans ?_ (by with_reducible assumption); o_fieldsN)
  | (refine L2.But.trans ?_ (L2.But.of (by with_reducible assumption)); o_fieldsN))
/- two places differ -/
local macro_rules | `(tactic| wrow_none_raised) => `(tactic| first
  | with_reducible assumption
  | (refine Ne.symm ?_; with_reducible assumption)
  | (refine L2.ne_free (by with_reducible assumption) ?_; apply Exists.intro; reads_via_all)
  | (refine Ne.symm ?_; refine L2.ne_free (by with_reducible assumption) ?_; apply Exists.intro; reads_via_all))
/- what stands at a place -/
local macro_rules | `(tactic| reads_via_all) => `(tactic| first
  | with_reducible assumption
  | exact L2.upd_same
  | (refine L2.Same.get (L2.Same.new (by with_reducible assumption)) ?_; reads_via_all)
  | (refine L2.getLate (by with_reducible assumption) ?_ ?_; (· o_fieldsN); (· reads_via_all))
  | (refine (L2.upd_ne ?_).trans ?_; (· wrow_none_raised); (· reads_via_all))
  | (refine L2.Same.get (by with_reducible assumption) ?_; reads_via_all)
  | (refine L2.But.get (by with_reducible assumption) ?_ ?_; (· wrow_none_raised); (· reads_via_all)))
/- a side condition -/
local macro_rules | `(tactic| o_readsAll) => `(tactic| first
  | exact rfl
  | with_reducible assumption
  | exact L2.sizeLe rfl
  | reads_via_all
  | exact ⟨by decide, by decide, by decide⟩
  | exact fun _ r => r
  | exact L2.Eqd.atom (.bl _) | exact L2.Eqd.atom (.int _)
  | (refine L2.Same.seq ?_ (by with_reducible assumption); o_fieldsN)
  | (refine L2.Same.seqT ?_ (by with_reducible assumption); o_fieldsN)
  | (refine L2.Same.seqA ?_ (by with_reducible assumption); o_fieldsN)
  | (refine L2.SqL.of ?_; reads_via_all)
  | (refine L2.SqT.of ?_; reads_via_all)
  | ((with_reducible apply Exists.intro); o_readsAll)
  | (refine L2.tyL ?_; (with_reducible apply Exists.intro); reads_via_all)
  | (refine Or.inl ?_; o_readsAll)
  | (refine Or.inr ?_; o_readsAll)
  | wrow_none_raised
  | exact L2.at_hd
  | exact L2.at0 (by omega)
  | exact L2.at1 (by omega)
  | exact L2.atI_z (by omega) (by omega)
  | exact L2.at2I (by omega) (by omega)
  | exact L2.at3I (by omega) (by omega)
  | exact L2.at4I (by omega) (by omega)
  | exact L2.at5I (by omega) (by omega)
  | exact List.getElem?_eq_getElem (by omega)
  | (apply L2.ixN_ok <;> omega)
  | omega
  | exact L2.drawOk (by omega) (by omega)
  | (simp only [L2.flat_one, List.length_map, List.length_append, List.length_replicate, List.length_cons, List.length_nil, PySem.sizeLine_eq]; omega)
  | decide
  | assumption)
/- one step -/
local macro_rules | `(tactic| fold_depth) => `(tactic| first
  | (with_reducible exact L2.tf) | (with_reducible exact L2.ft)
  | (with_reducible intro _)
  | ((with_reducible apply L2.exV)) | ((with_reducible apply L2.exA)) | ((with_reducible apply L2.exI)) | ((with_reducible apply L2.exB)) | ((with_reducible apply L2.exL)) | ((with_reducible apply L2.exS)) | ((with_reducible apply L2.exVal))
  | ((with_reducible refine And.intro ?_ ?_); (· o_readsAll))
  | (with_reducible refine And.intro (fun _ => ?_) ?_)
  | ((with_reducible refine L2.iteX ?_); first
    | (with_reducible refine L2.iteT ?_)
    | (with_reducible refine L2.iteF ?_)
    | ((with_reducible refine L2.iteDI ?_ ?_) <;> intro h <;> first | (exfalso; omega) | exact absurd rfl h | skip)
    | ((with_reducible refine L2.iteNI ?_ ?_) <;> intro h <;> first | (exfalso; omega) | exact absurd rfl h | skip)
    | ((with_reducible refine L2.iteD ?_ ?_) <;> intro h <;> first | (exfalso; omega) | exact absurd rfl h | skip)
    | ((with_reducible refine L2.iteN ?_ ?_) <;> intro h <;> first | (exfalso; omega) | exact absurd rfl h | skip)
    | refine L2.iteT ?_
    | refine L2.iteF ?_
    | ((with_reducible refine L2.iteNB ?_ ?_) <;> intro h <;> first | (exfalso; omega) | exact absurd rfl h | skip)
    | ((with_reducible refine L2.iteB ?_ ?_) <;> intro h <;> first | (exfalso; omega) | exact absurd rfl h | skip))
  | ((with_reducible refine Or.inl ?_); (with_reducible refine And.intro ?_ ?_); (· o_readsAll))
  | ((with_reducible refine Or.inr ?_); (with_reducible refine And.intro ?_ ?_); (· o_readsAll)))
local macro_rules | `(tactic| o_reads) => `(tactic| ((repeat' (first | fold_depth | ((conv => whnf); fold_depth))) <;> try ((fail_if_success (with_reducible refine Exists.intro (fun (_ : Nat) => ?_) ?_)); dsimp only)))

set_option maxRecDepth 100000
set_option maxHeartbeats 8000000
namespace K24
open PySem PySem.Spec PyProof.Rows L2
section
variable {w : World} {K : PySem.W.Frag} {mg : Str → Option Value} {base : Heap}
def spDuePinned (K : PySem.W.Frag) : Sp := fun vs H Q _ => ∃ (a b : Addr) (ls hs : List Int) (i lo hi : Int), vs = [.ref a, .ref b, .int i, .int lo, .int hi] ∧ H a = some (.lst (ls.map V.int)) ∧ H b = some (.lst (hs.map V.int)) ∧ ls.length ≤ 900 ∧ hs.length = ls.length ∧ ∀ H' t, Same H H' → IsPn K H' t ls hs i lo hi → Q (.ref t) H'
theorem ok_law_due_pinned (T : Tx K mg) : Ok PG w K mg base CX0 2 (a_law_due_pinned K) p_law_due_pinned (spDuePinned K) := by
  refine Ok.of 1 T.f_law_due_pinned sc_law_due_pinned bi_law_due_pinned (by decide) (fun vs H Q E h => ?_) (fun cdv A outer s H vs Q E hr h => ?_)
  · obtain ⟨_, _, _, _, _, _, _, rfl, _⟩ := h
    rfl
  · obtain ⟨a, b, ls, hs, i, lo, hi, rfl, ha, hb, l9, lh, q⟩ := h
    have nd := sc_law_due_pinned.nd
    refine ⟨_, pss_cons (ps_if (pt_not (pt_chain op_le op_lt pe_int (pv 2) (pe_callB call_len_seq (by rfl) T.m_len PySem.boot_len (pa_cons (pv 0) pa_nil)))) (pss_one (ps_ret (pe_tup (pa_cons pe_str (pa_cons (pv 2) (pa_cons pe_bl (pa_cons pe_bl (pa_cons pe_bl pa_nil)))))))) pss_nil)
      (pss_cons (ps_if (pt_not (pt_chain op_le op_le pe_int (pv 3) (pe_op op_pow pe_int pe_int))) (pss_one (ps_ret (pe_tup (pa_cons pe_str (pa_cons pe_int (pa_cons (pv 3) (pa_cons pe_bl (pa_cons pe_bl (pa_cons pe_bl pa_nil))))))))) pss_nil)
      (pss_cons (ps_if (pt_not (pt_chain op_le op_le pe_int (pv 4) (pe_op op_pow pe_int pe_int))) (pss_one (ps_ret (pe_tup (pa_cons pe_str (pa_cons pe_int (pa_cons (pv 4) (pa_cons pe_bl (pa_cons pe_bl (pa_cons pe_bl pa_nil))))))))) pss_nil)
      (pss_cons (ps_set (i := 5) nd rfl (.inl rfl) (pe_op op_cat (pe_op op_cat (pe_slice sl_list (pv 0) po_none (po_some (pv 2))) (pe_lst (pa_cons (pv 3) pa_nil))) (pe_slice sl_list (pv 0) (po_some (pe_op op_add (pv 2) pe_int)) po_none)))
      (pss_cons (ps_set (i := 6) nd rfl (.inl rfl) (pe_op op_cat (pe_op op_cat (pe_slice sl_list (pv 1) po_none (po_some (pv 2))) (pe_lst (pa_cons (pv 4) pa_nil))) (pe_slice sl_list (pv 1) (po_some (pe_op op_add (pv 2) pe_int)) po_none)))
      (pss_one (ps_ret (pe_tup (pa_cons pe_str (pa_cons (pe_callTy call_tuple_of (by rfl) T.m_tuple (by decide +kernel) (pa_cons (pv 5) pa_nil)) (pa_cons (pe_callTy call_tuple_of (by rfl) T.m_tuple (by decide +kernel) (pa_cons (pv 6) pa_nil)) (pa_cons (pe_callB call_len_seq (by rfl) T.m_len PySem.boot_len (pa_cons (pv 0) pa_nil)) pa_nil))))))))))), ?_⟩
    dsimp only [cxOf]
    have five : 5 ≤ sizeLine := by decide
    have t10 := ten
    have lm : (ls.map V.int).length = ls.length := List.length_map ..
    have lm2 : (hs.map V.int).length = hs.length := List.length_map ..
    have fin : ∀ (t : Addr) (xs : List V), H t = none → (SqT K (upd H t (.tup xs)) t xs → IsPn K (upd H t (.tup xs)) t ls hs i lo hi) → Q (.ref t) (upd H t (.tup xs)) := fun t xs ht h => q _ t (.new ht) (h (SqT.of upd_same))
    obtain ⟨k, rfl⟩ | hi0 : (∃ k : Nat, i = k) ∨ i < 0 := by
      rcases (by omega : i < 0 ∨ 0 ≤ i) with h | h
      · exact .inr h
      · exact .inl ⟨i.toNat, by omega⟩
    · have cA : ∀ us : List Int, (cutV (us.map V.int) none (some (k : Int))).length ≤ us.length := fun us => by rw [cutTo, List.length_take, List.length_map]; omega
      have cB : ∀ us : List Int, (cutV (us.map V.int) (some ((k : Int) + 1)) none).length ≤ us.length := fun us => by rw [show (k : Int) + 1 = ((k + 1 : Nat) : Int) from rfl, cutFrom, List.length_drop, List.length_map]; omega
      have c1 := cA ls
      have c2 := cA hs
      have c3 := cB ls
      have c4 := cB hs
      have eS : ∀ (us : List Int) (v : Int), k < us.length → cutV (us.map V.int) none (some (k : Int)) ++ [V.int v] ++ cutV (us.map V.int) (some ((k : Int) + 1)) none = (us.set (k : Int).toNat v).map V.int := fun us v h => by
        rw [show (k : Int) + 1 = ((k + 1 : Nat) : Int) from rfl, cutFrom, cutTo, Int.toNat_natCast, List.set_eq_take_append_cons_drop, if_pos h, List.map_append, List.map_cons, List.map_take, List.map_drop, List.append_assoc]
        rfl
      have eL : (((ls.set (k : Int).toNat lo).length : Nat) : Int) = (((ls.map V.int).length : Nat) : Int) := by rw [List.length_set, lm]
      o_reads
      all_goals try (exfalso; omega)
      all_goals try exact fin _ _ (by assumption) fun h => .inl ⟨by omega, h⟩
      all_goals try exact fin _ _ (by assumption) fun h => .inr ⟨by omega, .inl ⟨0, _, by rw [bad, if_neg (by omega)], h⟩⟩
      all_goals try exact fin _ _ (by assumption) fun h => .inr ⟨by omega, .inl ⟨1, _, by rw [bad, if_pos (by omega), bad, if_neg (by omega)], h⟩⟩
      all_goals try refine q _ _ (by o_fieldsN) (.inr ⟨by omega, .inr ⟨by rw [bad, if_pos (by omega), bad, if_pos (by omega)]; rfl, _, _, by rw [eL]; exact SqT.of upd_same, ?_, ?_⟩⟩)
      · rw [← eS ls lo (by omega)]; o_readsAll
      · rw [← eS hs hi (by omega)]; o_readsAll
    · o_reads
      all_goals try (exfalso; omega)
      all_goals try exact fin _ _ (by assumption) fun h => .inl ⟨by omega, h⟩
end
end K24

set_option maxRecDepth 100000
set_option maxHeartbeats 4000000
/-! # [f(pool, x) for x in xs] -/
namespace L2
open PySem PySem.Spec PyProof.Rows
theorem lc_drawsL {K : PySem.W.Frag} {a : Addr} {ms : List Int} {i0 : Nat} {te : TE} {vs : List Nat} {σ : L2.St} {H1 : Hp} {D p : Addr} {st : List V} {Qd : Hp → Prop} {C : Int → Prop} (hp : H1 p = some (.lst st)) (ok : PoolOk st) (hD : H1 D = none) (ha : H1 a = some (.lst (ms.map V.int))) (na : a ≠ p) (hn : ms.length ≤ 10000)
    (hte : ∀ (x : Int) (H2 : Hp) (st2 : List V), x ∈ ms → H2 p = some (.lst st2) → PoolOk st2 → But p H1 H2 → wipe ((wipe σ vs).set i0 (some (.int x))) vs = wipe σ vs ∧ ∀ Q : VK, (∀ v H3 st3, C v → But p H2 H3 → H3 p = some (.lst st3) → PoolOk st3 → Q (.int v) H3) → te ((wipe σ vs).set i0 (some (.int x))) H2 Q)
    (hd : ∀ (H' : Hp) (ns : List Int) (st' : List V), But p H1 H' → H' p = some (.lst st') → PoolOk st' → D ≠ p → H' D = some (.lst (ns.map V.int)) → ns.length = ms.length → (∀ x ∈ ns, C x) → Qd H') :
    ∃ W : Nat → Nat → Hp → Prop, (∃ m, W 0 m (upd H1 D (.lst []))) ∧ ∀ i m H, W i m H →
      ((Itl K a).stop i H ∧ Qd H) ∨ ((Itl K a).go i H ∧ ∃ Nx : Hp → Prop, (∀ H', Nx H' → ∃ m', m' < m ∧ W (i + 1) m' H') ∧ ∀ x H', (Itl K a).yld i H x H' → gName i0 x (wipe σ vs) H' fun σ2 H2 => wipe σ2 vs = wipe σ vs ∧ tYes σ2 H2 fun b H3 =>
        if b = true then te σ2 H3 fun y H4 => ∃ acc, H4 D = some (.lst acc) ∧ acc.length < sizeLine ∧ Nx (upd H4 D (.lst (acc ++ [y]))) else Nx H3) := by
  have dp : D ≠ p := fun z => by rw [z, hp] at hD; cases hD
  refine lc_list (xs := ms.map V.int) (fun i H' => ∃ (ns : List Int) (st' : List V), But p H1 H' ∧ H' p = some (.lst st') ∧ PoolOk st' ∧ H' D = some (.lst (ns.map V.int)) ∧ ns.length = i ∧ ∀ x ∈ ns, C x) ⟨[], st, .of (.new hD), by rw [upd_ne (Ne.symm dp)]; exact hp, ok, upd_same, rfl, fun x hx => by cases hx⟩ (fun i H' _ ⟨ns, st', bt, _⟩ => .of (bt _ _ na ha)) ?_ ?_
  · rintro i x H' hx ⟨ns, st', bt, hp', ok', hl, hn', hb⟩
    obtain ⟨v, hv, rfl⟩ := map_get hx
    obtain ⟨e1, e2⟩ := hte v H' st' (List.mem_of_getElem? hv) hp' ok' bt
    have hi : i < ms.length := (List.getElem?_eq_some_iff.mp hv).1
    refine ⟨e1, yesT (e2 _ fun v H3 st3 hv b3 hp3 ok3 => ?_)⟩
    refine ⟨ns.map V.int, b3 _ _ dp hl, by rw [List.length_map, hn', sizeLine_eq]; omega, ns ++ [v], st3, fun c o nc hc => ?_, ?_, ok3, ?_, ?_, fun x hx => ?_⟩
    · have nD : c ≠ D := fun z => by rw [z, hD] at hc; cases hc
      rw [upd_ne nD]
      exact b3 c o nc (bt c o nc hc)
    · rw [upd_ne (Ne.symm dp)]; exact hp3
    · rw [upd_same, List.map_append]; rfl
    · rw [List.length_append, hn']; rfl
    · rcases List.mem_append.mp hx with hx | hx
      · exact hb x hx
      · rw [List.mem_singleton.mp hx]; exact hv
  · rintro H' ⟨ns, st', bt, hp', ok', hl, hn', hb⟩
    rw [List.length_map] at hn'
    exact hd H' ns st' bt hp' ok' dp hl hn' hb
/-- [f(x) for x in xs], f tells a number and changes nothing -/
theorem lc_mapL {K : PySem.W.Frag} {a : Addr} {ms : List Int} {f : Int → Int} {i0 : Nat} {te : TE} {vs : List Nat} {σ : L2.St} {H1 : Hp} {D : Addr} {Qd : Hp → Prop} (ha : SqL K H1 a (ms.map V.int)) (hD : H1 D = none) (hn : ms.length ≤ 10000)
    (hte : ∀ (x : Int) (H2 : Hp), x ∈ ms → Same H1 H2 → wipe ((wipe σ vs).set i0 (some (.int x))) vs = wipe σ vs ∧ ∀ Q : VK, (∀ H3, Same H2 H3 → Q (.int (f x)) H3) → te ((wipe σ vs).set i0 (some (.int x))) H2 Q)
    (hd : ∀ (H' : Hp), Same H1 H' → H' D = some (.lst ((ms.map f).map V.int)) → Qd H') :
    ∃ W : Nat → Nat → Hp → Prop, (∃ m, W 0 m (upd H1 D (.lst []))) ∧ ∀ i m H, W i m H →
      ((Itl K a).stop i H ∧ Qd H) ∨ ((Itl K a).go i H ∧ ∃ Nx : Hp → Prop, (∀ H', Nx H' → ∃ m', m' < m ∧ W (i + 1) m' H') ∧ ∀ x H', (Itl K a).yld i H x H' → gName i0 x (wipe σ vs) H' fun σ2 H2 => wipe σ2 vs = wipe σ vs ∧ tYes σ2 H2 fun b H3 =>
        if b = true then te σ2 H3 fun y H4 => ∃ acc, H4 D = some (.lst acc) ∧ acc.length < sizeLine ∧ Nx (upd H4 D (.lst (acc ++ [y]))) else Nx H3) := by
  refine lc_list (xs := ms.map V.int) (fun i H' => Same H1 H' ∧ H' D = some (.lst (((ms.map f).take i).map V.int)) ∧ i ≤ ms.length) ⟨.new hD, upd_same, Nat.zero_le _⟩ (fun i H' _ z => z.1.seq ha) ?_ ?_
  · rintro i x H' hx ⟨s, hl, hi⟩
    obtain ⟨v, hv, rfl⟩ := map_get hx
    obtain ⟨e1, e2⟩ := hte v H' (List.mem_of_getElem? hv) s
    have hi : i < ms.length := (List.getElem?_eq_some_iff.mp hv).1
    refine ⟨e1, yesT (e2 _ fun H3 s3 => ?_)⟩
    refine ⟨_, s3 _ _ hl, by rw [List.length_map, List.length_take, sizeLine_eq]; omega, sameLate (s.trans s3) hD, ?_, hi⟩
    rw [upd_same, List.take_succ, List.getElem?_map, hv, List.map_append]
    rfl
  · rintro H' ⟨s, hl, hi⟩
    rw [List.length_map, List.take_of_length_le (by rw [List.length_map]; exact Nat.le_refl _)] at hl
    exact hd H' s hl
/-- [f(i) for i in range(n)] -/
theorem lc_rangeF {n : Nat} {f : Nat → Int} {i0 : Nat} {te : TE} {vs : List Nat} {σ : L2.St} {H1 : Hp} {D : Addr} {Qd : Hp → Prop} (hD : H1 D = none) (hn : n ≤ 10000)
    (hte : ∀ (i : Nat) (H2 : Hp), i < n → Same H1 H2 → wipe ((wipe σ vs).set i0 (some (.int (0 + ((i : Nat) : Int))))) vs = wipe σ vs ∧ ∀ Q : VK, (∀ H3, Same H2 H3 → Q (.int (f i)) H3) → te ((wipe σ vs).set i0 (some (.int (0 + ((i : Nat) : Int))))) H2 Q)
    (hd : ∀ (H' : Hp), Same H1 H' → H' D = some (.lst (((List.range n).map f).map V.int)) → Qd H') :
    ∃ W : Nat → Nat → Hp → Prop, (∃ m, W 0 m (upd H1 D (.lst []))) ∧ ∀ i m H, W i m H →
      ((Itr 0 n).stop i H ∧ Qd H) ∨ ((Itr 0 n).go i H ∧ ∃ Nx : Hp → Prop, (∀ H', Nx H' → ∃ m', m' < m ∧ W (i + 1) m' H') ∧ ∀ x H', (Itr 0 n).yld i H x H' → gName i0 x (wipe σ vs) H' fun σ2 H2 => wipe σ2 vs = wipe σ vs ∧ tYes σ2 H2 fun b H3 =>
        if b = true then te σ2 H3 fun y H4 => ∃ acc, H4 D = some (.lst acc) ∧ acc.length < sizeLine ∧ Nx (upd H4 D (.lst (acc ++ [y]))) else Nx H3) := by
  refine lc_range (lo := 0) (n := n) (fun i H' => Same H1 H' ∧ H' D = some (.lst (((List.range i).map f).map V.int))) ⟨.new hD, upd_same⟩ ?_ ?_
  · rintro i H' hi ⟨s, hl⟩
    obtain ⟨e1, e2⟩ := hte i H' hi s
    refine ⟨e1, yesT (e2 _ fun H3 s3 => ?_)⟩
    refine ⟨_, s3 _ _ hl, by rw [List.length_map, List.length_map, List.length_range, sizeLine_eq]; omega, sameLate (s.trans s3) hD, ?_⟩
    rw [upd_same, List.range_succ, List.map_append, List.map_append]
    rfl
  · rintro H' ⟨s, hl⟩
    exact hd H' s hl
end L2

set_option maxRecDepth 100000
set_option maxHeartbeats 8000000
namespace K24
open PySem PySem.Spec PyProof.Rows L2
section
variable {w : World} {K : PySem.W.Frag} {mg : Str → Option Value} {base : Heap}
/-- the pool turned on, two lists at A and B -/
structure Two (p A B : Addr) (H H' : Hp) (ms ns : List Int) : Prop where
  bt : But p H H'
  hp : ∃ st, H' p = some (.lst st) ∧ PoolOk st
  nA : A ≠ p
  nB : B ≠ p
  hA : H' A = some (.lst (ms.map V.int))
  hB : H' B = some (.lst (ns.map V.int))
  lA : ms.length ≤ 100
  lB : ns.length ≤ 100
def spSpoiled (K : PySem.W.Frag) : Sp := fun vs H Q _ => ∃ (p x : Addr) (st : List V) (ls hs : List Int), vs = [.ref p, .ref x] ∧ H p = some (.lst st) ∧ PoolOk st ∧ IsPair K H x ls hs ∧ ls.length ≤ 30 ∧ hs.length ≤ 30 ∧
  ∀ H' (r A B : Addr) (ms ns : List Int), r ≠ p → H' r = some (.lst [.ref A, .ref B]) → Two p A B H H' ms ns → Q (.ref r) H'
theorem ok_law_spoiled (T : Tx K mg) : Ok PG w K mg base CX0 4 (a_law_spoiled K) p_law_spoiled (spSpoiled K) := by
  refine Ok.of 3 T.f_law_spoiled sc_law_spoiled bi_law_spoiled (by decide) (fun vs H Q E h => ?_) (fun cdv A outer s H vs Q E hr h => ?_)
  · obtain ⟨_, _, _, _, _, rfl, _⟩ := h
    rfl
  · obtain ⟨p, x, st, ls, hs, rfl, hp, ok, ⟨a, b, hx, ha, hb⟩, l3, h3, q⟩ := h
    have nd := sc_law_spoiled.nd
    refine ⟨_, pss_cons (ps_set (i := 2) nd rfl (.inl rfl) (pe_callTy call_list_of (by rfl) T.m_list (by decide +kernel) (pa_cons (pe_ix ix_list (pv 1) pe_int (fun _ _ => rfl)) pa_nil)))
      (pss_cons (ps_set (i := 3) nd rfl (.inl rfl) (pe_callTy call_list_of (by rfl) T.m_list (by decide +kernel) (pa_cons (pe_ix ix_list (pv 1) pe_int (fun _ _ => rfl)) pa_nil)))
      (pss_cutI (ps_if (pt_cmpR op_eq (pc (ok_law_draw T) (hr.mono (by decide)) T.g_law_draw pass0 (pa_cons (pv 0) (pa_cons pe_int pa_nil))) pe_int (nomark _)) (pss_one (ps_set (i := 2) nd rfl (.inl rfl) (pe_op op_cat (pv 2) (pe_op op_repI (pe_lst (pa_cons pe_int pa_nil)) (pe_op op_sub (pe_op op_add pe_int (pc (ok_law_draw T) (hr.mono (by decide)) T.g_law_draw pass0 (pa_cons (pv 0) (pa_cons pe_int pa_nil)))) (pe_callB call_len_seq (by rfl) T.m_len PySem.boot_len (pa_cons (pv 2) pa_nil))))))) pss_nil)
      (pss_cutI (ps_if (pt_cmpR op_eq (pc (ok_law_draw T) (hr.mono (by decide)) T.g_law_draw pass0 (pa_cons (pv 0) (pa_cons pe_int pa_nil))) pe_int (nomark _)) (pss_one (ps_setLc (i := 2) (own := [("low", 4)]) (g := gName 4) (tt := tYes) rfl nd rfl rfl (sw_true rfl rfl rfl (by decide +kernel)) (pi_list (pv 2)) (blkOk_by (N := n_law_spoiled) (sc := defScope s_law_spoiled) (by decide +kernel)) (fun _ _ _ _ _ => pg_name (i := 4) nd rfl (Or.inl rfl)) (fun _ _ _ _ _ => pts_nil) (fun _ _ _ _ _ => pc (ok_law_perhaps_bad T) hr T.g_law_perhaps_bad pass0 (pa_cons (pv 0) (pa_cons (pv 4) pa_nil))))) pss_nil)
      (pss_cutI (ps_if (pt_cmpR op_eq (pc (ok_law_draw T) (hr.mono (by decide)) T.g_law_draw pass0 (pa_cons (pv 0) (pa_cons pe_int pa_nil))) pe_int (nomark _)) (pss_one (ps_setLc (i := 3) (own := [("high", 5)]) (g := gName 5) (tt := tYes) rfl nd rfl rfl (sw_true rfl rfl rfl (by decide +kernel)) (pi_list (pv 3)) (blkOk_by (N := n_law_spoiled) (sc := defScope s_law_spoiled) (by decide +kernel)) (fun _ _ _ _ _ => pg_name (i := 5) nd rfl (Or.inl rfl)) (fun _ _ _ _ _ => pts_nil) (fun _ _ _ _ _ => pc (ok_law_perhaps_bad T) hr T.g_law_perhaps_bad pass0 (pa_cons (pv 0) (pa_cons (pv 5) pa_nil))))) pss_nil)
      (pss_cons (ps_set (i := 6) nd rfl (.inl rfl) (pc (ok_law_draw T) (hr.mono (by decide)) T.g_law_draw pass0 (pa_cons (pv 0) (pa_cons pe_int pa_nil))))
      (pss_cutI (ps_if (pt_cmpR op_eq (pv 6) pe_int (nomark _)) (pss_one (ps_set (i := 3) nd rfl (.inl rfl) (pe_op op_cat (pv 3) (pe_lc (own := [("more", 7)]) (g := gName 7) (tt := tYes) rfl nd (pi_range1 rfl T.m_range (pa_cons (pe_op op_add pe_int (pc (ok_law_draw T) (hr.mono (by decide)) T.g_law_draw pass0 (pa_cons (pv 0) (pa_cons pe_int pa_nil)))) pa_nil)) (blkOk_by (N := n_law_spoiled) (sc := defScope s_law_spoiled) (by decide +kernel)) (fun _ _ _ _ _ => pg_name (i := 7) nd rfl (Or.inl rfl)) (fun _ _ _ _ _ => pts_nil) (fun _ _ _ _ _ => pc (ok_law_number T) hr T.g_law_number pass0 (pa_cons (pv 0) pa_nil)))))) (pss_one (ps_if (pt_cmpR op_eq (pv 6) pe_int (nomark _)) (pss_one (ps_set (i := 3) nd rfl (.inl rfl) (pe_slice sl_list (pv 3) po_none (po_some (pc (ok_law_draw T) (hr.mono (by decide)) T.g_law_draw pass0 (pa_cons (pv 0) (pa_cons (pe_op op_add (pe_callB call_len_seq (by rfl) T.m_len PySem.boot_len (pa_cons (pv 3) pa_nil)) pe_int) pa_nil))))))) pss_nil)))
      (pss_one (ps_ret (pe_lst (pa_cons (pv 2) (pa_cons (pv 3) pa_nil))))))))))), ?_⟩
    dsimp only [cxOf]
    have lm : ∀ us : List Int, (us.map V.int).length = us.length := fun us => List.length_map ..
    o_reads
    rename_i A nA B nB
    have nAp : A ≠ p := ne_free nA ⟨_, hp⟩ |>.symm
    have nBp : B ≠ p := by
      refine (ne_free nB ⟨_, (Same.new nA) _ _ hp⟩).symm
    have nBA : A ≠ B := ne_free nB ⟨_, upd_same⟩
    have g0 : ∀ G, G = upd (upd H A (.lst (ls.map V.int))) B (.lst (hs.map V.int)) → Two p A B H G ls hs := fun G e => by
      subst e
      exact ⟨.of ((Same.new nA).new' nB), ⟨st, ((Same.new nA).new' nB) _ _ hp, ok⟩, nAp, nBp, by rw [upd_ne nBA, upd_same], upd_same, by omega, by omega⟩
    refine cutI (fun σ' H' => ∃ A ms, σ' = [some (.ref p), some (.ref x), some (.ref A), some (.ref B), none, none, none, none] ∧ Two p A B H H' ms hs) (fun N next => ?_) (fun σ' G z => ?_)
    · o_reads
      · rename_i v _ _ _ _ _ _ _ _
        refine next _ _ ⟨_, ls ++ List.replicate (31 + v - ((ls.map V.int).length : Nat)).toNat 0, rfl, ⟨by o_fieldsN, ⟨_, by reads_via_all, by assumption⟩, by wrow_none_raised, nBp, ?_, by reads_via_all, ?_, by omega⟩⟩
        · rw [List.map_append]; exact upd_same
        · simp only [lm, List.length_append, List.length_replicate]; omega
      · refine next _ _ ⟨_, _, rfl, ⟨by o_fieldsN, ⟨_, by reads_via_all, by assumption⟩, by wrow_none_raised, nBp, by reads_via_all, by reads_via_all, by omega, by omega⟩⟩
    clear g0 nBA nBp nAp nA nB
    obtain ⟨A, ms, rfl, ⟨bt, ⟨st1, hp1, ok1⟩, nA, nB, hA, hB, lA, lB⟩⟩ := z
    refine cutI (fun σ' H' => ∃ A ms, σ' = [some (.ref p), some (.ref x), some (.ref A), some (.ref B), none, none, none, none] ∧ Two p A B H H' ms hs) (fun N next => ?_) (fun σ' G z => ?_)
    · o_reads
      · rename_i D hD
        refine lc_drawsL (C := fun _ => True) upd_same (by assumption) hD (by rw [upd_ne nA]; exact hA) nA (by omega) (fun v H2 st2 _ h2 o2 b2 => ⟨rfl, fun Q q => ?_⟩) (fun H3 ns st3 b3 h3 o3 dp hl hn _ => ?_)
        · o_reads
          exact q _ _ _ trivial (by assumption) (by assumption) (by assumption)
        · o_reads
          exact next _ _ ⟨_, _, rfl, ⟨by o_fieldsN, ⟨_, h3, o3⟩, dp, nB, hl, by reads_via_all, by omega, by omega⟩⟩
      · exact next _ _ ⟨_, _, rfl, ⟨by o_fieldsN, ⟨_, by reads_via_all, by assumption⟩, nA, nB, by reads_via_all, by reads_via_all, by omega, by omega⟩⟩
    clear bt hp1 ok1 nA nB hA hB lA lB
    obtain ⟨A, ms, rfl, ⟨bt, ⟨st1, hp1, ok1⟩, nA, nB, hA, hB, lA, lB⟩⟩ := z
    refine cutI (fun σ' H' => ∃ B x4 x5 ns, σ' = [some (.ref p), some (.ref x), some (.ref A), some (.ref B), x4, x5, none, none] ∧ Two p A B H H' ms ns ∧ ns.length ≤ 30) (fun N next => ?_) (fun σ' G z => ?_)
    · o_reads
      · rename_i D hD
        refine lc_drawsL (C := fun _ => True) upd_same (by assumption) hD (by rw [upd_ne nB]; exact hB) nB (by omega) (fun v H2 st2 _ h2 o2 b2 => ⟨rfl, fun Q q => ?_⟩) (fun H3 ns st3 b3 h3 o3 dp hl hn _ => ?_)
        · o_reads
          exact q _ _ _ trivial (by assumption) (by assumption) (by assumption)
        · o_reads
          exact next _ _ ⟨_, _, _, _, rfl, ⟨by o_fieldsN, ⟨_, h3, o3⟩, nA, dp, by reads_via_all, hl, by omega, by omega⟩, by omega⟩
      · exact next _ _ ⟨_, _, _, _, rfl, ⟨by o_fieldsN, ⟨_, by reads_via_all, by assumption⟩, nA, nB, by reads_via_all, by reads_via_all, by omega, by omega⟩, by omega⟩
    clear bt hp1 ok1 nA nB hA hB lA lB
    obtain ⟨B, x4, x5, ns, rfl, ⟨bt, ⟨st1, hp1, ok1⟩, nA, nB, hA, hB, lA, lB⟩, l30⟩ := z
    o_reads
    rename_i way st2 _ _ ok2
    refine cutI (fun σ' H' => ∃ B x4 x5 x6 x7 ns, σ' = [some (.ref p), some (.ref x), some (.ref A), some (.ref B), x4, x5, x6, x7] ∧ Two p A B H H' ms ns) (fun N next => ?_) (fun σ' G z => ?_)
    · o_reads
      · rename_i D hD
        refine lc_draws (C := fun _ => True) upd_same (by assumption) hD (by omega) (fun v H2 st2 h2 o2 b2 => ⟨rfl, fun Q q => ?_⟩) (fun H3 us st3 b3 h3 o3 hl hn _ => ?_)
        · o_reads
          exact q _ _ _ trivial (by assumption) (by assumption) (by assumption)
        · o_reads
          exact next _ _ ⟨_, _, _, _, _, ns ++ us, rfl, ⟨by o_fieldsN, ⟨_, (Same.new (by assumption)) _ _ h3, o3⟩, nA, by wrow_none_raised, by reads_via_all, by rw [List.map_append]; exact upd_same, by omega, by simp only [List.length_append]; omega⟩⟩
      · o_reads
        rename_i v _ _ _ _ _ _
        obtain ⟨k, rfl⟩ : ∃ k : Nat, v = k := ⟨v.toNat, by omega⟩
        exact next _ _ ⟨_, _, _, _, _, ns.take k, rfl, ⟨by o_fieldsN, ⟨_, by reads_via_all, by assumption⟩, nA, by wrow_none_raised, by reads_via_all, by rw [List.map_take, cutTo]; exact upd_same, by omega, by rw [List.length_take]; omega⟩⟩
      · exact next _ _ ⟨_, _, _, _, _, _, rfl, ⟨by o_fieldsN, ⟨_, by reads_via_all, by assumption⟩, nA, nB, by reads_via_all, by reads_via_all, by omega, by omega⟩⟩
    clear bt hp1 ok1 nA nB hA hB lA lB
    obtain ⟨B, x4, x5, x6, x7, ns, rfl, ⟨bt, ⟨st1, hp1, ok1⟩, nA, nB, hA, hB, lA, lB⟩⟩ := z
    o_reads
    exact q _ _ A B ms ns (by wrow_none_raised) upd_same ⟨by o_fieldsN, ⟨_, by reads_via_all, by assumption⟩, nA, nB, by reads_via_all, by reads_via_all, by omega, by omega⟩
end
end K24

set_option maxRecDepth 100000
set_option maxHeartbeats 8000000
namespace K24
open PySem PySem.Spec PyProof.Rows L2
section
variable {w : World} {K : PySem.W.Frag} {mg : Str → Option Value} {base : Heap}
def In0 (ns : List Int) : Prop := ∀ x ∈ ns, 0 ≤ x ∧ x ≤ top
theorem In0.get {ns : List Int} (h : In0 ns) {i : Nat} (hi : i < ns.length) : 0 ≤ ns.getD i 0 ∧ ns.getD i 0 ≤ top := by
  rw [List.getD_eq_getElem?_getD, List.getElem?_eq_getElem hi]
  exact h _ (List.getElem_mem hi)
def spAsked (K : PySem.W.Frag) : Sp := fun vs H Q _ => ∃ (p a b : Addr) (st : List V) (ls hs : List Int), vs = [.ref p, .ref a, .ref b] ∧ H p = some (.lst st) ∧ PoolOk st ∧ a ≠ p ∧ b ≠ p ∧ H a = some (.lst (ls.map V.int)) ∧ H b = some (.lst (hs.map V.int)) ∧ ls.length ≤ 30 ∧ hs.length = ls.length ∧ In0 ls ∧ In0 hs ∧
  ∀ H' (l : Addr) (ns : List Int) (st' : List V), l ≠ p → But p H H' → H' p = some (.lst st') → PoolOk st' → H' l = some (.lst (ns.map V.int)) → ns.length ≤ 30 → In0 ns → Q (.ref l) H'
theorem ok_law_asked (T : Tx K mg) : Ok PG w K mg base CX0 4 (a_law_asked K) p_law_asked (spAsked K) := by
  refine Ok.of 3 T.f_law_asked sc_law_asked bi_law_asked (by decide) (fun vs H Q E h => ?_) (fun cdv A outer s H vs Q E hr h => ?_)
  · obtain ⟨_, _, _, _, _, _, rfl, _⟩ := h
    rfl
  · obtain ⟨p, a, b, st, ls, hs, rfl, hp, ok, na, nb, ha, hb, l3, lh, i1, i2, q⟩ := h
    have nd := sc_law_asked.nd
    refine ⟨_, pss_cons (ps_set (i := 3) nd rfl (.inl rfl) (pe_lst pa_nil))
      (pss_cons (ps_for (passX rfl) rfl (pi_range1 rfl T.m_range (pa_cons (pe_callB call_len_seq (by rfl) T.m_len PySem.boot_len (pa_cons (pv 1) pa_nil)) pa_nil)) (pg_name (i := 4) nd rfl (.inl rfl))
        (pss_cons (ps_set (i := 5) nd rfl (.inl rfl) (pe_callB (call_max2 rfl) (by rfl) T.m_max (by decide +kernel) (pa_cons pe_int (pa_cons (pe_op op_sub (pe_ix ix_list (pv 2) (pv 4) (fun _ _ => rfl)) (pe_ix ix_list (pv 1) (pv 4) (fun _ _ => rfl))) pa_nil))))
          (pss_one (ps_expr (pe_bm PySem.F.plainAttrs_list PySem.F.slot_list_append PySem.F.type_list_append mt_append (pv 3) (pa_cons (pe_op op_add (pe_ix ix_list (pv 1) (pv 4) (fun _ _ => rfl)) (pc (ok_law_draw T) (hr.mono (by decide)) T.g_law_draw pass0 (pa_cons (pv 0) (pa_cons (pe_op op_add (pe_callB (call_min2 rfl) (by rfl) T.m_min (by decide +kernel) (pa_cons (pv 5) (pa_cons pe_int pa_nil))) pe_int) pa_nil)))) pa_nil))))))
      (pss_cons (ps_set (i := 6) nd rfl (.inl rfl) (pc (ok_law_number T) hr T.g_law_number pass0 (pa_cons (pv 0) pa_nil)))
      (pss_cons (ps_set (i := 7) nd rfl (.inl rfl) (pc (ok_law_draw T) (hr.mono (by decide)) T.g_law_draw pass0 (pa_cons (pv 0) (pa_cons pe_int pa_nil))))
      (pss_cutI (ps_if (PW.pt (pw_and (pt_cmpR op_lt (pv 7) pe_int (nomark _)) (pw_and1 (pt_cmpR op_gt (pe_callB call_len_seq (by rfl) T.m_len PySem.boot_len (pa_cons (pv 3) pa_nil)) pe_int (nomark _))))) (pss_cons (ps_set (i := 4) nd rfl (.inl rfl) (pc (ok_law_draw T) (hr.mono (by decide)) T.g_law_draw pass0 (pa_cons (pv 0) (pa_cons (pe_callB call_len_seq (by rfl) T.m_len PySem.boot_len (pa_cons (pv 3) pa_nil)) pa_nil))))
        (pss_one (ps_asg (pe_callB (call_min2 rfl) (by rfl) T.m_min (by decide +kernel) (pa_cons (pe_op op_pow pe_int pe_int) (pa_cons (pe_callB (call_max2 rfl) (by rfl) T.m_max (by decide +kernel) (pa_cons pe_int (pa_cons (pe_ix ix_list (pe_lst (pa_cons (pe_op op_sub (pe_ix ix_list (pv 1) (pv 4) (fun _ _ => rfl)) pe_int) (pa_cons (pe_op op_add (pe_ix ix_list (pv 2) (pv 4) (fun _ _ => rfl)) pe_int) (pa_cons (pv 6) pa_nil)))) (pv 7) (fun _ _ => rfl)) pa_nil))) pa_nil))) (pg_sub (pv 3) (pv 4) set_list)))) (pss_one (ps_if (PW.pt (pw_and (pt_cmpR op_eq (pv 7) pe_int (nomark _)) (pw_and1 (pt_cmpR op_gt (pe_callB call_len_seq (by rfl) T.m_len PySem.boot_len (pa_cons (pv 3) pa_nil)) pe_int (nomark _))))) (pss_one (ps_expr (pe_bm0 PySem.F.plainAttrs_list PySem.F.slot_list_pop PySem.F.type_list_pop mt_pop (pv 3)))) (pss_one (ps_if (PW.pt (pw_and (pt_cmpR op_eq (pv 7) pe_int (nomark _)) (pw_and1 (pt_cmpR op_lt (pe_callB call_len_seq (by rfl) T.m_len PySem.boot_len (pa_cons (pv 3) pa_nil)) pe_int (nomark _))))) (pss_one (ps_expr (pe_bm PySem.F.plainAttrs_list PySem.F.slot_list_append PySem.F.type_list_append mt_append (pv 3) (pa_cons (pc (ok_law_draw T) (hr.mono (by decide)) T.g_law_draw pass0 (pa_cons (pv 0) (pa_cons pe_int pa_nil))) pa_nil)))) pss_nil)))))
      (pss_one (ps_ret (pv 3))))))), ?_⟩
    dsimp only [cxOf]
    have lm : ∀ us : List Int, (us.map V.int).length = us.length := fun us => List.length_map ..
    o_reads
    rename_i L hL
    have nL : L ≠ p := by wrow_none_raised
    refine for_range (lo := 0) (n := (((ls.map V.int).length : Nat) : Int).toNat) (fun i σ H' => ∃ (x4 x5 : Option V) (ns : List Int) (st' : List V), σ = [some (.ref p), some (.ref a), some (.ref b), some (.ref L), x4, x5, none, none] ∧ But p H H' ∧ H' p = some (.lst st') ∧ PoolOk st' ∧ H' L = some (.lst (ns.map V.int)) ∧ ns.length = i ∧ In0 ns)
      ⟨_, _, [], st, rfl, by o_fieldsN, by reads_via_all, ok, upd_same, rfl, fun x hx => by cases hx⟩ ?_ ?_
    · rintro i σ H' hi ⟨x4, x5, ns, st', rfl, bt, hp', ok', hL', ln, i3⟩
      rw [lm] at hi
      have hi : i < ls.length := by omega
      have e1 := lm ls
      have e2 := lm hs
      have g1 := i1.get hi
      have g2 := i2.get (lh ▸ hi)
      o_reads
      rename_i v st2 v0 v1 ok2
      refine ⟨_, _, ns ++ [ls.getD i 0 + v], st2, rfl, ?_, by reads_via_all, ok2, by rw [List.map_append]; exact upd_same, by simp [ln], fun x hx => ?_⟩
      · o_fieldsN
      · rcases List.mem_append.mp hx with hx | hx
        · exact i3 x hx
        · rw [List.mem_singleton.mp hx]
          constructor <;> omega
    · rintro σ H' ⟨x4, x5, ns, st', rfl, bt, hp', ok', hL', ln, i3⟩
      rw [lm] at ln
      have ln : ns.length = ls.length := by omega
      o_reads
      rename_i other H2 st2 ob b2 f2 h2 ok2 way st3 w0 w1 ok3
      refine cutI (fun σ' H' => ∃ (x4 : Option V) (ns : List Int) (st' : List V), σ' = [some (.ref p), some (.ref a), some (.ref b), some (.ref L), x4, x5, some (.int other), some (.int way)] ∧ But p H H' ∧ H' p = some (.lst st') ∧ PoolOk st' ∧ H' L = some (.lst (ns.map V.int)) ∧ ns.length ≤ 30 ∧ In0 ns) (fun N next => ?_) (fun σ' G z => ?_)
      · have e1 := lm ls
        have e2 := lm hs
        have e3 := lm ns
        have t10 := ten
        o_reads
        all_goals try exact next _ _ ⟨_, ns, st3, rfl, by o_fieldsN, upd_same, ok3, by reads_via_all, by omega, i3⟩
        · rename_i v st4 v0 v1 ok4 lp hlp
          refine next _ _ ⟨_, ns.set v.toNat _, st4, rfl, by o_fieldsN, by reads_via_all, ok4, by rw [List.map_set]; exact upd_same, by rw [List.length_set]; omega, fun x hx => ?_⟩
          rcases List.mem_or_eq_of_mem_set hx with hx | rfl
          · exact i3 x hx
          · constructor <;> omega
        · refine next _ _ ⟨_, ns.dropLast, st3, rfl, by o_fieldsN, by reads_via_all, ok3, by rw [← List.map_dropLast]; exact upd_same, by rw [List.length_dropLast]; omega, fun x hx => i3 x (List.dropLast_subset _ hx)⟩
        · rename_i v st4 v0 v1 ok4
          refine next _ _ ⟨_, ns ++ [v], st4, rfl, by o_fieldsN, by reads_via_all, ok4, by rw [List.map_append]; exact upd_same, by simp only [List.length_append, List.length_cons, List.length_nil]; omega, fun x hx => ?_⟩
          rcases List.mem_append.mp hx with hx | hx
          · exact i3 x hx
          · rw [List.mem_singleton.mp hx]
            have : (2 : Int) ≤ top := by decide
            constructor <;> omega
      · obtain ⟨x4, ns, st', rfl, bt, hp', ok', hl, l30, i3⟩ := z
        o_reads
        exact q _ L ns st' nL bt hp' ok' hl l30 i3
end
end K24

set_option maxRecDepth 100000
set_option maxHeartbeats 8000000
namespace K24
open PySem PySem.Spec PyProof.Rows L2
section
variable {w : World} {K : PySem.W.Frag} {mg : Str → Option Value} {base : Heap}
theorem cr_or2 {X : Cx} {n : Value} {r1 r2 : List V → Hp → VK → Prop} (h1 : CallR X n r1) (h2 : CallR X n r2) : CallR X n (fun vs H Q => r1 vs H Q ∨ r2 vs H Q) := cr_or h1 h2 fun _ _ _ h => h
theorem ok_law_caught_as_base (T : Tx K mg) : Ok PG w K mg base CX0 6 (a_law_caught_as_base K) p_law_caught_as_base (spBase K) := by
  refine Ok.of 5 T.f_law_caught_as_base sc_law_caught_as_base bi_law_caught_as_base (by decide) (fun vs H Q E h => ?_) (fun cdv A outer s H vs Q E hr h => ?_)
  · obtain ⟨_, _, _, _, rfl, _⟩ := h
    rfl
  · obtain ⟨a, b, ls, hs, rfl, ha, hb, q⟩ := h
    have tf0 := T.mTooLong_NightsError
    have tf1 := T.kTooLong_ValueError
    have tf2 := T.mBadNumber_NightsError
    have tf3 := T.kBadNumber_ValueError
    have tf4 := T.mWrongLength_NightsError
    have tf5 := T.kWrongLength_ValueError
    have nd := sc_law_caught_as_base.nd
    refine ⟨_, pss_cons (ps_set (i := 2) nd rfl (.inl rfl) pe_bl)
      (pss_cons (ps_try_any rfl rfl nd takes0
          (fun W pn xe tk _ => (pss_one (ps_expr (pmkS (ok_Bounds_init T) T.kBounds (hr.mono (by decide)) T.gBounds (fun σ => passAt tk σ) (pa_cons (pv 0) (pa_cons (pv 1) pa_nil))))))
          (.as (i := 3) ⟨rfl, by decide, .inl T.gNightsError⟩ rfl rfl (fun a oe cls d pn hz hf => (pss_one (ps_set (i := 2) nd rfl (.inl rfl) (pe_callB (cr_or2 (call_isD T.xTooLong.2 hz hf) (cr_or2 (call_isD T.xBadNumber.2 hz hf) (call_isD T.xWrongLength.2 hz hf))) (by rfl) T.m_isinstance (by decide +kernel) (pa_cons (pv 3) (pa_cons (pe_bltn (v := .ty "ValueError") (by rfl) T.m_ValueError (by decide +kernel) rfl) pa_nil))))))
          .nil))
      (pss_one (ps_ret (pv 2)))), ?_⟩
    dsimp only [cxOf]
    o_reads
    rename_i x dx hx hdx hne
    have s1 : Same H (upd (upd H dx (.own x)) x (.ins (c_Bounds K) dx [])) := by o_fieldsN
    refine ⟨⟨fun c => ?_, fun c i n e => ?_, fun c d e => ?_, fun c d e i n g => ?_⟩, fun b1 b2 b3 b4 H' t u sm ht hu => ?_⟩
    · o_reads
      exact q .long _ c (by o_fieldsN)
    · o_reads
      refine .inr (.inl ?_)
      o_reads
      exact q (.badL i n) _ ⟨c, e⟩ (by o_fieldsN)
    · o_reads
      refine .inr (.inr ?_)
      o_reads
      exact q .wrong _ ⟨c, d, e⟩ (by o_fieldsN)
    · o_reads
      refine .inr (.inl ?_)
      o_reads
      exact q (.badH i n) _ ⟨c, d, e, g⟩ (by o_fieldsN)
    · o_reads
      exact q .made _ ⟨b1, b2, b3, b4⟩ (by o_fieldsN)
end
end K24

set_option maxRecDepth 100000
set_option maxHeartbeats 4000000
/-! # x in a, a an own instance with __contains__ -/
namespace L2
open PySem PySem.Spec PyProof.Rows PySem.W
theorem contains_fn {M : Model} {A : Around} {E : Value → Shared → Prop} {s : Shared} {K : Frag} {ox : Obj} {od : Option Obj} {a C f : Addr} {x : Value} {Q : Bool → Shared → Prop} (X : K.In s.heap) (I : InstAt s.heap a ox C od)
    (hs : findIn K (.ref C) "__contains__" = some (some (.ref f))) (hf : typeIn K (.ref f) = some (.type "function")) (h : wpAny M A (call (.ref f) [.ref a, x]) (fun v s' => wpAny M A (truthy v) Q E s') E s) :
    wpAny M A (contains (.ref a) x) Q E s := by
  unfold contains
  refine wpAny_holding ?_
  refine wpAny_bind (wpAny_bind (I.type.here ((looks_findIn X hs).here ?_)))
  show wpAny M A (if (some (Value.ref f) == some Value.none) = true then _ else _) Q E s
  rw [if_neg (show ¬ ((some (Value.ref f) == some Value.none) = true) from Bool.false_ne_true)]
  refine wpAny_bind ?_
  unfold callSpecialUnlessNone?
  refine wpAny_bind (wpAny_bind (I.type.here ((looks_findIn X hs).here ?_)))
  refine wpAny_holding (wpAny_bind ((bind_fn X _ hf).here ?_))
  show wpAny M A (if (Value.ref f == Value.none) = true then _ else _) _ E s
  rw [if_neg (show ¬ ((Value.ref f == Value.none) = true) from Bool.false_ne_true)]
  exact wpAny_bind (wpAny_mono h (fun v s' q => wpAny_pure q) fun _ _ z => z)
section
variable {X : Cx} {CX : CXT} {C f : Addr} {ps : List Str} {sp : Sp} {E : XK} {k : Nat}
def rOwnIn (C : Addr) (sp : Sp) (E : XK) : R2 := fun x y H Q => ∃ a dx fs, y = .ref a ∧ H a = some (.ins C dx fs) ∧ sp [.ref a, x] H (fun v H' => ∃ b, v = .bl b ∧ Q (.bl b) H') E
theorem op_in_own (O : Ok X.prog X.w X.K X.mg X.base CX k f ps sp) (W : findIn X.K (.ref C) "__contains__" = some (some (.ref f)) ∧ isFn X.K (.ref f) = true) (hr : Room k X.A) (hx : Passes CX X E) : OpR X (compareOp .In) (rOwnIn C sp E) := by
  obtain ⟨fd, F, hb, _⟩ := O.ex
  intro pins s σ H x y v u Q I rx ry h
  obtain ⟨a, dx, fs, rfl, ha, hsp⟩ := h
  cases ry
  obtain ⟨od, J⟩ := inst_of I.hok ha
  show wpAny _ _ (do return Value.bool (← contains (Value.ref a) v)) _ _ s
  refine wpAny_bind (contains_fn I.kIn J W.1 (beq_iff_eq.mp W.2) (wpAny_mono (run_fn F hr hb .nil hx I (us := [.ref a, v]) (vs := [.ref a, x]) (.cons rfl (.cons rx .nil)) hsp) (fun r s' q => ?_) fun _ _ z => z))
  obtain ⟨z, H', I', rz, b, rfl, q⟩ := q
  obtain rfl : r = Value.bool b := rz
  exact wpAny_truthy_bool (wpAny_pure ⟨.bl b, H', I', rfl, q⟩)
end
end L2

set_option maxRecDepth 100000
set_option maxHeartbeats 8000000
namespace K24
open PySem PySem.Spec PyProof.Rows L2
local macro_rules | `(tactic| o_readsAll) => `(tactic| (refine IsB.same (by with_reducible assumption) ?_; o_fieldsN))
section
variable {w : World} {K : PySem.W.Frag} {mg : Str → Option Value} {base : Heap}
theorem bad_in {ns : List Int} (h : In0 ns) : bad top 0 ns = none := by
  have : ∀ k, bad top k ns = none := by
    induction ns with
    | nil => intro k; rfl
    | cons n ns ih => intro k; rw [bad, if_pos (h n (by simp))]; exact ih (fun x hx => h x (by simp [hx])) _
  exact this 0
def spLyingRight (K : PySem.W.Frag) : Sp := fun vs H Q _ => ∃ (p n a b : Addr) (ls hs ns : List Int), vs = [.ref p, .ref n, .ref a, .ref b] ∧ IsB K H p ls hs ∧ SqL K H n (ns.map V.int) ∧ SqL K H a (ls.map V.int) ∧ SqL K H b (hs.map V.int) ∧ ns.length ≤ 30 ∧ In0 ns ∧ ∀ H', Same H H' → Q (.bl true) H'
theorem ok_law_lying_right (T : Tx K mg) : Ok PG w K mg base CX0 8 (a_law_lying_right K) p_law_lying_right (spLyingRight K) := by
  refine Ok.of 7 T.f_law_lying_right sc_law_lying_right bi_law_lying_right (by decide) (fun vs H Q E h => ?_) (fun cdv A outer s H vs Q E hr h => ?_)
  · obtain ⟨_, _, _, _, _, _, _, rfl, _⟩ := h
    rfl
  · obtain ⟨p, n, a, b, ls, hs, ns, rfl, hp, hn, ha, hb, n30, i0, q⟩ := h
    have nd := sc_law_lying_right.nd
    refine ⟨_, pss_cons (ps_set (i := 4) nd rfl (.inl rfl) (pc (ok_law_lies T) (hr.mono (by decide)) T.g_law_lies pass0 (pa_cons (pv 1) (pa_cons (pv 2) (pa_cons (pv 3) pa_nil)))))
      (pss_cons (ps_set (i := 5) nd rfl (.inl rfl) (pe_callTy call_list_of (by rfl) T.m_list (by decide +kernel) (pa_cons (pv 1) pa_nil)))
      (pss_cons (ps_if (PW.pt (pw_or (pt_not (pt_val (pc (ok_law_same T 0) (hr.mono (by decide)) T.g_law_same pass0 (pa_cons (pe_cmpR (op_in_own (ok_Bounds_contains T) T.wBounds_contains (hr.mono (by decide)) pass0) (pv 5) (pv 0) (by rfl)) (pa_cons (pv 4) pa_nil))))) (pw_or1 (pt_cmpR (op_neL hr.units) (pv 5) (pv 1) (nomark _))))) (pss_one (ps_ret pe_bl)) pss_nil)
      (pss_cons (ps_setLc (i := 6) (own := [("number", 7)]) (g := gName 7) (tt := tYes) rfl nd rfl rfl (sw_true rfl rfl rfl (by decide +kernel)) (pi_list (pv 1)) (blkOk_by (N := n_law_lying_right) (sc := defScope s_law_lying_right) (by decide +kernel)) (fun _ _ _ _ _ => pg_name (i := 7) nd rfl (Or.inl rfl)) (fun _ _ _ _ _ => pts_nil) (fun _ _ _ _ _ => pe_op op_sub (pe_op op_sub (pv 7) (pe_op op_pow pe_int pe_int)) pe_int))
      (pss_cons (ps_set (i := 8) nd rfl (.inl rfl) (pe_op op_cat (pe_callTy call_list_of (by rfl) T.m_list (by decide +kernel) (pa_cons (pv 2) pa_nil)) (pe_op op_repI (pe_lst (pa_cons pe_int pa_nil)) (pe_op op_sub pe_int (pe_callB call_len_seq (by rfl) T.m_len PySem.boot_len (pa_cons (pv 2) pa_nil))))))
      (pss_cons (ps_for (passX rfl) rfl (pi_list (pe_lst (pa_cons (pv 6) (pa_cons (pe_lc (own := [("number", 7)]) (g := gName 7) (tt := tYes) rfl nd (pi_list (pv 1)) (blkOk_by (N := n_law_lying_right) (sc := defScope s_law_lying_right) (by decide +kernel)) (fun _ _ _ _ _ => pg_name (i := 7) nd rfl (Or.inl rfl)) (fun _ _ _ _ _ => pts_nil) (fun _ _ _ _ _ => pe_op op_add (pv 7) (pe_op op_pow pe_int pe_int))) (pa_cons (pv 8) (pa_cons (pe_callTy call_tuple_of (by rfl) T.m_tuple (by decide +kernel) (pa_cons (pv 6) pa_nil)) pa_nil)))))) (pg_name (i := 9) nd rfl (.inl rfl))
        (pss_one (ps_if (pt_not (pt_val (pc (ok_law_same T 0) (hr.mono (by decide)) T.g_law_same pass0 (pa_cons (pe_cmpR (op_in_own (ok_Bounds_contains T) T.wBounds_contains (hr.mono (by decide)) pass0) (pe_callTy call_list_of (by rfl) T.m_list (by decide +kernel) (pa_cons (pv 9) pa_nil)) (pv 0) (by rfl)) (pa_cons (pc (ok_law_lies T) (hr.mono (by decide)) T.g_law_lies pass0 (pa_cons (pv 9) (pa_cons (pv 2) (pa_cons (pv 3) pa_nil)))) pa_nil))))) (pss_one (ps_ret pe_bl)) pss_nil)))
      (pss_one (ps_ret (pc (ok_law_same T 0) (hr.mono (by decide)) T.g_law_same pass0 (pa_cons (pe_cmpR (op_in_own (ok_Bounds_contains T) T.wBounds_contains (hr.mono (by decide)) pass0) (pmk (ok_Telling_init T) T.kTelling (hr.mono (by decide)) T.gTelling passF (pa_cons (pv 1) pa_nil)) (pv 0) (by rfl)) (pa_cons (pv 4) pa_nil)))))))))), ?_⟩
    dsimp only [cxOf]
    obtain ⟨dx, t, u, p1, p2, p3, l3, lh, _⟩ := id hp
    have lm : ∀ us : List Int, (us.map V.int).length = us.length := fun us => List.length_map ..
    have e1 := lm ns
    have e2 := lm ls
    o_reads
    rename_i hd hhd G0 s0 _ D hD
    have s0' : Same H (upd H hd (.lst (ns.map V.int))) := .new hhd
    refine lc_mapL (f := fun x => x - top - 1) (by o_readsAll) hD (by omega) (fun x H2 _ s2 => ⟨rfl, fun Q q => ?_⟩) (fun G sG hG => ?_)
    · o_reads
      rw [show (10 : Int) ^ (30 : Int).toNat = top from ten]
      exact q H2 (.refl _)
    · o_reads
      rename_i l4 hl4 z4 hz4 r4 hr4 L hL D2 hD2
      have kL : ∀ {F : Hp} {k : Int}, upd F L (.lst (ls.map V.int ++ (List.replicate k.toNat 0).map V.int)) L = some (.lst ((ls ++ List.replicate k.toNat 0).map V.int)) := fun {F k} => by rw [upd_same, ← List.map_append]
      have sB : ∀ o, Same G (upd _ L o) := fun o => ((((Same.new hl4).new' hz4).new' hr4).new' hL)
      refine lc_mapL (f := fun x => x + top) (by o_readsAll) hD2 (by omega) (fun x H2 _ s2 => ⟨rfl, fun Q q => ?_⟩) (fun G3 s3 h3 => ?_)
      · o_reads
        rw [show (10 : Int) ^ (30 : Int).toNat = top from ten]
        exact q H2 (.refl _)
      · have kL3 := s3 _ _ kL
        have sN : Same G G3 := (sB _).trans s3
        have kD3 := sN _ _ hG
        clear kL
        o_reads
        rename_i t2 ht2 r hr2
        have sR : Same G3 (upd (upd G3 t2 (.tup ((ns.map fun x => x - top - 1).map V.int))) r (.lst [.ref D, .ref D2, .ref L, .ref t2])) := by o_fieldsN
        have items : ∀ v ∈ [V.ref D, .ref D2, .ref L, .ref t2], ∃ (c : Addr) (us : List Int), v = .ref c ∧ us.length ≤ 100 ∧ SqA K (upd (upd G3 t2 (.tup ((ns.map fun x => x - top - 1).map V.int))) r (.lst [.ref D, .ref D2, .ref L, .ref t2])) c (us.map V.int) := by
          intro v hv
          simp only [List.mem_cons, List.not_mem_nil, or_false] at hv
          rcases hv with rfl | rfl | rfl | rfl
          · exact ⟨_, _, rfl, by rw [List.length_map]; omega, .inl (.of (sR _ _ kD3))⟩
          · exact ⟨_, _, rfl, by rw [List.length_map]; omega, .inl (.of (sR _ _ h3))⟩
          · exact ⟨_, _, rfl, by rw [List.length_append, List.length_replicate]; omega, .inl (.of (sR _ _ kL3))⟩
          · exact ⟨_, ns.map fun x => x - top - 1, rfl, by rw [List.length_map]; omega, .inr (.of ((Same.new hr2) _ _ upd_same))⟩
        have hrr : upd (upd G3 t2 (.tup ((ns.map fun x => x - top - 1).map V.int))) r (.lst [.ref D, .ref D2, .ref L, .ref t2]) r = some (.lst [.ref D, .ref D2, .ref L, .ref t2]) := upd_same
        generalize upd (upd G3 t2 (.tup ((ns.map fun x => x - top - 1).map V.int))) r (.lst [.ref D, .ref D2, .ref L, .ref t2]) = G4 at sR items hrr ⊢
        have sG4 : Same H G4 := (((s0'.trans s0).trans sG).trans sN).trans sR
        have hpG := hp.same sG4
        refine for_list (xs := [.ref D, .ref D2, .ref L, .ref t2]) (fun i σ H' => ∃ x9, σ = [some (.ref p), some (.ref n), some (.ref a), some (.ref b), some (.bl (lies ns ls hs)), some (.ref hd), some (.ref D), none, some (.ref L), x9] ∧ Same G4 H') ⟨_, rfl, .refl _⟩ (fun i σ H' _ z => ?_) (fun i v σ H' hv z => ?_) (fun σ H' z => ?_)
        · obtain ⟨x9, rfl, s5⟩ := z
          exact .of (s5 _ _ hrr)
        · obtain ⟨x9, rfl, s5⟩ := z
          obtain ⟨c, us, rfl, lu, hc⟩ := items v (List.mem_of_getElem? hv)
          have e5 := lm us
          have hc5 := s5.seqA hc
          o_reads
          exact ⟨_, rfl, by o_fieldsN⟩
        · obtain ⟨x9, rfl, s5⟩ := z
          have b0 := bad_in i0
          o_reads
          · rename_i e _ _ _ _
            rw [b0] at e; cases e
          · rename_i x dx hx hdx hne _ _ H6 t6 s6 ht6
            refine ⟨.inr ⟨dx, t6, upd_same, sqT_ins ht6 (s6 _ _ upd_same)⟩, ?_⟩
            o_reads
            exact q _ (by o_fieldsN)
end
end K24

set_option maxRecDepth 100000
set_option maxHeartbeats 8000000
namespace K24
open PySem PySem.Spec PyProof.Rows L2
section
variable {w : World} {K : PySem.W.Frag} {mg : Str → Option Value} {base : Heap}
def spSpoiled2 (K : PySem.W.Frag) : Sp := fun vs H Q _ => ∃ (p x : Addr) (st : List V) (ls hs : List Int), vs = [.ref p, .ref x] ∧ H p = some (.lst st) ∧ PoolOk st ∧ IsPair K H x ls hs ∧ ls.length ≤ 30 ∧ hs.length ≤ 30 ∧
  ∀ H' (r A B : Addr) (ms ns : List Int) st', r ≠ p → H' r = some (HO.lst [.ref A, .ref B]) → But p H H' → H' p = some (.lst st') → PoolOk st' → A ≠ p → B ≠ p → H' A = some (.lst (ms.map V.int)) → H' B = some (.lst (ns.map V.int)) → ms.length ≤ 100 → ns.length ≤ 100 → Q (.ref r) H'
theorem ok_law_spoiled2 (T : Tx K mg) : Ok PG w K mg base CX0 4 (a_law_spoiled K) p_law_spoiled (spSpoiled2 K) := (ok_law_spoiled T).imp fun _ _ _ _ h => by
  obtain ⟨p, x, st, ls, hs, a1, a2, a3, a4, a5, a6, q⟩ := h
  exact ⟨p, x, st, ls, hs, a1, a2, a3, a4, a5, a6, fun H' r A B ms ns nr hr two => by
    obtain ⟨bt, ⟨st1, hp1, ok1⟩, nA, nB, hA, hB, lA, lB⟩ := two
    exact q H' r A B ms ns st1 nr hr bt hp1 ok1 nA nB hA hB lA lB⟩
def nm : DueM → Str
  | .long => "TooLong"
  | .badL _ _ => "BadNumber"
  | .wrong => "WrongLength"
  | .badH _ _ => "BadNumber"
  | .made => "made"
theorem nm_made (D : DueM) : (!decide (V.str (nm D) = V.str "made")) = decide (D ≠ .made) := by
  cases D <;> rfl
theorem isM_hd {H : Hp} {t : Addr} {ls hs : List Int} {D : DueM} (h : IsM K H t ls hs D) : ∃ r, SqT K H t (.str (nm D) :: r) := by
  cases D with
  | long => exact ⟨_, h⟩
  | badL i n => exact ⟨_, h⟩
  | wrong => exact ⟨_, h⟩
  | badH i n => exact ⟨_, h⟩
  | made => obtain ⟨a, b, h, _⟩ := h; exact ⟨_, h⟩
theorem eqd_two {H : Hp} {a b : Addr} {ls hs : List Int} {D E : DueM} (h1 : IsM K H a ls hs D) (h2 : IsM K H b ls hs E) (d1 : DueOk ls hs D) (d2 : DueOk ls hs E) (l1 : ls.length ≤ 1000) (l2 : hs.length ≤ 1000) : Eqd K 2 H (.ref a) (.ref b) := by
  obtain rfl := due_uniq d1 d2
  exact eqd_due l1 l2 h1 h2
def spDueMade2 (K : PySem.W.Frag) : Sp := fun vs H Q _ => ∃ (a b : Addr) (ls hs : List Int), vs = [.ref a, .ref b] ∧ SqL K H a (ls.map V.int) ∧ SqL K H b (hs.map V.int) ∧ ls.length ≤ 1000 ∧ hs.length ≤ 1000 ∧ ∀ D H' t r, DueOk ls hs D → Same H H' → IsM K H' t ls hs D → SqT K H' t (.str (nm D) :: r) → Q (.ref t) H'
theorem ok_law_due_made2 (T : Tx K mg) : Ok PG w K mg base CX0 3 (a_law_due_made K) p_law_due_made (spDueMade2 K) := (ok_law_due_made T).imp fun _ _ _ _ h => by
  obtain ⟨a, b, ls, hs, a1, a2, a3, a4, a5, q⟩ := h
  exact ⟨a, b, ls, hs, a1, a2, a3, a4, a5, fun D H' t d s i => by
    obtain ⟨r, hr⟩ := isM_hd i
    exact q D H' t r d s i hr⟩
def spHanded2 (K : PySem.W.Frag) : Sp := fun vs H Q _ => ∃ (a : Addr) (ns : List Int) (way : Int), vs = [.ref a, .int way] ∧ SqL K H a (ns.map V.int) ∧ ∀ t H', Same H H' → SqA K H' t (ns.map V.int) → Q (.ref t) H'
theorem ok_law_handed2 (T : Tx K mg) : Ok PG w K mg base CX0 2 (a_law_handed K) p_law_handed (spHanded2 K) := (ok_law_handed T).imp fun _ _ _ _ h => by
  obtain ⟨a, ns, way, a1, a2, q⟩ := h
  exact ⟨a, ns, way, a1, a2, fun _ t ht => q t _ (.new ht) (.inr (.of upd_same)), fun _ t ht => q t _ (.new ht) (.inl (.of upd_same))⟩
end
theorem made0 {K : PySem.W.Frag} {H : Hp} {a b : Addr} {ls hs : List Int} (h : SqA K H a (ls.map V.int)) (g : SqA K H b (hs.map V.int)) : MadeArgs K H 0 (.ref a) (.ref b) ls hs := .inl ⟨rfl, _, _, rfl, rfl, h, g⟩
theorem made1 {K : PySem.W.Frag} {H : Hp} {a : Addr} {y : V} {ls : List Int} (h : SqA K H a (ls.map V.int)) : MadeArgs K H 1 (.ref a) y ls ls := .inr (.inl ⟨rfl, rfl, _, rfl, h⟩)
theorem made2 {K : PySem.W.Frag} {H : Hp} {k m : Int} (h0 : 0 ≤ k) (h : k ≤ 1000) : MadeArgs K H 2 (.int k) (.int m) (List.replicate k.toNat 0) (List.replicate k.toNat m) := by
  obtain ⟨n, rfl⟩ : ∃ n : Nat, k = n := ⟨k.toNat, by omega⟩
  rw [Int.toNat_natCast]
  exact .inr (.inr ⟨rfl, n, m, by omega, rfl, rfl, rfl, rfl⟩)
theorem eqd_long {K : PySem.W.Frag} {H : Hp} {a b : Addr} {k m : Int} {D : DueM} (i : IsM K H a (List.replicate k.toNat 0) (List.replicate k.toNat m) D) (d : DueOk (List.replicate k.toNat 0) (List.replicate k.toNat m) D) (t : SqT K H b [.str "TooLong", .int k, .bl true, .bl true, .bl false, .bl false]) (c : 30 < k) (l : k ≤ 1000) : Eqd K 2 H (.ref a) (.ref b) := by
  obtain ⟨n, rfl⟩ : ∃ n : Nat, k = n := ⟨k.toNat, by omega⟩
  rw [Int.toNat_natCast] at i d
  obtain rfl := due_uniq d (show DueOk (List.replicate n 0) (List.replicate n m) .long by show 30 < (List.replicate n (0 : Int)).length; rw [List.length_replicate]; omega)
  refine eqd_due (ls := List.replicate n 0) (hs := List.replicate n m) (D := .long) (by rw [List.length_replicate]; omega) (by rw [List.length_replicate]; omega) i ?_
  show SqT K H b [.str "TooLong", .int (((List.replicate n (0 : Int)).length : Nat) : Int), .bl true, .bl true, .bl false, .bl false]
  rw [List.length_replicate]; exact t
theorem eqdG {K : PySem.W.Frag} {n : Nat} {H : Hp} {a b : Addr} (h : Eqd K n H (.ref a) (.ref b)) : Eqd K n H (.ref a) (.ref b) := h
local macro_rules | `(tactic| o_readsAll) => `(tactic| first
  | ((with_reducible apply made0); (· o_readsAll); (· o_readsAll))
  | ((with_reducible apply made1); (· o_readsAll))
  | ((with_reducible apply made2); (· omega); (· omega))
  | ((with_reducible apply eqdG); (apply eqd_two); (· refine IsM.same (by with_reducible assumption) ?_; o_fieldsN); (· refine IsM.same (by with_reducible assumption) ?_; o_fieldsN); (· with_reducible assumption); (· with_reducible assumption); (· first | omega | (rw [List.length_replicate]; omega)); (· first | omega | (rw [List.length_replicate]; omega)))
  | ((with_reducible apply eqdG); (apply eqd_long); (· refine IsM.same (by with_reducible assumption) ?_; o_fieldsN); (· with_reducible assumption); (· o_readsAll); (· omega); (· omega)))
section
variable {w : World} {K : PySem.W.Frag} {mg : Str → Option Value} {base : Heap}
def spMakingRight (K : PySem.W.Frag) : Sp := fun vs H Q _ => ∃ (p x : Addr) (st : List V) (ls hs : List Int), vs = [.ref p, .ref x] ∧ H p = some (.lst st) ∧ PoolOk st ∧ IsPair K H x ls hs ∧ ls.length ≤ 30 ∧ hs.length ≤ 30 ∧ ∀ H' st', But p H H' → H' p = some (.lst st') → PoolOk st' → Q (.bl true) H'
theorem ok_law_making_right (T : Tx K mg) : Ok PG w K mg base CX0 9 (a_law_making_right K) p_law_making_right (spMakingRight K) := by
  refine Ok.of 8 T.f_law_making_right sc_law_making_right bi_law_making_right (by decide) (fun vs H Q E h => ?_) (fun cdv A outer s H vs Q E hr h => ?_)
  · obtain ⟨_, _, _, _, _, rfl, _⟩ := h
    rfl
  · obtain ⟨p, x, st, ls, hs, rfl, hp, ok, hx, l3, h3, q⟩ := h
    have nd := sc_law_making_right.nd
    refine ⟨_, pss_cons (ps_asg (pc (ok_law_spoiled2 T) (hr.mono (by decide)) T.g_law_spoiled pass0 (pa_cons (pv 0) (pa_cons (pv 1) pa_nil))) (pg_unl rfl (pgs_cons (pg_name (i := 2) nd rfl (.inl rfl)) (pgs_cons (pg_name (i := 3) nd rfl (.inl rfl)) pgs_nil))))
      (pss_cons (ps_set (i := 4) nd rfl (.inl rfl) (pc (ok_law_draw T) (hr.mono (by decide)) T.g_law_draw pass0 (pa_cons (pv 0) (pa_cons pe_int pa_nil))))
      (pss_cons (ps_set (i := 5) nd rfl (.inl rfl) (pc (ok_law_handed2 T) (hr.mono (by decide)) T.g_law_handed pass0 (pa_cons (pv 2) (pa_cons (pv 4) pa_nil))))
      (pss_cons (ps_set (i := 6) nd rfl (.inl rfl) (pc (ok_law_handed2 T) (hr.mono (by decide)) T.g_law_handed pass0 (pa_cons (pv 3) (pa_cons (pv 4) pa_nil))))
      (pss_cons (ps_set (i := 7) nd rfl (.inl rfl) (pc (ok_law_due_made2 T) (hr.mono (by decide)) T.g_law_due_made pass0 (pa_cons (pv 2) (pa_cons (pv 3) pa_nil))))
      (pss_cutI (ps_if (pt_not (pt_val (pc (ok_law_same T 2) (hr.mono (by decide)) T.g_law_same pass0 (pa_cons (pc (ok_law_try_made T) hr T.g_law_try_made pass0 (pa_cons pe_int (pa_cons (pv 5) (pa_cons (pv 6) pa_nil)))) (pa_cons (pv 7) pa_nil))))) (pss_one (ps_ret pe_bl)) pss_nil)
      (pss_cons (ps_if (PW.pt (pw_or (pt_cmpR (op_neL hr.units) (pe_callTy call_list_of (by rfl) T.m_list (by decide +kernel) (pa_cons (pv 5) pa_nil)) (pv 2) (nomark _)) (pw_or1 (pt_cmpR (op_neL hr.units) (pe_callTy call_list_of (by rfl) T.m_list (by decide +kernel) (pa_cons (pv 6) pa_nil)) (pv 3) (nomark _))))) (pss_one (ps_ret pe_bl)) pss_nil)
      (pss_cons (ps_if (pt_cmpR op_ne (pc (ok_law_caught_as_base T) (hr.mono (by decide)) T.g_law_caught_as_base pass0 (pa_cons (pv 5) (pa_cons (pv 6) pa_nil))) (pe_cmpR op_ne (pe_ix ix_tup (pv 7) pe_int (fun _ _ => rfl)) pe_str (nomark _)) (nomark _)) (pss_one (ps_ret pe_bl)) pss_nil)
      (pss_cons (ps_set (i := 8) nd rfl (.inl rfl) (pe_callTy call_list_of (by rfl) T.m_list (by decide +kernel) (pa_cons (pv 2) pa_nil)))
      (pss_cons (ps_if (PW.pt (pw_or (pt_not (pt_val (pc (ok_law_same T 2) (hr.mono (by decide)) T.g_law_same pass0 (pa_cons (pc (ok_law_try_made T) hr T.g_law_try_made pass0 (pa_cons pe_int (pa_cons (pv 8) (pa_cons pe_non pa_nil)))) (pa_cons (pc (ok_law_due_made2 T) (hr.mono (by decide)) T.g_law_due_made pass0 (pa_cons (pv 2) (pa_cons (pv 2) pa_nil))) pa_nil))))) (pw_or1 (pt_cmpR (op_neL hr.units) (pv 8) (pv 2) (nomark _))))) (pss_one (ps_ret pe_bl)) pss_nil)
      (pss_cutI (ps_if (pt_not (pt_val (pc (ok_law_same T 2) (hr.mono (by decide)) T.g_law_same pass0 (pa_cons (pc (ok_law_try_made T) hr T.g_law_try_made pass0 (pa_cons pe_int (pa_cons (pe_callTy call_tuple_of (by rfl) T.m_tuple (by decide +kernel) (pa_cons (pv 2) pa_nil)) (pa_cons pe_non pa_nil)))) (pa_cons (pc (ok_law_due_made2 T) (hr.mono (by decide)) T.g_law_due_made pass0 (pa_cons (pv 2) (pa_cons (pv 2) pa_nil))) pa_nil))))) (pss_one (ps_ret pe_bl)) pss_nil)
      (pss_cons (ps_set (i := 9) nd rfl (.inl rfl) (pc (ok_law_draw T) (hr.mono (by decide)) T.g_law_draw pass0 (pa_cons (pv 0) (pa_cons pe_int pa_nil))))
      (pss_cons (ps_set (i := 10) nd rfl (.inl rfl) (pc (ok_law_number T) (hr.mono (by decide)) T.g_law_number pass0 (pa_cons (pv 0) pa_nil)))
      (pss_cutI (ps_if (pt_cmpR op_eq (pc (ok_law_draw T) (hr.mono (by decide)) T.g_law_draw pass0 (pa_cons (pv 0) (pa_cons pe_int pa_nil))) pe_int (nomark _)) (pss_one (ps_set (i := 10) nd rfl (.inl rfl) (pc (ok_law_perhaps_bad T) (hr.mono (by decide)) T.g_law_perhaps_bad pass0 (pa_cons (pv 0) (pa_cons (pv 10) pa_nil))))) pss_nil)
      (pss_cons (ps_set (i := 7) nd rfl (.inl rfl) (pe_tup (pa_cons pe_str (pa_cons (pv 9) (pa_cons pe_bl (pa_cons pe_bl (pa_cons pe_bl (pa_cons pe_bl pa_nil))))))))
      (pss_cutI (ps_if (pt_cmpR op_le (pv 9) pe_int (nomark _)) (pss_one (ps_set (i := 7) nd rfl (.inl rfl) (pc (ok_law_due_made2 T) (hr.mono (by decide)) T.g_law_due_made pass0 (pa_cons (pe_op op_repI (pe_lst (pa_cons pe_int pa_nil)) (pv 9)) (pa_cons (pe_op op_repI (pe_lst (pa_cons (pv 10) pa_nil)) (pv 9)) pa_nil))))) pss_nil)
      (pss_one (ps_ret (pc (ok_law_same T 2) (hr.mono (by decide)) T.g_law_same pass0 (pa_cons (pc (ok_law_try_made T) hr T.g_law_try_made pass0 (pa_cons pe_int (pa_cons (pv 9) (pa_cons (pv 10) pa_nil)))) (pa_cons (pv 7) pa_nil)))))))))))))))))))), ?_⟩
    dsimp only [cxOf]
    have lm : ∀ us : List Int, (us.map V.int).length = us.length := fun us => List.length_map ..
    o_reads
    rename_i H1 r A B ms ns st1 nr hr1 bt hp1 ok1 nA nB hA hB lA lB way st2 w0 w1 ok2 one Ha sa hone two Hb sb htwo D Hc due rr dk sc im sd
    refine cutI (fun σ' H' => ∃ v8 v9 v10, σ' = [some (.ref p), some (.ref x), some (.ref A), some (.ref B), some (.int way), some (.ref one), some (.ref two), some (.ref due), v8, v9, v10] ∧ Same Hc H') (fun N next => ?_) (fun σ' G z => ?_)
    · o_reads
      exact next _ _ ⟨_, _, _, rfl, by o_fieldsN⟩
    obtain ⟨v8, v9, v10, rfl, sG⟩ := z
    have sA : Same (upd H1 p (.lst st2)) G := ((sa.trans sb).trans sc).trans sG
    have gA : G A = some (.lst (ms.map V.int)) := by o_readsAll
    have gB : G B = some (.lst (ns.map V.int)) := by o_readsAll
    have gp : G p = some (.lst st2) := sA _ _ upd_same
    have g1 : SqA K G one (ms.map V.int) := ((sb.trans sc).trans sG).seqA hone
    have g2 : SqA K G two (ns.map V.int) := (sc.trans sG).seqA htwo
    have g3 := sG.seqT sd
    have gb : But p H G := (bt.trans .set).trans (.of sA)
    clear sA sd im sc htwo sb hone sa hA hB bt hp1 hr1 nr hp hx sG
    o_reads
    · rename_i D2 H5 d2 s5 hh
      exact absurd (by rw [nm_made, due_uniq d2 dk]) hh
    refine cutI (fun σ' H' => ∃ v1 v2 v3 v4 v5 v6 v7 v8 v9 v10, σ' = [some (.ref p), v1, v2, v3, v4, v5, v6, v7, v8, v9, v10] ∧ But p H H' ∧ H' p = some (.lst st2)) (fun N next => ?_) (fun σ' G z => ?_)
    · o_reads
      exact next _ _ ⟨_, _, _, _, _, _, _, _, _, _, rfl, by o_fieldsN, by o_readsAll⟩
    clear g1 g2 g3 gb gp gA gB
    obtain ⟨v1, v2, v3, v4, v5, v6, v7, v8, v9, v10, rfl, gb, gp⟩ := z
    o_reads
    rename_i people st5 p0 p1 ok5 v H6 st6 hv b6 f6 h6 ok6
    refine cutI (fun σ' H' => ∃ v1 v2 v3 v4 v5 v6 v7 v8, ∃ (m : Int) (st' : List V), σ' = [some (.ref p), v1, v2, v3, v4, v5, v6, v7, v8, some (.int people), some (.int m)] ∧ But p H H' ∧ H' p = some (.lst st') ∧ PoolOk st') (fun N next => ?_) (fun σ' G z => ?_)
    · o_reads
      all_goals refine next _ _ ⟨_, _, _, _, _, _, _, _, _, _, rfl, ?_, by o_readsAll, by assumption⟩
      all_goals o_fieldsN
    · obtain ⟨v1, v2, v3, v4, v5, v6, v7, v8, m, st', rfl, bt, hp', ok'⟩ := z
      o_reads
      refine noCut ?_
      o_reads
      all_goals exact q _ _ (by o_fieldsN) (by o_readsAll) ok'
end
end K24

set_option maxRecDepth 100000
set_option maxHeartbeats 8000000
namespace K24
open PySem PySem.Spec PyProof.Rows L2
theorem eqd_pn {K : PySem.W.Frag} {H : Hp} {a b : Addr} {ls hs : List Int} {i lo hi : Int} (h1 : IsPn K H a ls hs i lo hi) (h2 : IsPn K H b ls hs i lo hi) (l1 : ls.length ≤ 900) (l2 : hs.length = ls.length) : Eqd K 2 H (.ref a) (.ref b) := by
  have at5 : ∀ x ∈ [V.str "NoPerson", .int i, .bl true, .bl true, .bl false], Atom x := fun x hx => by simp at hx; rcases hx with rfl | rfl | rfl | rfl <;> constructor
  rcases h1 with ⟨c, h1⟩ | ⟨c, h1⟩
  · rcases h2 with ⟨_, h2⟩ | ⟨c2, _⟩
    · exact eqd_atoms h1 h2 (by show 5 ≤ 1000; decide) at5
    · exact absurd c2 c
  · rcases h2 with ⟨c2, _⟩ | ⟨_, h2⟩
    · exact absurd c c2
    · rcases h1 with ⟨k, n, e, h1⟩ | ⟨e, h1⟩
      · rcases h2 with ⟨k2, n2, e2, h2⟩ | ⟨e2, h2⟩
        · rw [e] at e2
          cases e2
          exact eqd_atoms h1 h2 (by show 6 ≤ 1000; decide) (fun x hx => by simp at hx; rcases hx with rfl | rfl | rfl | rfl | rfl <;> constructor)
        · rw [e] at e2; cases e2
      · rcases h2 with ⟨k2, n2, e2, h2⟩ | ⟨e2, h2⟩
        · rw [e] at e2; cases e2
        · exact eqd_made (by rw [List.length_set]; omega) (by rw [List.length_set]; omega) h1 h2
theorem IsPn.same {K : PySem.W.Frag} {H H' : Hp} {t : Addr} {ls hs : List Int} {i lo hi : Int} (h : IsPn K H t ls hs i lo hi) (s : Same H H') : IsPn K H' t ls hs i lo hi := by
  rcases h with ⟨c, h⟩ | ⟨c, ⟨k, n, e, h⟩ | ⟨e, h⟩⟩
  · exact .inl ⟨c, s.seqT h⟩
  · exact .inr ⟨c, .inl ⟨k, n, e, s.seqT h⟩⟩
  · exact .inr ⟨c, .inr ⟨e, h.same s⟩⟩
def IsPool (_ : Addr) : Prop := True
theorem IsB.but {K : PySem.W.Frag} {p o : Addr} {st : List V} {H H' : Hp} {ls hs : List Int} (_ : IsPool p) (h : IsB K H o ls hs) (hp : H p = some (.lst st)) (b : But p H H') : IsB K H' o ls hs := by
  obtain ⟨dx, t, u, h1, h2, h3, r⟩ := h
  exact ⟨dx, t, u, b _ _ (fun z => by rw [z, hp] at h1; cases h1) h1, b.seqT hp h2, b.seqT hp h3, r⟩
local macro_rules | `(tactic| o_readsAll) => `(tactic| first
  | (refine IsB.same (by with_reducible assumption) ?_; o_fieldsN)
  | (refine IsB.but (by with_reducible assumption) (by with_reducible assumption) (by with_reducible assumption) ?_; o_fieldsN)
  | ((with_reducible apply eqdG); (apply eqd_pn); (· refine IsPn.same (by with_reducible assumption) ?_; o_fieldsN); (· refine IsPn.same (by with_reducible assumption) ?_; o_fieldsN); (· omega); (· omega)))
section
variable {w : World} {K : PySem.W.Frag} {mg : Str → Option Value} {base : Heap}
def spPinningRight (K : PySem.W.Frag) : Sp := fun vs H Q _ => ∃ (p o a b : Addr) (st : List V) (ls hs : List Int), vs = [.ref p, .ref o, .ref a, .ref b] ∧ H p = some (.lst st) ∧ PoolOk st ∧ IsB K H o ls hs ∧ a ≠ p ∧ b ≠ p ∧ H a = some (.lst (ls.map V.int)) ∧ H b = some (.lst (hs.map V.int)) ∧ ls.length ≤ 30 ∧ hs.length = ls.length ∧ ∀ H' st', But p H H' → H' p = some (.lst st') → PoolOk st' → Q (.bl true) H'
theorem ok_law_pinning_right (T : Tx K mg) : Ok PG w K mg base CX0 9 (a_law_pinning_right K) p_law_pinning_right (spPinningRight K) := by
  refine Ok.of 8 T.f_law_pinning_right sc_law_pinning_right bi_law_pinning_right (by decide) (fun vs H Q E h => ?_) (fun cdv A outer s H vs Q E hr h => ?_)
  · obtain ⟨_, _, _, _, _, _, _, rfl, _⟩ := h
    rfl
  · obtain ⟨p, o, a, b, st, ls, hs, rfl, hp, ok, ho, na, nb, ha, hb, l3, lh, q⟩ := h
    have nd := sc_law_pinning_right.nd
    refine ⟨_, pss_cons (ps_set (i := 4) nd rfl (.inl rfl) (pc (ok_law_number T) (hr.mono (by decide)) T.g_law_number pass0 (pa_cons (pv 0) pa_nil)))
      (pss_cons (ps_set (i := 5) nd rfl (.inl rfl) (pc (ok_law_number T) (hr.mono (by decide)) T.g_law_number pass0 (pa_cons (pv 0) pa_nil)))
      (pss_cutI (ps_if (pt_cmpR op_gt (pe_callB call_len_seq (by rfl) T.m_len PySem.boot_len (pa_cons (pv 2) pa_nil)) pe_int (nomark _)) (pss_cons (ps_set (i := 6) nd rfl (.inl rfl) (pc (ok_law_draw T) (hr.mono (by decide)) T.g_law_draw pass0 (pa_cons (pv 0) (pa_cons (pe_callB call_len_seq (by rfl) T.m_len PySem.boot_len (pa_cons (pv 2) pa_nil)) pa_nil))))
        (pss_cons (ps_set (i := 7) nd rfl (.inl rfl) (pc (ok_law_due_pinned T) (hr.mono (by decide)) T.g_law_due_pinned pass0 (pa_cons (pv 2) (pa_cons (pv 3) (pa_cons (pv 6) (pa_cons (pv 4) (pa_cons (pv 5) pa_nil)))))))
        (pss_one (ps_if (pt_not (pt_val (pc (ok_law_same T 2) (hr.mono (by decide)) T.g_law_same pass0 (pa_cons (pc (ok_law_try_pinned T) hr T.g_law_try_pinned pass0 (pa_cons (pv 1) (pa_cons (pv 6) (pa_cons (pv 4) (pa_cons (pv 5) pa_nil))))) (pa_cons (pv 7) pa_nil))))) (pss_one (ps_ret pe_bl)) pss_nil)))) pss_nil)
      (pss_cons (ps_set (i := 6) nd rfl (.inl rfl) (pe_op op_sub (pc (ok_law_draw T) (hr.mono (by decide)) T.g_law_draw pass0 (pa_cons (pv 0) (pa_cons (pe_op op_add (pe_callB call_len_seq (by rfl) T.m_len PySem.boot_len (pa_cons (pv 2) pa_nil)) pe_int) pa_nil))) pe_int))
      (pss_cons (ps_set (i := 4) nd rfl (.inl rfl) (pe_ix ix_list (pe_lst (pa_cons (pe_un un_neg pe_int) (pa_cons pe_int (pa_cons pe_int (pa_cons (pe_op op_add (pe_op op_pow pe_int pe_int) pe_int) (pa_cons (pv 4) pa_nil)))))) (pc (ok_law_draw T) (hr.mono (by decide)) T.g_law_draw pass0 (pa_cons (pv 0) (pa_cons pe_int pa_nil))) (fun _ _ => rfl)))
      (pss_cons (ps_set (i := 5) nd rfl (.inl rfl) (pe_ix ix_list (pe_lst (pa_cons (pe_un un_neg pe_int) (pa_cons pe_int (pa_cons pe_int (pa_cons (pe_op op_add (pe_op op_pow pe_int pe_int) pe_int) (pa_cons (pv 5) pa_nil)))))) (pc (ok_law_draw T) (hr.mono (by decide)) T.g_law_draw pass0 (pa_cons (pv 0) (pa_cons pe_int pa_nil))) (fun _ _ => rfl)))
      (pss_one (ps_ret (pc (ok_law_same T 2) (hr.mono (by decide)) T.g_law_same pass0 (pa_cons (pc (ok_law_try_pinned T) hr T.g_law_try_pinned pass0 (pa_cons (pv 1) (pa_cons (pv 6) (pa_cons (pv 4) (pa_cons (pv 5) pa_nil))))) (pa_cons (pc (ok_law_due_pinned T) (hr.mono (by decide)) T.g_law_due_pinned pass0 (pa_cons (pv 2) (pa_cons (pv 3) (pa_cons (pv 6) (pa_cons (pv 4) (pa_cons (pv 5) pa_nil)))))) pa_nil)))))))))), ?_⟩
    dsimp only [cxOf]
    have mp : IsPool p := trivial
    have e1 : (ls.map V.int).length = ls.length := List.length_map ..
    have e2 : (hs.map V.int).length = hs.length := List.length_map ..
    o_reads
    rename_i low H1 st1 b1 bt1 f1 hp1 ok1 high H2 st2 b2 bt2 f2 hp2 ok2
    refine cutI (fun σ' H' => ∃ v6 v7, ∃ (st' : List V), σ' = [some (.ref p), some (.ref o), some (.ref a), some (.ref b), some (.int low), some (.int high), v6, v7] ∧ But p H H' ∧ H' p = some (.lst st') ∧ PoolOk st') (fun N next => ?_) (fun σ' G z => ?_)
    · have bt : But p H H2 := bt1.trans bt2
      clear bt1 bt2 hp1 f1 f2
      o_reads
      all_goals refine next _ _ ⟨_, _, _, rfl, ?_, by o_readsAll, by assumption⟩
      all_goals o_fieldsN
    · clear bt1 bt2 hp1 f1 f2 hp2
      obtain ⟨v6, v7, st', rfl, bt, hp', ok'⟩ := z
      o_reads
      exact q _ _ (by o_fieldsN) (by o_readsAll) (by assumption)
end
end K24

set_option maxRecDepth 100000
set_option maxHeartbeats 4000000
/-! # xs[a:c] = ys -/
namespace L2
open PySem PySem.Spec PyProof.Rows
theorem bounds_clamp (a c n : Nat) (h : a ≤ c) : sliceBounds (some (a : Int)) (some (c : Int)) none n = (((min a n : Nat) : Int), ((min c n : Nat) : Int), 1) := by
  have na : ¬ (a : Int) < 0 := by omega
  have nc : ¬ (c : Int) < 0 := by omega
  simp only [sliceBounds, Option.getD_none, na, nc, if_false, (by decide : (1 : Int) > 0), if_true]
  refine Prod.ext ?_ (Prod.ext ?_ rfl) <;> (dsimp only; omega)
section
variable {prog : Program} {w : World} {A : Around} {E : Value → Shared → Prop} {s : Shared}
set_option maxRecDepth 100000 in
/-- a list's part is replaced by another list; the bounds may lie beyond its end -/
theorem put_slice {l b sl : Addr} {old new : Array Value} {n n2 : Nat} {vl vu : Value} {a c : Nat} {Q : Unit → Shared → Prop}
    (el : s.heap.get? l = some { cls := .type "list", data := .seq old n }) (eb : s.heap.get? b = some { cls := .type "list", data := .seq new n2 }) (ne : l ≠ b)
    (hs : s.heap.IsSliceOf sl vl vu .none) (pl : IsPart vl (some (a : Int))) (pu : IsPart vu (some (c : Int))) (h01 : a ≤ c) (line : old.size + new.size ≤ sizeLine)
    (h : Q () { s with heap := s.heap.update l (Obj.mapSeq fun xs => xs.extract 0 (min a old.size) ++ new ++ xs.extract (min c old.size) xs.size) }) : wpAny (model prog w) A (setItem (.ref l) (.ref sl) (.ref b)) Q E s := by
  have Tl : s.heap.IsList l old := PySem.IsL.isList el
  have Tb : s.heap.IsList b new := PySem.IsL.isList eb
  obtain ⟨os, g1, g2, g3⟩ := id hs
  have Ts : s.TypeIs (.ref sl) "slice" := ⟨os, g1, g2⟩
  have other : Builtin.List.listSameRef (.ref l) (.ref b) = false := beq_eq_false_iff_ne.mpr ne
  have mx : (max ((min a old.size : Nat) : Int) ((min c old.size : Nat) : Int)).toNat = min c old.size := by omega
  have room : ((fun xs : Array Value => xs.extract 0 (min a old.size) ++ new ++ xs.extract (min c old.size) xs.size) old).size ≤ sizeLine + 1 := by
    simp only [Array.size_append, Array.size_extract]; omega
  unfold setItem
  try with_reducible refine wpAny_holding ?_
  first | refine wpAny_bind (wpAny_pure ?_) | skip
  refine wpAny_bind (wpAny_sequenceKey Tl.typeIs (by decide) (wpAny_bind (wpAny_callSpecial?_slot (name := Str.ofString "__setitem__") Tl.typeIs slot_list_setitem (wpAny_call_entry slot_list_setitem Tl.typeIs entry_list_setitem ?_ (args_list_setitem _ _ _)))))
  show wpAny _ _ (Builtin.List.listSubscript? (.ref sl) >>= _) _ _ s
  unfold Builtin.List.listSubscript?
  refine wpAny_bind (wpAny_bind (wpAny_specialOf Ts slice_no_index ?_))
  simp only [Option.isNone_none, if_true]
  refine wpAny_pure ?_
  show wpAny _ _ (typeOf (.ref sl) >>= _) _ _ s
  refine wpAny_bind (wpAny_typeOf Ts ?_)
  first | rw [if_neg (by decide)] | refine PySem.W.KFB.if_not (by decide) ?_
  rw [listSliceParts_eq]
  refine wpAny_bind (wpAny_bind (wpAny_field g1 g3 (x := .none) rfl (wpAny_bind (wpAny_listPart .none ?_))))
  rw [if_neg (show ¬ ((rawPart none == rawInt 0) = true) from Bool.false_ne_true)]
  refine wpAny_bind (wpAny_field g1 g3 (x := vl) rfl (wpAny_bind (wpAny_listPart pl (wpAny_bind (wpAny_field g1 g3 (x := vu) rfl (wpAny_bind (wpAny_listPart pu (wpAny_pure ?_))))))))
  first | simp only [other, Bool.false_eq_true, if_false] | refine PySem.W.KFB.if_not other ?_ | (dsimp only; rw [if_neg (by rw [other]; exact Bool.false_ne_true)])
  refine wpAny_bind (m := Builtin.List.listAllItems (.ref b) "must assign iterable to extended slice") ?_
  unfold Builtin.List.listAllItems
  refine wpAny_bind (wpAny_typeOf Tb.typeIs ?_)
  first | refine PySem.W.KFB.if_so (by decide) ?_ | rw [if_pos (by decide)] | simp only [beq_self_eq_true, Bool.true_or, if_true]
  unfold Builtin.List.listItems
  refine wpAny_bind (wpAny_seqItems eb rfl (wpAny_pure (wpAny_bind (wpAny_bind (wpAny_seqItems el rfl (wpAny_pure (wpAny_bind (wpAny_of_eq ((sliceIndices_raw (some (a : Int)) (some (c : Int)) none old.size (by simp)).trans (congrArg (pure : Int × Int × Int → Sem (Int × Int × Int)) (bounds_clamp a c old.size h01))) ?_))))))))
  show wpAny _ _ (if ((1 : Int) == 1) = true then _ else _) _ _ s
  rw [if_pos (by decide)]
  refine wpAny_bind (wpAny_rule ?_)
  first | simp only [notLongL line, Bool.false_eq_true, if_false] | refine PySem.W.KFB.if_not (notLongL line) ?_
  first | refine wpAny_bind (wpAny_pure ?_) | skip
  show wpAny _ _ (updateSeq l (fun xs => xs.extract 0 (((min a old.size : Nat) : Int)).toNat ++ new ++ xs.extract (max ((min a old.size : Nat) : Int) ((min c old.size : Nat) : Int)).toNat xs.size) >>= _) _ _ s
  rw [mx, Int.toNat_natCast]
  refine wpAny_bind (wpAny_updateSeq (hz := Nat.le_trans (Nat.le_add_right _ _) line) (_hz' := room) el rfl (wpAny_bind (wpAny_letGo ?_)))
  first
    | exact wpAny_bind (wpAny_pure (wpAny_pure ⟨.none, rfl, wpAny_pure h⟩))
    | exact wpAny_pure ⟨.none, rfl, wpAny_pure h⟩
end
theorem set_sliceC {X : Cx} {pins : List (Addr × Obj)} {s : Shared} {σ : L2.St} {H : Hp} {l b sl : Addr} {xs ys : List V} {a c : Int} {vl vu : Value} {Q : Unit → Shared → Prop} (I : Inv X pins σ H s)
    (hH : H l = some (.lst xs)) (hB : H b = some (.lst ys)) (ne : l ≠ b) (hs : s.heap.IsSliceOf sl vl vu .none) (pl : IsPart vl (some a)) (pu : IsPart vu (some c)) (h0 : 0 ≤ a) (hac : a ≤ c)
    (hz : xs.length + ys.length ≤ sizeLine) (h : ∀ s', Inv X pins σ (upd H l (.lst (xs.take a.toNat ++ ys ++ xs.drop c.toNat))) s' → Q () s') : wpAny (model X.prog X.w) X.A (setItem (.ref l) (.ref sl) (.ref b)) Q X.xe s := by
  obtain ⟨z, its, n, r, hl, e⟩ := I.lstM hH
  obtain ⟨z2, its2, n2, r2, hl2, e2⟩ := I.lstM hB
  obtain ⟨a', rfl⟩ := Int.eq_ofNat_of_zero_le h0
  obtain ⟨c', rfl⟩ := Int.eq_ofNat_of_zero_le (Int.le_trans h0 hac)
  simp only [Int.toNat_natCast] at h
  have lr : xs.length = its.length := r.length
  have lr2 : ys.length = its2.length := r2.length
  refine put_slice (a := a') (c := c') e e2 ne hs pl pu (by omega) (by rw [List.size_toArray, List.size_toArray]; omega) (h _ ?_)
  have tk : xs.take a' = xs.take (min a' its.length) := by
    rcases Nat.le_total a' its.length with h | h
    · rw [Nat.min_eq_left h]
    · rw [Nat.min_eq_right h, List.take_of_length_le (by omega), List.take_of_length_le (by omega)]
  have dr : xs.drop c' = xs.drop (min c' its.length) := by
    rcases Nat.le_total c' its.length with h | h
    · rw [Nat.min_eq_left h]
    · rw [Nat.min_eq_right h, List.drop_eq_nil_of_le (by omega), List.drop_eq_nil_of_le (by omega)]
  rw [tk, dr]
  refine I.lset (its' := its.take (min a' its.length) ++ its2 ++ its.drop (min c' its.length)) (t' := s.toks) hH e ?_ (Vals.append (Vals.append (r.take _) r2) (r.drop _)) ?_
  · rw [List.size_toArray]
    exact splice_eq its its2 (min a' its.length) (min c' its.length)
  · rw [List.length_append, List.length_append, List.length_take, List.length_drop]
    omega
/-- xs[a:c] = .., another list -/
def gSlSet (to : TE) (tl th : TO) : TG := fun v σ H Q => to σ H fun o H1 => tl σ H1 fun lo H2 => th σ H2 fun hi H3 => ∃ (l b : Addr) (xs ys : List V) (a c : Int), o = .ref l ∧ v = .ref b ∧ lo = some a ∧ hi = some c ∧ H3 l = some (.lst xs) ∧ H3 b = some (.lst ys) ∧ l ≠ b ∧ 0 ≤ a ∧ a ≤ c ∧ xs.length + ys.length ≤ sizeLine ∧ Q σ (upd H3 l (.lst (xs.take a.toNat ++ ys ++ xs.drop c.toNat)))
theorem pg_slSet {X : Cx} {o : Expr} {lo hi : Option Expr} {p2 pos : Pos} {to : TE} {tl th : TO} (ho : PE X o to) (hl : PO X lo tl) (hu : PO X hi th)
    (ha : ∀ v, assign (.Subscript o (.Slice lo hi none p2) pos) X.env v = (do
      let ov ← holding [v] (eval o X.env)
      let iv ← holding [v, ov] (eval (.Slice lo hi none p2) X.env)
      standAt pos
      holding [v, ov, iv] (setItem ov iv v)
      release [iv, v, ov] []) := by intro _; rfl) : PG X (.Subscript o (.Slice lo hi none p2) pos) (gSlSet to tl th) := by
  refine ⟨fun pins s σ H v u Q I r h => ?_⟩
  rw [ha]
  refine wpAny_bind (wpAny_holding (thn (ho.run pins s σ H _ I h) fun ov s1 ⟨x, H1, I1, r1, q1⟩ => ?_))
  refine wpAny_bind (wpAny_holding (wpAny_Slice (thn (hl.run pins s1 σ H1 _ I1 q1) fun vl s2 ⟨l, H2, I2, pl, q2⟩ => thn (hu.run pins s2 σ H2 _ I2 q2) fun vu s3 ⟨u, H3, I3, pu, q3⟩ => ?_)))
  rw [evalPart_none]
  refine wpAny_pure ?_
  have I4 : Inv X pins σ H3 { s3 with heap := s3.heap.push { cls := .type "slice", data := .fields #[vl, vu, .none] } } := I3.kept (t' := s3.toks) fun b ob q => Heap.get?_push_of_some _ q
  obtain ⟨la, lb, xs, ys, a, c, rfl, rfl, rfl, rfl, hA, hB, ne, h0, h1, hz, q⟩ := q3
  cases r1
  cases r
  refine wpAny_bind (wpAny_standAt (wpAny_bind (wpAny_holding (set_sliceC I4 hA hB ne (Heap.IsSliceOf.new ..) pl pu h0 h1 hz fun s' I5 => ?_))))
  exact wpAny_release ⟨σ, _, I5, q⟩
end L2

set_option maxRecDepth 100000
set_option maxHeartbeats 8000000
namespace K24
open PySem PySem.Spec PyProof.Rows L2
theorem boxG {K : PySem.W.Frag} {vs : List V} {H : Hp} {Q : VK} {E : XK} (h : spBInit K vs H Q E) : spBInit K vs H Q E := h
theorem badG {g : Int} {k : Nat} {ns : List Int} (h : bad g k ns = none) : bad g k ns = none := h
theorem pairI {K : PySem.W.Frag} {H : Hp} {x a b : Addr} {ls hs : List Int} (h : SqL K H x [.ref a, .ref b]) (h1 : SqL K H a (ls.map V.int)) (h2 : SqL K H b (hs.map V.int)) : IsPair K H x ls hs := ⟨a, b, h, h1, h2⟩
theorem eqd_made2 {K : PySem.W.Frag} {H : Hp} {a b x y : Addr} {ls hs : List Int} (h1 : IsM K H a ls hs .made) (hb : SqT K H b [.str "made", .ref x, .ref y, .int ((ls.length : Nat) : Int)]) (hx : SqT K H x (ls.map V.int)) (hy : SqT K H y (hs.map V.int)) (l1 : ls.length ≤ 1000) (l2 : hs.length ≤ 1000) : Eqd K 2 H (.ref a) (.ref b) :=
  eqd_made l1 l2 h1 ⟨x, y, hb, hx, hy⟩
local macro_rules | `(tactic| o_readsAll) => `(tactic| first
  | (refine IsB.same (by with_reducible assumption) ?_; o_fieldsN)
  | (refine IsB.but (by with_reducible assumption) (by with_reducible assumption) (by with_reducible assumption) ?_; o_fieldsN)
  | ((with_reducible apply badG); exact bad_in (by assumption))
  | ((with_reducible apply eqdG); (apply eqd_made2); (· refine IsM.same (by with_reducible assumption) ?_; o_fieldsN); (· o_readsAll); (· o_readsAll); (· o_readsAll); (· omega); (· omega))
  | ((with_reducible apply pairI); (· o_readsAll); (· o_readsAll); (· o_readsAll)))
local macro_rules | `(tactic| fold_depth) => `(tactic| ((with_reducible apply boxG); (apply mk_boxP); (· o_readsAll); (· o_readsAll); (· apply BErr.no <;> o_readsAll); (· with_reducible assumption); (· with_reducible assumption); (· with_reducible assumption)))
section
variable {w : World} {K : PySem.W.Frag} {mg : Str → Option Value} {base : Heap}
def spLaw (K : PySem.W.Frag) : Sp := fun vs H Q _ => ∃ (a : Addr) (sc : List Int), vs = [.ref a] ∧ SqL K H a (sc.map V.int) ∧ ∀ H', Q (.bl true) H'
theorem fn_law (T : Tx K mg) {fd : FuncData} (F : FunD K "law" "law" (defArgs s_law) (defBody s_law) (defScope s_law) [] [] (a_law K) fd) : FnOk PG w K mg base CX0 11 (a_law K) fd p_law (spLaw K) := by
  refine F.ok (k := 10) sc_law (fun vs H Q E h => ?_) (fun cdv A outer s H vs Q E hr h => ?_)
  · obtain ⟨_, _, rfl, _⟩ := h
    rfl
  · obtain ⟨a, sc, rfl, hS, q⟩ := h
    have nd := sc_law.nd
    refine ⟨_, pss_cons (ps_set (i := 1) nd rfl (.inl rfl) (pc (ok_law_pool T) (hr.mono (by decide)) T.g_law_pool pass0 (pa_cons (pv 0) (pa_cons pe_int pa_nil))))
      (pss_cons (ps_set (i := 2) nd rfl (.inl rfl) (pc (ok_law_size T) (hr.mono (by decide)) T.g_law_size pass0 (pa_cons (pv 1) (pa_cons pe_int pa_nil))))
      (pss_cutI (ps_if (pt_cmpR op_eq (pc (ok_law_draw T) (hr.mono (by decide)) T.g_law_draw pass0 (pa_cons (pv 1) (pa_cons pe_int pa_nil))) pe_int (nomark _)) (pss_one (ps_set (i := 2) nd rfl (.inl rfl) (pc (ok_law_draw T) (hr.mono (by decide)) T.g_law_draw pass0 (pa_cons (pv 1) (pa_cons pe_int pa_nil))))) pss_nil)
      (pss_cons (ps_set (i := 3) nd rfl (.inl rfl) (pc (ok_law_pair T) (hr.mono (by decide)) T.g_law_pair pass0 (pa_cons (pv 1) (pa_cons (pv 2) pa_nil))))
      (pss_cons (ps_set (i := 4) nd rfl (.inl rfl) (pv 2))
      (pss_cutI (ps_if (pt_cmpR op_eq (pc (ok_law_draw T) (hr.mono (by decide)) T.g_law_draw pass0 (pa_cons (pv 1) (pa_cons pe_int pa_nil))) pe_int (nomark _)) (pss_one (ps_set (i := 4) nd rfl (.inl rfl) (pc (ok_law_size T) (hr.mono (by decide)) T.g_law_size pass0 (pa_cons (pv 1) (pa_cons pe_int pa_nil))))) pss_nil)
      (pss_cons (ps_set (i := 5) nd rfl (.inl rfl) (pc (ok_law_pair T) (hr.mono (by decide)) T.g_law_pair pass0 (pa_cons (pv 1) (pa_cons (pv 4) pa_nil))))
      (pss_cutI (ps_if (pt_not (pt_val (pc (ok_law_making_right T) (hr.mono (by decide)) T.g_law_making_right pass0 (pa_cons (pv 1) (pa_cons (pv 3) pa_nil))))) (pss_one (ps_ret pe_bl)) pss_nil)
      (pss_cons (ps_set (i := 6) nd rfl (.inl rfl) (pe_callTy call_list_of (by rfl) T.m_list (by decide +kernel) (pa_cons (pe_ix ix_list (pv 3) pe_int (fun _ _ => rfl)) pa_nil)))
      (pss_cons (ps_set (i := 7) nd rfl (.inl rfl) (pe_callTy call_list_of (by rfl) T.m_list (by decide +kernel) (pa_cons (pe_ix ix_list (pv 3) pe_int (fun _ _ => rfl)) pa_nil)))
      (pss_cons (ps_set (i := 8) nd rfl (.inl rfl) (pmk (ok_Bounds_init T) T.kBounds (hr.mono (by decide)) T.gBounds passF (pa_cons (pv 6) (pa_cons (pv 7) pa_nil))))
      (pss_cons (ps_expr (pe_bm PySem.F.plainAttrs_list PySem.F.slot_list_append PySem.F.type_list_append mt_append (pv 6) (pa_cons pe_int pa_nil)))
      (pss_cons (ps_asg (pe_lst (pa_cons pe_int (pa_cons pe_int pa_nil))) (pg_slSet (pv 7) (po_some pe_int) (po_some pe_int)))
      (pss_cons (ps_set (i := 9) nd rfl (.inl rfl) (pe_tup (pa_cons pe_str (pa_cons (pe_callTy call_tuple_of (by rfl) T.m_tuple (by decide +kernel) (pa_cons (pe_ix ix_list (pv 3) pe_int (fun _ _ => rfl)) pa_nil)) (pa_cons (pe_callTy call_tuple_of (by rfl) T.m_tuple (by decide +kernel) (pa_cons (pe_ix ix_list (pv 3) pe_int (fun _ _ => rfl)) pa_nil)) (pa_cons (pv 2) pa_nil))))))
      (pss_cons (ps_set (i := 10) nd rfl (.inl rfl) (pmk (ok_Bounds_init T) T.kBounds (hr.mono (by decide)) T.gBounds passF (pa_cons (pe_callTy call_list_of (by rfl) T.m_list (by decide +kernel) (pa_cons (pe_ix ix_list (pv 5) pe_int (fun _ _ => rfl)) pa_nil)) (pa_cons (pe_callTy call_list_of (by rfl) T.m_list (by decide +kernel) (pa_cons (pe_ix ix_list (pv 5) pe_int (fun _ _ => rfl)) pa_nil)) pa_nil))))
      (pss_cutI (ps_if (PW.pt (pw_or (pt_not (pt_val (pc (ok_law_same T 2) (hr.mono (by decide)) T.g_law_same pass0 (pa_cons (pc (ok_law_shown T) (hr.mono (by decide)) T.g_law_shown pass0 (pa_cons (pv 8) pa_nil)) (pa_cons (pv 9) pa_nil))))) (pw_or1 (pt_not (pt_val (pc (ok_law_joining_right T) hr T.g_law_joining_right pass0 (pa_cons (pv 8) (pa_cons (pv 10) (pa_cons (pv 3) (pa_cons (pv 5) pa_nil)))))))))) (pss_one (ps_ret pe_bl)) pss_nil)
      (pss_cons (ps_set (i := 11) nd rfl (.inl rfl) (pc (ok_law_asked T) (hr.mono (by decide)) T.g_law_asked pass0 (pa_cons (pv 1) (pa_cons (pe_ix ix_list (pv 3) pe_int (fun _ _ => rfl)) (pa_cons (pe_ix ix_list (pv 3) pe_int (fun _ _ => rfl)) pa_nil)))))
      (pss_cutI (ps_if (pt_not (pt_val (pc (ok_law_lying_right T) (hr.mono (by decide)) T.g_law_lying_right pass0 (pa_cons (pv 8) (pa_cons (pv 11) (pa_cons (pe_ix ix_list (pv 3) pe_int (fun _ _ => rfl)) (pa_cons (pe_ix ix_list (pv 3) pe_int (fun _ _ => rfl)) pa_nil))))))) (pss_one (ps_ret pe_bl)) pss_nil)
      (pss_cons (ps_if (pt_not (pt_val (pc (ok_law_lying_right T) (hr.mono (by decide)) T.g_law_lying_right pass0 (pa_cons (pv 10) (pa_cons (pv 11) (pa_cons (pe_ix ix_list (pv 5) pe_int (fun _ _ => rfl)) (pa_cons (pe_ix ix_list (pv 5) pe_int (fun _ _ => rfl)) pa_nil))))))) (pss_one (ps_ret pe_bl)) pss_nil)
      (pss_cons (ps_if (PW.pt (pw_or (pt_not (pt_val (pc (ok_law_crossing_right T) (hr.mono (by decide)) T.g_law_crossing_right pass0 (pa_cons (pv 8) (pa_cons (pe_ix ix_list (pv 3) pe_int (fun _ _ => rfl)) (pa_cons (pe_ix ix_list (pv 3) pe_int (fun _ _ => rfl)) pa_nil)))))) (pw_or1 (pt_not (pt_val (pc (ok_law_crossing_right T) (hr.mono (by decide)) T.g_law_crossing_right pass0 (pa_cons (pv 10) (pa_cons (pe_ix ix_list (pv 5) pe_int (fun _ _ => rfl)) (pa_cons (pe_ix ix_list (pv 5) pe_int (fun _ _ => rfl)) pa_nil))))))))) (pss_one (ps_ret pe_bl)) pss_nil)
      (pss_cutI (ps_if (pt_not (pt_val (pc (ok_law_pinning_right T) (hr.mono (by decide)) T.g_law_pinning_right pass0 (pa_cons (pv 1) (pa_cons (pv 8) (pa_cons (pe_ix ix_list (pv 3) pe_int (fun _ _ => rfl)) (pa_cons (pe_ix ix_list (pv 3) pe_int (fun _ _ => rfl)) pa_nil))))))) (pss_one (ps_ret pe_bl)) pss_nil)
      (pss_cons (ps_if (pt_not (pt_val (pc (ok_law_same T 2) (hr.mono (by decide)) T.g_law_same pass0 (pa_cons (pc (ok_law_shown T) (hr.mono (by decide)) T.g_law_shown pass0 (pa_cons (pv 10) pa_nil)) (pa_cons (pe_tup (pa_cons pe_str (pa_cons (pe_callTy call_tuple_of (by rfl) T.m_tuple (by decide +kernel) (pa_cons (pe_ix ix_list (pv 5) pe_int (fun _ _ => rfl)) pa_nil)) (pa_cons (pe_callTy call_tuple_of (by rfl) T.m_tuple (by decide +kernel) (pa_cons (pe_ix ix_list (pv 5) pe_int (fun _ _ => rfl)) pa_nil)) (pa_cons (pv 4) pa_nil))))) pa_nil))))) (pss_one (ps_ret pe_bl)) pss_nil)
      (pss_one (ps_ret (pc (ok_law_same T 2) (hr.mono (by decide)) T.g_law_same pass0 (pa_cons (pc (ok_law_shown T) (hr.mono (by decide)) T.g_law_shown pass0 (pa_cons (pv 8) pa_nil)) (pa_cons (pv 9) pa_nil)))))))))))))))))))))))))), ?_⟩
    dsimp only [cxOf]
    o_reads
    rename_i p st hp ok v1 H1 st1 b1 bt1 f1 hp1 ok1
    have mp : IsPool p := trivial
    refine cutI (fun σ' H' => ∃ (n : Nat) (st' : List V), σ' = [some (.ref a), some (.ref p), some (.int (n : Nat)), none, none, none, none, none, none, none, none, none] ∧ n ≤ 30 ∧ H' p = some (.lst st') ∧ PoolOk st') (fun N next => ?_) (fun σ' G z => ?_)
    · o_reads
      · rename_i v st3 _ _ ok3
        obtain ⟨n, rfl⟩ : ∃ n : Nat, v = n := ⟨v.toNat, by omega⟩
        exact next _ _ ⟨n, _, rfl, by omega, upd_same, ok3⟩
      · obtain ⟨n, rfl⟩ : ∃ n : Nat, v1 = n := ⟨v1.toNat, by omega⟩
        exact next _ _ ⟨n, _, rfl, by omega, upd_same, by assumption⟩
    clear hp1 f1 bt1 hp hS ok ok1
    obtain ⟨n, st1, rfl, n30, hp1, ok1⟩ := z
    o_reads
    rename_i H2 pr A B ls hs st2 bt2 hp2 ok2 npr nA nB hpr hA hB l1 l2 i1 i2
    subst l1
    clear bt2 hp1 ok1
    refine cutI (fun σ' H' => ∃ (m : Nat) (st' : List V), σ' = [some (.ref a), some (.ref p), some (.int (ls.length : Nat)), some (.ref pr), some (.int (m : Nat)), none, none, none, none, none, none, none] ∧ m ≤ 30 ∧ But p H2 H' ∧ H' p = some (.lst st') ∧ PoolOk st') (fun N next => ?_) (fun σ' G z => ?_)
    · o_reads
      · rename_i v H3 st3 _ bt3 _ hp3 ok3
        obtain ⟨m, rfl⟩ : ∃ n : Nat, v = n := ⟨v.toNat, by omega⟩
        exact next _ _ ⟨m, _, rfl, by omega, by o_fieldsN, by o_readsAll, ok3⟩
      · exact next _ _ ⟨_, _, rfl, by omega, by o_fieldsN, upd_same, by assumption⟩
    clear hp2 ok2
    obtain ⟨m, st3, rfl, m30, bt3, hp3, ok3⟩ := z
    o_reads
    rename_i H4 qr C D ms ns st4 bt4 hp4 ok4 nqr nC nD hqr hC hD l3 l4 i3 i4
    subst l3
    have hpr4 : H4 pr = some (.lst [.ref A, .ref B]) := by o_readsAll
    have hA4 : H4 A = some (.lst (ls.map V.int)) := by o_readsAll
    have hB4 : H4 B = some (.lst (hs.map V.int)) := by o_readsAll
    clear bt3 bt4 hp3 hpr hA hB ok3
    refine cutI (fun σ' H' => ∃ (st' : List V), σ' = [some (.ref a), some (.ref p), some (.int (ls.length : Nat)), some (.ref pr), some (.int (ms.length : Nat)), some (.ref qr), none, none, none, none, none, none] ∧ But p H4 H' ∧ H' p = some (.lst st') ∧ PoolOk st') (fun N next => ?_) (fun σ' G z => ?_)
    · o_reads
      exact next _ _ ⟨_, rfl, by o_fieldsN, by o_readsAll, by assumption⟩
    clear hp4 ok4
    obtain ⟨st5, rfl, bt5, hp5, ok5⟩ := z
    have hpr5 : G pr = some (.lst [.ref A, .ref B]) := by o_readsAll
    have hA5 : G A = some (.lst (ls.map V.int)) := by o_readsAll
    have hB5 : G B = some (.lst (hs.map V.int)) := by o_readsAll
    have hqr5 : G qr = some (.lst [.ref C, .ref D]) := by o_readsAll
    have hC5 : G C = some (.lst (ms.map V.int)) := by o_readsAll
    have hD5 : G D = some (.lst (ns.map V.int)) := by o_readsAll
    clear bt5 hpr4 hA4 hB4 hqr hC hD
    have e1 : (ls.map V.int).length = ls.length := List.length_map ..
    have e2 : (hs.map V.int).length = hs.length := List.length_map ..
    have e3 : (ms.map V.int).length = ms.length := List.length_map ..
    have e4 : (ns.map V.int).length = ns.length := List.length_map ..
    o_reads
    · rename_i one h1 two h2 x dx hx hdx hne _ _ _ _ H5 s5 b5 z hz e
      subst e
      have k1 : H5 two = some _ := s5 _ _ upd_same
      have nq : two ≠ one := fun y => by rw [y, upd_same] at h2; cases h2
      rw [upd_ne nq, k1] at hz; cases hz
    rename_i one h1 two h2 x dx hx hdx hne _ _ _ _ H5 s5 b5 z hz t1 ht1 t2 ht2 due hdue c1 hc1 c2 hc2 y dy hy hdy hney _ _ _ _ H6 s6 b6
    have h2' : G two = none := (Same.new h1).free h2
    have n21 : two ≠ one := fun y => by rw [y, upd_same] at h2; cases h2
    have k0 : H5 one = some (.lst (ls.map V.int)) := s5 _ _ ((Same.new h2) _ _ upd_same)
    have k1 : H5 two = some (.lst (hs.map V.int)) := s5 _ _ upd_same
    have sG5 : Same G H5 := ((Same.new h1).new' h2).trans s5
    have sG : Same G H6 := by
      refine Same.trans ?_ s6
      refine Same.new' ?_ hc2
      refine Same.new' ?_ hc1
      refine Same.new' ?_ hdue
      refine Same.new' ?_ ht2
      refine Same.new' ?_ ht1
      refine sameLate ?_ h2'
      refine Same.new' ?_ hz
      exact sameLate sG5 h1
    have sT : Same (upd (upd (upd H5 one (.lst (ls.map V.int ++ [.int 7]))) z (.lst [.int 5, .int 5])) two (.lst ((hs.map V.int).take (Int.toNat 0) ++ [.int 5, .int 5] ++ (hs.map V.int).drop (Int.toNat 1)))) H6 :=
      (((((Same.new ht1).new' ht2).new' hdue).new' hc1).new' hc2).trans s6
    have bx : IsB K H6 x ls hs := ((((b5.but (p := one) trivial k0 .set).same (.new hz)).but (p := two) trivial ((Same.new hz) _ _ ((upd_ne n21).trans k1)) .set).same sT)
    have sd : Same (upd _ due (.tup [.str "made", .ref t1, .ref t2, .int (ls.length : Nat)])) H6 := ((Same.new hc1).new' hc2).trans s6
    have q1 : H6 due = some (.tup [.str "made", .ref t1, .ref t2, .int (ls.length : Nat)]) := sd _ _ upd_same
    have q2 : H6 t1 = some (.tup (ls.map V.int)) := sd _ _ ((((Same.new ht2).new' hdue)) _ _ upd_same)
    have q3 : H6 t2 = some (.tup (hs.map V.int)) := sd _ _ ((Same.new hdue) _ _ upd_same)
    refine cutI (fun σ' H' => σ' = [some (.ref a), some (.ref p), some (.int (ls.length : Nat)), some (.ref pr), some (.int (ms.length : Nat)), some (.ref qr), some (.ref one), some (.ref two), some (.ref x), some (.ref due), some (.ref y), none] ∧ Same H6 H') (fun N next => ?_) (fun σ' G2 z => ?_)
    · clear sd sT k0 k1 hz hx hdx hne h1 h2 s5 b5 ht1 ht2 hdue hc1 hc2 hy hdy hney s6 h2'
      o_reads
      exact next _ _ ⟨rfl, by o_fieldsN⟩
    obtain ⟨rfl, sG2⟩ := z
    have s7 := sG.trans sG2
    have p7 := s7 _ _ hp5
    have pr7 := s7 _ _ hpr5
    have A7 := s7 _ _ hA5
    have B7 := s7 _ _ hB5
    have qr7 := s7 _ _ hqr5
    have C7 := s7 _ _ hC5
    have D7 := s7 _ _ hD5
    have x7 := bx.same sG2
    have y7 := b6.same sG2
    have u1 := sG2 _ _ q1
    have u2 := sG2 _ _ q2
    have u3 := sG2 _ _ q3
    clear sd sT k0 k1 hz hx hdx hne h1 h2 s5 b5 ht1 ht2 hdue hc1 hc2 hy hdy hney s6 h2' hp5 hpr5 hA5 hB5 hqr5 hC5 hD5 bx b6 q1 q2 q3 s7 sG2 sG sG5
    o_reads
    rename_i H8 nu ns8 st8 nnu bt8 p8 ok8 nu8 ln8 in8
    have nT : ∀ {t : Addr} {xs : List V}, G2 t = some (.tup xs) → t ≠ p := fun h z => by rw [z, p7] at h; cases h
    have v1 := bt8 _ _ (nT u1) u1
    have v2 := bt8 _ _ (nT u2) u2
    have v3 := bt8 _ _ (nT u3) u3
    have pr8 := bt8 _ _ npr pr7
    have A8 := bt8 _ _ nA A7
    have B8 := bt8 _ _ nB B7
    have qr8 := bt8 _ _ nqr qr7
    have C8 := bt8 _ _ nC C7
    have D8 := bt8 _ _ nD D7
    have x8 := x7.but mp p7 bt8
    have y8 := y7.but mp p7 bt8
    clear p7 pr7 A7 B7 qr7 C7 D7 x7 y7 u1 u2 u3 bt8 nT
    refine cutI (fun σ' H' => σ' = [some (.ref a), some (.ref p), some (.int (ls.length : Nat)), some (.ref pr), some (.int (ms.length : Nat)), some (.ref qr), some (.ref one), some (.ref two), some (.ref x), some (.ref due), some (.ref y), some (.ref nu)] ∧ Same H8 H') (fun N next => ?_) (fun σ' G3 z => ?_)
    · o_reads
      exact next _ _ ⟨rfl, by o_fieldsN⟩
    obtain ⟨rfl, s9⟩ := z
    have w1 := s9 _ _ v1
    have w2 := s9 _ _ v2
    have w3 := s9 _ _ v3
    have pr9 := s9 _ _ pr8
    have A9 := s9 _ _ A8
    have B9 := s9 _ _ B8
    have qr9 := s9 _ _ qr8
    have C9 := s9 _ _ C8
    have D9 := s9 _ _ D8
    have p9 := s9 _ _ p8
    have nu9 := s9 _ _ nu8
    have x9 := x8.same s9
    have y9 := y8.same s9
    clear s9 p8 pr8 A8 B8 qr8 C8 D8 x8 y8 v1 v2 v3 nu8
    o_reads
    rename_i Ha sa Hb sb H9 sc
    have s10 : Same G3 H9 := (sa.trans sb).trans sc
    have w1' := s10 _ _ w1
    have w2' := s10 _ _ w2
    have w3' := s10 _ _ w3
    have pr10 := s10 _ _ pr9
    have A10 := s10 _ _ A9
    have B10 := s10 _ _ B9
    have qr10 := s10 _ _ qr9
    have C10 := s10 _ _ C9
    have D10 := s10 _ _ D9
    have p10 := s10 _ _ p9
    have x10 := x9.same s10
    have y10 := y9.same s10
    clear s10 sa sb sc w1 w2 w3 pr9 A9 B9 qr9 C9 D9 p9 nu9 x9 y9
    refine cutI (fun σ' H' => σ' = [some (.ref a), some (.ref p), some (.int (ls.length : Nat)), some (.ref pr), some (.int (ms.length : Nat)), some (.ref qr), some (.ref one), some (.ref two), some (.ref x), some (.ref due), some (.ref y), some (.ref nu)] ∧ But p H9 H') (fun N next => ?_) (fun σ' G4 z => ?_)
    · o_reads
      exact next _ _ ⟨rfl, by o_fieldsN⟩
    obtain ⟨rfl, b11⟩ := z
    have nT : ∀ {t : Addr} {xs : List V}, H9 t = some (.tup xs) → t ≠ p := fun h z => by rw [z, p10] at h; cases h
    have w1 := b11 _ _ (nT w1') w1'
    have w2 := b11 _ _ (nT w2') w2'
    have w3 := b11 _ _ (nT w3') w3'
    have qr11 := b11 _ _ nqr qr10
    have C11 := b11 _ _ nC C10
    have D11 := b11 _ _ nD D10
    have x11 := x10.but mp p10 b11
    have y11 := y10.but mp p10 b11
    clear b11 w1' w2' w3' pr10 A10 B10 qr10 C10 D10 p10 x10 y10 nT
    o_reads
    exact q _
end
end K24

set_option maxRecDepth 100000
set_option maxHeartbeats 0
namespace K24
open PySem PySem.W PySem.Spec PySem.Calls PyProof.Rows L2 He He5 HX
theorem facts {w : World} {K : Frag} {h : Heap} {mg : Str → Option Value} {f : Addr} (X : K.In h) (G : h.Ns mainGlobals mg) (hfa : mg ("law" : Str) = some (.ref f)) (c : SaysX bx fn er "/claim/cut.py" K) :
    ∃ fd : FuncData, (∀ (s : Shared) (v : Value), BindsTo s fd ⟨[v], []⟩ [("script", v)]) ∧ ∀ base : Heap, K.In base → base.Ns mainGlobals mg → FnOk PG w K mg base CX0 11 f fd ["script"] (spLaw K) := by
  have T := tx_of c X G
  obtain ⟨fd, F⟩ := T.f_law
  have e := hfa.symm.trans T.g_law
  cases e
  exact ⟨fd, fun s v => FunD.bindsA (ps := ["script"]) F (fun _ _ _ _ _ _ us hl => match us, hl with | [_], _ => rfl) s [v] rfl, fun base _ _ => fn_law T F⟩
end K24
open PySem PySem.W PySem.Calls PyProof.Rows
theorem PySem.Challenge.cw_nightsoff_k24_bounds_holds : PySem.Challenge.rw_nightsoff_k24_bounds.Holds := by
  w_on; o_law
  refine HandSHeadRun.head_any (r := OpenLaw.row PySem.Challenge.rw_nightsoff_k24_bounds) (q := view (OpenLaw.row PySem.Challenge.rw_nightsoff_k24_bounds).prog [44]) (H := K24.hk) (ob := K24.ob) (M := 20000) (loose := K24.names) (d := HandSHeadRun.topDef (OpenLaw.row PySem.Challenge.rw_nightsoff_k24_bounds).prog 44) (kwd := []) K24.ob_eq
    (by kernel_rfl) (fun s => by kernel_rfl) K24.run (by kernel_rfl) (by kernel_rfl) (by kernel_rfl) (by rfl) (by first | assumption | decide +kernel) (by decide +kernel) ⟨rfl, rfl, rfl, rfl, rfl, by decide +kernel⟩ ?hw ?hc
  case hw => w_witness2
  case hc =>
    refine L2.walk_ofX (l := PySem.Challenge.rw_nightsoff_k24_bounds) (n := 63) (k := 11) (x := "script") (CX := fun _ => L2.CX0) rfl (by decide) (by kernel_rfl) ⟨rfl, by decide, by decide⟩ ?F (fun _ _ _ _ _ z => z)
    intro w mg fa h Y G hmg0
    obtain ⟨K, KX, c⟩ := Y
    have hmg : mg ("law" : PySem.Str) = some (.ref fa) := by
      have e : (HandSHeadRun.topDef (OpenLaw.row PySem.Challenge.rw_nightsoff_k24_bounds).prog 44).name = ("law" : PySem.Str) := by kernel_rfl
      rw [← e]
      exact hmg0
    obtain ⟨fd, hb, hF⟩ := K24.facts (w := w) KX G hmg c
    exact ⟨K, fd, K24.spLaw K, KX, hb, fun H a ns hl _ _ hS => ⟨a, ns, rfl, hS, fun _ => rfl⟩, hF⟩
