import PyProof.Rows.All
import Wide.All
import OpenK.AllK
import Wide.FinOn
import KE.KExcSuper
import HandS.ForExc
import HandS.ExcInit
import HandS.TryMany
import HandS.ExcField
import HandS.ExcIs
import HandS.ExcSuper
import HandS.ForMost
import HandS.ClsMeth
import HandS.Star
import HandS.IsInst
import HandS.TupAny
import HandS.TupMul
import HandS.Style
import HandS.Wide
import HandS.Codes
import KE.KOpsOwn
import KE.GoesNew
import KE.GoesMore
import HandS.Iter
import HandS.Walk
import KE.KOwnIter
import KE.KSuperObj
import KE.KTupSum
import KE.KRevSl
import HandS.HeadNt
import HandS.HeadHook3
import HandS.Head2
import HandS.EndBits
import HandS.CallLocal
import HandS.ExcOwn
import HandS.WordsExc
import HandS.Strs
import HandS.MakeKw
import HandS.Property
import HandS.MakeKwOnly
import HandS.SortKw
import KE.DataMinMax
import KE.GoesZip
import HandS.Zip
import PyProof.MeetsIn
import PyProof.Rows.Range3
import HandS.Sort
import PyProof.ListRange
import HandS.SortRule
import KE.KEqSeq
import PySem.Challenge.RW_nightsoff_k34_row_allows
set_option Elab.async false
set_option linter.all false
set_option maxRecDepth 100000
set_option maxHeartbeats 4000000
/-! # Exceptions of the program: every class over NightsError whose __init__ says super().__init__(text) and then stores its parameters. -/
namespace NX
open PySem PySem.W PySem.Calls PyProof.Rows PySem.HandSPX

/-- the stores behind super().__init__: field and parameter -/
inductive Sto : List Stmt → List (Str × Str) → Prop
  | nil : Sto [] []
  | cons {f x : Str} {p1 p2 p3 p4 : Pos} {r : List Stmt} {l : List (Str × Str)} (h : Sto r l) : Sto (.Assign [.Attribute (.Name "self" p1) f p2] (.Name x p3) p4 :: r) ((f, x) :: l)

/-- an exception that is made: its fields, the newest first -/
def Half (h : Heap) (C e : Addr) (d : Option Addr) (fs : List (Str × Value)) : Prop :=
  ∃ t : Addr, h.get? e = some { cls := .ref C, dict := d, data := .fields #[.ref t, .none, .none, .none, .bool false, .none] } ∧
    match d with
    | none => fs = []
    | some dx => dx ≠ e ∧ ∃ m, h.Ns1 dx m ∧ ∀ f, m f = fs.lookup f

structure ClsX (K : Frag) (C : Addr) : Prop where
  cls : ∃ nm q N bs bm sn sub ab col dd k0 k1 k2 k3 k5, K.lookup C = some (excClassObj nm q C N bs bm true sn sub ab col dd k0 k1 k2 k3 k5 "ValueError.__new__") ∧ refsVE bm = true ∧ alongIn K "__init__" bm = some (some (.builtin "ValueError.__init__"))
  sa : findIn K (.ref C) "__setattr__" = some (some (.builtin "object.__setattr__"))
  ve : subIn K (.ref C) (.type "ValueError") = some true

theorem lookup_cons (f g : Str) (y : Value) (fs : List (Str × Value)) : ((f, y) :: fs).lookup g = if g = f then some y else fs.lookup g := by
  by_cases h : g = f
  · subst h
    simp [List.lookup]
  · have e : (g == f) = false := by simpa using h
    rw [if_neg h]
    simp [List.lookup, e]
theorem lookup_mem_keys : ∀ {l : List (Str × Value)} {x : Str} {v : Value}, l.lookup x = some v → x ∈ l.map (·.1)
  | [], _, _, h => by cases h
  | (f, y) :: r, x, v, h => by
    rw [lookup_cons] at h
    by_cases e : x = f
    · rw [e]
      exact List.mem_cons_self ..
    · rw [if_neg e] at h
      exact List.mem_cons_of_mem _ (lookup_mem_keys h)
theorem within_map {fs : List (Str × Value)} {m : Str → Option Value} (r : ∀ f, m f = fs.lookup f) : Within m (fs.map (·.1)) := fun y hy => by
  rw [r y] at hy
  clear r
  induction fs with
  | nil => exact absurd rfl hy
  | cons p l ih =>
    obtain ⟨f, z⟩ := p
    rw [lookup_cons] at hy
    by_cases e : y = f
    · rw [e]
      exact List.mem_cons_self ..
    · rw [if_neg e] at hy
      exact List.mem_cons_of_mem _ (ih hy)

section
variable {prog : Program} {w : World} {A : Around} {E : Value → Shared → Prop} {K : Frag} {C e L : Addr}
/-- one store -/
theorem put_field (T : ClsX K C) {h : Heap} {g : Array GenState} {dr : Drawn} {tk : Nat} {os : OsState} {d : Option Addr} {fs : List (Str × Value)} {f : Str} {v : Value} {Q : Unit → Shared → Prop} (X : K.In h) (I : Half h C e d fs) (hl : fs.length ≤ 900)
    (hno : findIn K (.ref C) f = some none)
    (hq : ∀ h' tk' d', Half h' C e (some d') ((f, v) :: fs) → (∀ b o, b ≠ e → (∀ dx, d = some dx → b ≠ dx) → h.get? b = some o → h'.get? b = some o) → (∀ dx, d = some dx → d' = dx) → (d = none → h.objs.size ≤ d') → Q () ⟨h', g, dr, tk', os⟩) :
    wpAny (model prog w) A (setAttr (.ref e) f v) Q E ⟨h, g, dr, tk, os⟩ := by
  obtain ⟨nm, q, N, bs, bm, sn, sub, ab, col, dd, k0, k1, k2, k3, k5, hC, hbm, _⟩ := T.cls
  have hcl : clsIn K C = some { name := nm, bases := bs, mro := .ref C :: bm, ns := N, qualname := q, hasDict := true, slotNames := sn, subclasses := sub, abstract := ab, collection := col, hasDel := false } := by unfold clsIn; rw [hC] <;> rfl
  obtain ⟨t, ho, hd⟩ := I
  cases d with
  | none =>
    have hfs : fs = [] := hd
    subst hfs
    refine set_plain X (ox := { cls := .ref C, dict := none, data := .fields #[.ref t, .none, .none, .none, .bool false, .none] }) (od := none) ⟨ho, rfl, rfl, trivial⟩ T.sa ?_
    refine exc_osa X ho hcl (show refsVE (.ref C :: bm) = true from hbm) rfl hno (fun h' tk' dx k dn dne hx hn => ?_)
    refine hq h' tk' dx ⟨t, hx, dne, _, hn, fun y => ?_⟩ (fun b o hb _ z => k b o hb z) (fun _ z => nomatch z) fun _ => dn
    rw [lookup_cons]
    rfl
  | some dx =>
    obtain ⟨dne, m, hns, rel⟩ := hd
    have hw := within_map rel
    obtain ⟨oD, _, _, hoD, _, _⟩ := hns.count hw
    refine set_plain X (ox := { cls := .ref C, dict := some dx, data := .fields #[.ref t, .none, .none, .none, .bool false, .none] }) (od := some oD) ⟨ho, rfl, rfl, hoD⟩ T.sa ?_
    refine PySem.OEX.osa_old X ho hns hw (by rw [List.length_map]; omega) hcl (show refsVE (.ref C :: bm) = true from hbm) rfl hno (fun h' tk' k hn => ?_)
    refine hq h' tk' dx ⟨t, k _ _ (Ne.symm dne) ho, dne, _, hn, fun y => ?_⟩ (fun b o _ hb z => k b o (hb dx rfl) z) (fun _ z => Option.some.inj z) fun z => nomatch z
    rw [lookup_cons, rel y]
/-- the stores, one after the other -/
theorem sto_run (T : ClsX K C) {env : Env} {m : Str → Option Value} (hLv : env.locals = L) (hk : env.scope.kind = .function) (hs : env.kindOf "self" = some .local) (hm : m "self" = some (.ref e)) :
    ∀ {r : List Stmt} {l : List (Str × Str)}, Sto r l → (∀ p ∈ l, env.kindOf p.2 = some .local ∧ (m p.2).isSome = true ∧ (p.2 == ("__debug__" : Str)) = false ∧ findIn K (.ref C) p.1 = some none) →
    ∀ {h : Heap} {g : Array GenState} {dr : Drawn} {tk : Nat} {os : OsState} {d : Option Addr} {fs : List (Str × Value)} {Q : Flow → Shared → Prop}, K.In h → K.lookup e = none → (∀ dx, d = some dx → K.lookup dx = none) → Half h C e d fs → L ≠ e → (∀ dx, d = some dx → L ≠ dx) → h.Ns L m → fs.length + l.length ≤ 900 →
      (∀ h' tk' d', Half h' C e d' ((l.map fun p => (p.1, (m p.2).getD .none)).reverse ++ fs) → (∀ b o, b ≠ e → (∀ dx, d = some dx → b ≠ dx) → h.get? b = some o → h'.get? b = some o) → (∀ dx, d = some dx → d' = some dx) →
        (d = none → ∀ dx, d' = some dx → h.objs.size ≤ dx) → Q .next ⟨h', g, dr, tk', os⟩) →
      wpAny (model prog w) A (execs r env) Q E ⟨h, g, dr, tk, os⟩ := by
  intro r l S
  induction S with
  | nil =>
    intro _ h g dr tk os d fs Q _ _ _ I _ _ _ _ hq
    exact wpAny_execs_nil (hq h tk d I (fun _ _ _ _ z => z) (fun _ z => z) fun z dx y => by rw [z] at y; cases y)
  | @cons f x p1 p2 p3 p4 r l hS ih =>
    intro hp h g dr tk os d fs Q X he hde I hLe hLd hn hl hq
    obtain ⟨q1, q2, q3, q4⟩ := hp (f, x) (List.mem_cons_self ..)
    obtain ⟨v, hv⟩ := Option.isSome_iff_exists.mp q2
    subst hLv
    refine wpAny_execs_cons (plainObj_wpAny_Assign_Attribute ?_)
    refine PySem.ESX.ldL (v := v) hn hv (PySem.ESX.ldL (v := .ref e) hn hm ?_ hk hs) hk q1 q3
    refine put_field T X I (by simp only [List.length_cons] at hl; omega) q4 fun h' tk' d' I' k' kd kn => ?_
    have nb : ∀ b o, K.lookup b = some o → b ≠ e ∧ ∀ dx, d = some dx → b ≠ dx := fun b o z => ⟨fun y => (by rw [y, he] at z; cases z), fun dx y w => (by rw [w, hde dx y] at z; cases z)⟩
    have X' : K.In h' := fun b o z => k' b o (nb b o z).1 (nb b o z).2 (X b o z)
    have hLn : env.locals < h.objs.size := hn.lt
    have hLd' : env.locals ≠ d' := by
      cases d with
      | none => exact Nat.ne_of_lt (Nat.lt_of_lt_of_le hLn (kn rfl))
      | some dx => rw [kd dx rfl]; exact hLd dx rfl
    have hn' : h'.Ns env.locals m := by
      obtain ⟨oL, es, ep, hL, rr⟩ := hn
      exact ⟨oL, es, ep, k' _ _ hLe hLd hL, rr⟩
    have he' : K.lookup d' = none := by
      cases d with
      | none =>
        cases z : K.lookup d' with
        | none => rfl
        | some o => exact absurd (Nat.lt_of_lt_of_le (Heap.lt_size (X _ _ z)) (kn rfl)) (Nat.lt_irrefl _)
      | some dx => rw [kd dx rfl]; exact hde dx rfl
    refine ih (fun p hp' => hp p (List.mem_cons_of_mem _ hp')) X' he (fun dx z => by cases z; exact he') I' hLe (fun dx z => by cases z; exact hLd') hn' (by simp only [List.length_cons] at hl ⊢; omega) fun h2 tk2 d2 I2 k2 kd2 _ => ?_
    have ed2 : d2 = some d' := kd2 d' rfl
    refine hq h2 tk2 d2 ?_ (fun b o hb hd z => k2 b o hb (fun dx y => ?_) (k' b o hb hd z)) (fun dx z => ?_) fun z dx y => ?_
    · rw [List.map_cons, List.reverse_cons, List.append_assoc]
      rw [hv]
      exact I2
    · cases y
      cases d with
      | none => exact Nat.ne_of_lt (Nat.lt_of_lt_of_le (Heap.lt_size z) (kn rfl))
      | some dx => rw [kd dx rfl]; exact hd dx rfl
    · rw [ed2, kd dx z]
    · rw [ed2] at y
      cases y
      exact kn z
end

/-- the statement super().__init__(text) -/
def supS (msg : Str) (k : Nat) (q1 q2 q3 q4 q5 q6 : Pos) : Stmt := .Expr (.Call (.Attribute (.Call (.Name "super" q1) [] [] q2) "__init__" q3) [.Constant (.str msg) k q4] [] q5) q6
structure InitX (prog : Program) (K : Frag) (C fI : Addr) (qual : Str) (params : Arguments) (scope : Scope) (body : List Stmt) (ar : Arg) (l : List (Str × Str)) : Prop where
  txt : ∃ msg k q1 q2 q3 q4 q5 q6 r, body = supS msg k q1 q2 q3 q4 q5 q6 :: r ∧ Sto r l ∧ (∀ env : Env, env.scope = scope → interactive env = false) ∧
    ∀ env : Env, env.scope = scope → ∃ pl : Sem Bool, eval (.Call (.Attribute (.Call (.Name "super" q1) [] [] q2) "__init__" q3) [.Constant (.str msg) k q4] [] q5) env = (do
      let ov ← attributeBase (.Call (.Name "super" q1) [] [] q2) "__init__" env (eval (.Call (.Name "super" q1) [] [] q2) env)
      standAt q3.atName
      let (f, first) ← holding [ov] (getMethod ov "__init__" pl)
      callWith q5 f first (backTo q5 (starEach [.Constant (.str msg) k q4] env)) [])
  iC : findIn K (.ref C) "__init__" = some (some (.ref fI))
  tC : typeIn K (.ref fI) = some (.type "function")
  fn : ∃ (oc : Value) (od : Option Addr) (kV doc pm : Value) (an : Option Addr) (cda : Addr) (ct : Value) (osl : Array (Option Value)) (cc : Addr) (cl : Value) (cld : Option Addr) (csl : Array (Option Value)) (ccl : Value) (cdd : Option Addr) (vs : Array Value) (ccs : Array (Option Value)) (file : Str) (tf : Tok),
    K.lookup fI = some ⟨oc, od, .func (ksFn "__init__" qual params body scope .none kV doc pm an (.ref cda) ct cc), osl⟩ ∧ codeIn K (.ref cda) qual = true ∧
    K.lookup cc = some ⟨cl, cld, .cell (some (.ref C)), csl⟩ ∧ K.lookup cda = some ⟨ccl, cdd, .fields vs, ccs⟩ ∧ vs[2]? = some (.str file tf) ∧ ((prog.main.file : Str) == file) = true
  par : (params.posonlyargs ++ params.args).head? = some ar
  arN : ar.arg = "self"
  sup : scope.names.lookup ("super" : Str) = some .globalImplicit
  cls : scope.names.lookup ("__class__" : Str) = some .free
  slf : scope.names.lookup ("self" : Str) = some .local
  loc : ∀ p ∈ l, scope.names.lookup p.2 = some .local ∧ (p.2 == ("__debug__" : Str)) = false ∧ findIn K (.ref C) p.1 = some none
  cell : ∀ x ∈ scope.names, x.2 ≠ .cell
  kind : scope.kind = .function
  co : scope.isCoroutine = false
  gen : scope.isGenerator = false
  top : (prog.main.scope.names.lookup ("super" : Str)).isSome = false
  few : l.length ≤ 900

/-- what stands behind the making of an exception -/
structure Made (h h' : Heap) (C e : Addr) (d : Option Addr) (fs : List (Str × Value)) : Prop where
  keep : ∀ b o, h.get? b = some o → h'.get? b = some o
  new : h.objs.size ≤ e
  obj : Half h' C e d fs
  dct : ∀ dx, d = some dx → h.objs.size ≤ dx

/-- a bound wrapper called with one written text -/
theorem mw_call {M : Model} {A : Around} {E : Value → Shared → Prop} {s : Shared} {u x : Addr} {i : String} {pos : Pos} {env : Env} {msg : Str} {kk : Nat} {q4 : Pos} {Q : Value → Shared → Prop} (hu : s.heap.get? u = some (kxs_mw i x))
    (h : ∀ t, wpAny M A (call (.ref u) [.str msg t]) Q E { s with toks := s.toks + 1 }) :
    wpAny M A (callWith pos (.ref u) [] (backTo pos (starEach [.Constant (.str msg) kk q4] env)) []) Q E s := by
  have he : starEach [.Constant (.str msg) kk q4] env = (false, eval (.Constant (.str msg) kk q4) env) :: starEach [] env := by rfl
  have hpl : (backTo pos (starEach [] env)).any (·.1) = false := by rfl
  rw [he]
  refine kxs_callWith (i := i) (x := x) (by show (false || (backTo pos (starEach [] env)).any (·.1)) = false; rw [hpl]; rfl) (evalArgs_plain ?_)
  show wpAny M A (spliced (backTo pos (starEach [.Constant (.str msg) kk q4] env))) _ E s
  exact spliced_more (Calls.Constant_str (spliced_none ⟨hu, h _⟩))

section
variable {prog : Program} {w : World} {A : Around} {R : Result → Shared → Prop} {K : Frag} {C fI : Addr} {qual : Str} {params : Arguments} {scope : Scope} {body : List Stmt} {ar : Arg} {l : List (Str × Str)} {mg mb : Str → Option Value}
theorem exn_made (T : ClsX K C) (I : InitX prog K C fI qual params scope body ar l) {s : Shared} {us : List Value} {binds : List (Str × Value)} (X : K.In s.heap) (hlim : s.heap.NoLimit) (hG : s.heap.Ns mainGlobals mg) (hB : s.heap.Ns builtinsNs mb) (hsup : mg "super" = none) (hmb : mb "super" = some (.type "super"))
    (ho : nsIn K cStatics "thirdparty.any" = some none)
    (hroom : A.depth + 1 < recursionLimit) (hlen : us.length ≤ sizeLine)
    (hbind : ∀ (s' : Shared) (e : Addr) (fd : FuncData), fd.params = params → fd.scope = scope → fd.defaults = .none → BindsTo s' fd ⟨.ref e :: us, []⟩ (("self", .ref e) :: binds))
    (hin : ∀ p ∈ l, (binds.lookup p.2).isSome = true) (hbl : ∀ y ∈ binds, scope.names.lookup y.1 = some .local) (hnd : (binds.map (·.1)).Nodup ∧ ("self" : Str) ∉ binds.map (·.1))
    (hq : ∀ h' tk e d, Made s.heap h' C e d (l.map fun p => (p.1, (binds.lookup p.2).getD .none)).reverse → R (.ok (.ret (.ref e))) { s with heap := h', toks := tk }) :
    codeAny (model prog w) A (.call (.ref C) ⟨us, []⟩) R s := by
  obtain ⟨nm, q, N, bs, bm, sn, sub, ab, col, dd, k0, k1, k2, k3, k5, hC, hbm, hal⟩ := T.cls
  obtain ⟨msg, kk, q1, q2, q3, q4, q5, q6, r, eb, hS, hint, hev⟩ := I.txt
  obtain ⟨oc, od, kV, doc, pm, an, cda, ct, osl, cc, cl, cld, csl, ccl, cdd, vs, ccs, file, tf, hfn, hcd, hcell, hcda, hvs, hfile⟩ := I.fn
  have hcl : clsIn K C = some { name := nm, bases := bs, mro := .ref C :: bm, ns := N, qualname := q, hasDict := true, slotNames := sn, subclasses := sub, abstract := ab, collection := col, hasDel := false } := by unfold clsIn; rw [hC] <;> rfl
  obtain ⟨hp, g, dr, tk, os⟩ := s
  have k : ∀ b o, hp.get? b = some o → ((hp.push (kdv_tup us)).push (excO C hp.objs.size)).get? b = some o := fun b o e => Heap.get?_push_of_some _ (Heap.get?_push_of_some _ e)
  have hget : ((hp.push (kdv_tup us)).push (excO C hp.objs.size)).get? (hp.objs.size + 1) = some (excO C hp.objs.size) := by heap_get
  have hnx : K.lookup (hp.objs.size + 1) = none := by
    cases e : K.lookup (hp.objs.size + 1) with
    | none => rfl
    | some o =>
      have z : hp.get? (hp.objs.size + 1) = some o := X _ _ e
      exact absurd (Nat.lt_of_succ_lt (Heap.lt_size z)) (Nat.lt_irrefl _)
  refine call_own F.excBase_ValueError (fun X => refsVE_contains X bm hbm) (X _ _ hC) (looks_findIn X I.iC) (fun self => bind_fn X self I.tC) hlen ?_
  refine ks_codeAny_call_defAt (binds := ("self", .ref (hp.objs.size + 1)) :: binds) (body := body) (show A.depth + 1 < recursionLimit from hroom) (k _ _ (X _ _ hfn)) rfl (hlim.keeps k) (codeRec_of (X.keeps k) hcd) rfl (hbind _ _ _ rfl rfl rfl) I.cell ?_ (fun h₀ hns hk₀ => ?_) I.co I.gen I.kind
  · intro x hx
    rcases List.mem_cons.mp hx with rfl | hx
    · exact I.slf
    · exact hbl x hx
  · subst eb
    let env : Env := callEnv (ksFn "__init__" qual params (supS msg kk q1 q2 q3 q4 q5 q6 :: r) scope .none kV doc pm an (.ref cda) ct cc) ((hp.push (kdv_tup us)).push (excO C hp.objs.size)).objs.size fI
    have k₀ : ∀ b o, hp.get? b = some o → h₀.get? b = some o := fun b o z => hk₀ b o (k b o z)
    have X₀ : K.In h₀ := X.keeps k₀
    have hx₀ := hk₀ _ _ hget
    obtain ⟨pl, hpl⟩ := hev env rfl
    refine ks_wpAt_execs_cons (ks_wpAt_Expr_any (ks_wpAt_MethodCall (pl := pl) ?_ hpl) (hint env rfl))
    refine ks_wpAt_super_base (f := fI) (cc := cda) I.sup I.cls (by decide) rfl (X₀ _ _ hfn) rfl I.par rfl (X₀ _ _ hcda) rfl hvs hfile I.top ?_
    refine ks_loadName_global I.kind I.sup (loadGlobal_builtin (hG.keeps k₀) hsup (hB.keeps k₀) hmb ⟨rfl, ?_⟩)
    refine wpAny_loadName_free I.kind I.cls rfl ⟨_, X₀ _ _ hcell, rfl⟩ ?_
    refine wpAny_loadName_local I.kind (show env.kindOf ar.arg = some .local by rw [I.arN]; exact I.slf) hns (v := .ref (hp.objs.size + 1)) (by rw [I.arN, lookup_reverse_of_nodup _ (by rw [List.map_cons]; exact List.nodup_cons.mpr ⟨hnd.2, hnd.1⟩)]; simp [List.lookup]) ?_
    refine ks_wpAny_isType_cls (X₀ _ _ hC) rfl ⟨rfl, ?_⟩
    refine ks_wpAny_call_super (X₀ _ _ hC) rfl hx₀ rfl (fun c z => nomatch z) (looks_mroIn X₀ ?_) (fun h1 e1 k1 => ?_)
    · unfold mroIn
      rw [hcl, Option.bind_some, if_neg (show ¬ (List.isEmpty (Value.ref C :: bm) = true) from Bool.false_ne_true)]
      simp
    · have X₁ : K.In h1 := X₀.keeps k1
      have hx₁ := k1 _ _ hx₀
      have Ity : Looks (model prog w) h1 (typeOf (.ref (hp.objs.size + 1))) (.ref C) := (show InstAt h1 (hp.objs.size + 1) (excO C hp.objs.size) C none from ⟨hx₁, rfl, rfl, trivial⟩).type
      have hxC : hp.objs.size + 1 ≠ C := fun z => by
        have y := X _ _ hC
        rw [← z] at y
        exact absurd (Nat.lt_of_succ_lt (Heap.lt_size y)) (Nat.lt_irrefl _)
      refine kxs_getMethod kxs_ValueError e1 (looks_opaque X₁ ho) ((looks_clsIn X₁ hcl).andThen .now) (l := bm) (by simp [List.dropWhile_cons]) X₁ hal (Ity.andThen (looks_subIn X₁ T.ve)) hxC (by decide) ?_
      refine mw_call (u := h1.objs.size) (x := hp.objs.size + 1) (Heap.get?_push_at rfl rfl) fun t => ?_
      have hw : (h1.push (kxs_mw "ValueError.__init__" (hp.objs.size + 1))).get? h1.objs.size = some (kxs_mw "ValueError.__init__" (hp.objs.size + 1)) := Heap.get?_push_at rfl rfl
      have k2 : ∀ b o, h1.get? b = some o → (h1.push (kxs_mw "ValueError.__init__" (hp.objs.size + 1))).get? b = some o := fun b o z => Heap.get?_push_of_some _ z
      have X₂ : K.In _ := X₁.keeps k2
      refine wpAny_call (codeAny_of_tree ?_)
      show wpAny _ _ (callAny (.ref h1.objs.size) ⟨[.str msg t], []⟩) _ _ _
      simp only [callAny]
      refine wpAny_bind (wpAny_load hw ?_)
      simp only [kxs_mw, show (Value.type "method-wrapper" == Value.type "method" || Value.type "method-wrapper" == Value.type "builtin_function_or_method" || Value.type "method-wrapper" == Value.type "method-wrapper") = true by decide, if_true]
      refine KFB.if_so (by decide) ?_
      refine wpAny_bind (check_bound_init F.excBase_ValueError.toExcCallFacts (X₂ _ _ hC) (k2 _ _ hx₁) rfl ?_)
      refine wpAny_bind (wpAny_pure (wpAny_pure ?_))
      refine ⟨plainId_quiet F.excBase_ValueError.init.plain _, codeAny_builtin F.excBase_ValueError.initEntry ?_⟩
      refine exc_init_tree (cls := .ref C) (t0 := hp.objs.size) (dv := none) (c2 := .none) (c3 := .none) (b4 := .bool false) (k2 _ _ hx₁) (by show 1 ≤ sizeLine; decide) fun h3 k3 e3 _ => ?_
      have kk3 : ∀ b o, b ≠ hp.objs.size + 1 → h₀.get? b = some o → h3.get? b = some o := fun b o hb z => k3 b o hb (k2 b o (k1 b o z))
      have notE : ∀ b o, hp.get? b = some o → b ≠ hp.objs.size + 1 := fun b o z => Nat.ne_of_lt (Nat.lt_of_lt_of_le (Heap.lt_size z) (Nat.le_succ _))
      have k4 : ∀ b o, hp.get? b = some o → h3.get? b = some o := fun b o z => kk3 b o (notE b o z) (k₀ b o z)
      have hL : env.locals ≠ hp.objs.size + 1 := by
        show ((hp.push (kdv_tup us)).push (excO C hp.objs.size)).objs.size ≠ hp.objs.size + 1
        rw [Heap.size_push, Heap.size_push]
        omega
      have hn3 : h3.Ns env.locals fun x => List.lookup x ((("self" : Str), Value.ref (hp.objs.size + 1)) :: binds).reverse := by
        obtain ⟨oL, es, ep, hoL, rr⟩ := hns
        exact ⟨oL, es, ep, kk3 _ _ hL hoL, rr⟩
      have nd : (((("self" : Str), Value.ref (hp.objs.size + 1)) :: binds).map (·.1)).Nodup := by
        rw [List.map_cons]
        exact List.nodup_cons.mpr ⟨hnd.2, hnd.1⟩
      have lk : ∀ x : Str, x ≠ "self" → List.lookup x ((("self" : Str), Value.ref (hp.objs.size + 1)) :: binds).reverse = binds.lookup x := fun x hx => by
        rw [lookup_reverse_of_nodup _ nd, lookup_cons, if_neg hx]
      have pne : ∀ p ∈ l, p.2 ≠ ("self" : Str) := fun p hp' e => by
        have q := hin p hp'
        rw [e] at q
        obtain ⟨v, hv⟩ := Option.isSome_iff_exists.mp q
        have : ("self" : Str) ∈ binds.map (·.1) := by
          exact lookup_mem_keys hv
        exact hnd.2 this
      refine wpAt_of_wpAny (sto_run T (env := env) (d := none) rfl I.kind I.slf (by rw [lookup_reverse_of_nodup _ nd, lookup_cons, if_pos rfl]) hS (fun p hp' => ?_) (X.keeps k4) hnx (fun _ z => nomatch z) ⟨_, e3, rfl⟩ hL (fun _ z => nomatch z) hn3 (by have := I.few; simpa using this) fun h4 tk4 d4 I4 k5 _ kn => ?_)
      · obtain ⟨a1, a2, a3⟩ := I.loc p hp'
        exact ⟨a1, by rw [lk _ (pne p hp')]; exact hin p hp', a2, a3⟩
      · refine ⟨rfl, hq h4 tk4 _ d4 ⟨fun b o z => k5 b o (notE b o z) (fun _ y => nomatch y) (k4 b o z), Nat.le_succ _, ?_, fun dx y => ?_⟩⟩
        · have e5 : (l.map fun p => (p.1, (List.lookup p.2 ((("self" : Str), Value.ref (hp.objs.size + 1)) :: binds).reverse).getD Value.none)) = l.map fun p => (p.1, (binds.lookup p.2).getD Value.none) :=
            List.map_congr_left fun p hp' => by rw [lk _ (pne p hp')]
          rw [e5, List.append_nil] at I4
          exact I4
        · have b : hp.objs.size ≤ h3.objs.size := Nat.le_trans (Nat.le_succ _) (Nat.le_of_lt (Heap.lt_size e3))
          exact Nat.le_trans b (kn rfl dx y)
end
end NX

set_option maxRecDepth 100000
set_option maxHeartbeats 4000000
/-! # Raising them, over the layer -/
namespace L2
open PySem PySem.Spec PyProof.Rows

/-- a class of the program's errors: its parameters ps, what it stores (field, parameter) -/
structure Exn (prog : Program) (K : PySem.W.Frag) (mg : Str → Option Value) (x : Str) (C fI : Addr) (ps : List Str) (l : List (Str × Str)) : Prop where
  cls : NX.ClsX K C
  ini : ∃ qual params scope body ar, NX.InitX prog K C fI qual params scope body ar l ∧ (∀ (s' : Shared) (e : Addr) (fd : FuncData) (us : List Value), us.length = ps.length → fd.params = params → fd.scope = scope → fd.defaults = .none → BindsTo s' fd ⟨.ref e :: us, []⟩ (("self", .ref e) :: ps.zip us)) ∧
    ∀ p ∈ ps, scope.names.lookup p = some .local
  loc : ∀ p ∈ l, p.2 ∈ ps
  nod : ps.Nodup ∧ ("self" : Str) ∉ ps
  gC : mg x = some (.ref C)
  sup : mg "super" = none
  any : PySem.W.nsIn K cStatics "thirdparty.any" = some none
  kC : PySem.W.keepIn K (.ref C) = true
  exC : PySem.W.subIn K (.ref C) (.type "BaseException") = some true
  tyC : PySem.W.typeIn K (.ref C) = some (.type "type")

/-- the fields of an error made with vs -/
def fieldsX (ps : List Str) (l : List (Str × Str)) (vs : List V) : List (Str × V) := (l.map fun p => (p.1, ((ps.zip vs).lookup p.2).getD .non)).reverse

theorem look_zip : ∀ {ps : List Str} {vs : List V} {us : List Value} {x : Str}, Vals vs us → RelO ((ps.zip vs).lookup x) ((ps.zip us).lookup x)
  | [], _, _, _, _ => by simp [RelO]
  | _ :: _, [], _, _, .nil => by simp [RelO]
  | p :: ps, v :: vs, _, x, .cons (b := u) r t => by
    rw [List.zip_cons_cons, List.zip_cons_cons]
    by_cases e : x = p
    · subst e
      simpa [List.lookup, RelO] using r
    · have q : (x == p) = false := by simpa using e
      simp only [List.lookup, q]
      exact look_zip t
theorem look_some : ∀ {ps : List Str} {us : List Value} {x : Str}, x ∈ ps → us.length = ps.length → ((ps.zip us).lookup x).isSome = true
  | [], _, _, h, _ => by cases h
  | p :: ps, [], _, _, h => by cases h
  | p :: ps, u :: us, x, h, hl => by
    rw [List.zip_cons_cons, NX.lookup_cons]
    by_cases e : x = p
    · rw [if_pos e]
      rfl
    · rw [if_neg e]
      exact look_some ((List.mem_cons.mp h).resolve_left e) (by simpa using hl)
theorem map_fst_zip : ∀ {ps : List Str} {us : List Value}, us.length = ps.length → (ps.zip us).map (·.1) = ps
  | [], _, _ => rfl
  | p :: ps, [], h => by cases h
  | p :: ps, u :: us, h => by
    rw [List.zip_cons_cons, List.map_cons, map_fst_zip (by simpa using h)]
theorem relO_fields {ps : List Str} {vs : List V} {us : List Value} (r : Vals vs us) (hl : us.length = ps.length) : ∀ {l : List (Str × Str)}, (∀ p ∈ l, p.2 ∈ ps) → ∀ f, RelO ((fieldsX ps l vs).lookup f) (((l.map fun p => (p.1, ((ps.zip us).lookup p.2).getD Value.none)).reverse).lookup f) := by
  intro l hp f
  have key : ∀ {l : List (Str × Str)}, (∀ p ∈ l, p.2 ∈ ps) → RelO ((l.map fun p => (p.1, ((ps.zip vs).lookup p.2).getD V.non)).lookup f) ((l.map fun p => (p.1, ((ps.zip us).lookup p.2).getD Value.none)).lookup f) := by
    intro l
    induction l with
    | nil => intro _; simp [RelO]
    | cons p r' ih =>
      intro hp
      rw [List.map_cons, List.map_cons]
      by_cases e : f = p.1
      · have q : (f == p.1) = true := by simpa using e
        simp only [List.lookup, q]
        have z := look_zip (ps := ps) (x := p.2) r
        obtain ⟨u, hu⟩ := Option.isSome_iff_exists.mp (look_some (us := us) (hp p (List.mem_cons_self ..)) hl)
        rw [hu] at z ⊢
        cases y : List.lookup p.2 (ps.zip vs) with
        | none => rw [y] at z; exact z.elim
        | some v => rw [y] at z; exact z
      · have q : (f == p.1) = false := by simpa using e
        simp only [List.lookup, q]
        exact ih fun p' h' => hp p' (List.mem_cons_of_mem _ h')
  unfold fieldsX
  rw [← List.map_reverse, ← List.map_reverse]
  exact key fun p h => hp p (List.mem_reverse.mp h)

/-- X(e, ..) -/
def tMkX (C : Addr) (ps : List Str) (l : List (Str × Str)) (ta : TA) : St → Hp → XK → Prop := fun σ H Q => ta σ H fun vs H1 => vs.length = ps.length ∧ ∀ d, H1 d = none → Q (.ref C) (some d) (upd H1 d (.xd (fieldsX ps l vs)))
section
variable {X : Cx} {C fI : Addr} {x : Str} {ps : List Str} {l : List (Str × Str)}
theorem mk_made (T : Exn X.prog X.K X.mg x C fI ps l) (hl0 : l ≠ []) {k : Nat} (hr : Room k X.A) {pins : List (Addr × Obj)} {σ : St} {H1 : Hp} {Q : XK} {s1 : Shared} {vs : List V} {us : List Value} (I1 : Inv X pins σ H1 s1) (r1 : Vals vs us) (hlen : vs.length = ps.length) (hps : ps.length ≤ 900)
    (q1 : ∀ d, H1 d = none → Q (.ref C) (some d) (upd H1 d (.xd (fieldsX ps l vs)))) : wpAny (model X.prog X.w) X.A (call (.ref C) us) (MkP X pins σ Q) X.xe s1 := by
  obtain ⟨qual, params, scope, body, ar, hI, hb, hloc⟩ := T.ini
  have hus : us.length = ps.length := by rw [← r1.length]; exact hlen
  obtain ⟨hG, mb, hB, hbb⟩ : s1.heap.Ns mainGlobals X.mg ∧ ∃ mb : Str → Option Value, s1.heap.Ns builtinsNs mb ∧ ∀ x : Str, x ≠ "__name__" → mb x = bootBuiltins x := by
    obtain ⟨_, h1, ⟨mb, h2, h3⟩, _⟩ := I1.mod
    exact ⟨h1.keeps I1.bk, mb, h2.keeps I1.bk, h3⟩
  refine wpAny_call (NX.exn_made (binds := ps.zip us) T.cls hI I1.kIn I1.nolimit hG hB T.sup ((hbb _ (by decide)).trans (by decide +kernel)) T.any (by have := hr.dp; omega) (by rw [hus]; exact Nat.le_trans hps (by decide)) (fun s' e fd h1 h2 h3 => hb s' e fd us hus h1 h2 h3)
    (fun p hp => look_some (T.loc p hp) hus) (fun y hy => hloc _ (by rw [← map_fst_zip hus]; exact List.mem_map_of_mem hy)) (by rw [map_fst_zip hus]; exact T.nod) fun h' tk' e d M => ?_)
  obtain ⟨hp, g, dr, tk, os⟩ := s1
  obtain ⟨t0, hoe, hdd⟩ := M.obj
  cases d with
  | none => exact absurd (by simpa using hdd) hl0
  | some d =>
    obtain ⟨dne, m, hns, hm⟩ := hdd
    show MkP X pins σ Q (.ref e) ⟨h', g, dr, tk', os⟩
    obtain ⟨G', g1, g2⟩ := restrict h' fun b => decide (b ≠ e)
    have gk : ∀ b, b ≠ e → G'.get? b = h'.get? b := fun b hb => g1 b (decide_eq_true hb)
    have ge : G'.get? e = none := g2 e (by simp)
    have old : ∀ b o, hp.get? b = some o → G'.get? b = some o := fun b o q => (gk b (Nat.ne_of_lt (Nat.lt_of_lt_of_le (Heap.lt_size q) M.new))).trans (M.keep b o q)
    have dbig : hp.objs.size ≤ d := M.dct d rfl
    have ob : ObjOk X.prog X.w (upd H1 d (.xd (fieldsX ps l vs))) G' d (.xd (fieldsX ps l vs)) :=
      ⟨m, hns.at (fun o q => (gk d dne).trans q), fun f => by rw [hm f]; exact relO_fields r1 hus T.loc f⟩
    have J : Inv X pins σ (upd H1 d (.xd (fieldsX ps l vs))) ⟨G', g, dr, tk', os⟩ := I1.laid (t' := tk') old dbig ob
    refine ⟨e, _, _, ⟨G', g, dr, tk', os⟩, _, .ref C, some d, rfl, J, fun b o q => ?_, ge, hoe, ⟨rfl, rfl⟩, rfl, rfl, ?_, rfl, I1.bare, raises_own T.exC T.tyC, q1 d (I1.hok.fresh dbig)⟩
    · by_cases hb : b = e
      · have q' : G'.get? b = some o := q
        rw [hb, ge] at q'; cases q'
      · exact (gk b hb).symm.trans q
    · rw [upd_ne (Ne.symm dne)]
      exact I1.hok.fresh M.new
variable {e : Expr} {es : List Expr} {ta : TA} {p pos pos2 : Pos} {W : WX} {k : Nat}
theorem pmk_x (T : Exn X.prog X.K X.mg x C fI ps l) (hl0 : l ≠ []) (hps : ps.length ≤ 900) (hr : Room k X.A) (hg : Gl X x) (ha : PA X (e :: es) ta) (hdb : (x == ("__debug__" : Str)) = false := by decide)
    (he : starEach (e :: es) X.env = (false, eval e X.env) :: starEach es X.env := by rfl) (hpl : (backTo pos (starEach es X.env)).any (·.1) = false := by rfl) :
    PMk X (.Call (.Name x p) (e :: es) [] pos) (tMkX C ps l ta) := by
  intro pins s σ H Q I h
  refine wpAny_Call_Name_kw (ld_glob I hg T.gC ?_ hdb)
  refine PySem.W.callWith_K (h₀ := X.base) I.ok.mod.kin T.kC (thn (ha.run pos pins s σ H _ I h) fun us s1 hh => ?_) he hpl
  obtain ⟨vs, H1, I1, r1, hlen, q1⟩ := hh
  exact ⟨I1.kIn, mk_made T hl0 hr I1 r1 hlen hps q1⟩
/-- raise X(e, ..) -/
def tRaiseX (C : Addr) (ps : List Str) (l : List (Str × Str)) (W : WX) (ta : TA) : TS := fun _ σ H => tMkX C ps l ta σ H fun cls d H' => W cls d σ H'
theorem ps_raiseX (hc : X.calm = true) (T : Exn X.prog X.K X.mg x C fI ps l) (hl0 : l ≠ []) (hps : ps.length ≤ 900) (hr : Room k X.A) (tk : Takes X W) (hg : Gl X x) (ha : PA X (e :: es) ta) (hdb : (x == ("__debug__" : Str)) = false := by decide)
    (he : starEach (e :: es) X.env = (false, eval e X.env) :: starEach es X.env := by rfl) (hpl : (backTo pos (starEach es X.env)).any (·.1) = false := by rfl) :
    PS X (.Raise (some (.Call (.Name x p) (e :: es) [] pos)) none pos2) (tRaiseX C ps l W ta) := ps_raise hc tk (pmk_x T hl0 hps hr hg ha hdb he hpl)
end
end L2

set_option maxRecDepth 100000
set_option maxHeartbeats 4000000
/-! # Further rules over the layer -/
namespace L2
open PySem PySem.Spec PyProof.Rows
/-- x is True, x is False -/
def rIsTF : R2 := fun x y H Q => ∃ b : Bool, y = .bl b ∧ Q (.bl (decide (x = .bl b))) H
theorem op_isTF {X : Cx} : OpR X (compareOp .Is) rIsTF := by
  intro pins s σ H x y v u Q I rx ry h
  obtain ⟨b, rfl, q⟩ := h
  cases ry
  cases x with
  | non => cases rx; exact wpAny_pure (fin_bl I q (by simp))
  | bl c => cases rx; exact wpAny_pure (fin_bl I q (by cases b <;> cases c <;> rfl))
  | int i => obtain ⟨t, rfl⟩ := rx; exact wpAny_pure (fin_bl I q (by simp))
  | str i => obtain ⟨t, rfl⟩ := rx; exact wpAny_pure (fin_bl I q (by simp))
  | byt i => obtain ⟨t, rfl⟩ := rx; exact wpAny_pure (fin_bl I q (by simp))
  | flt i => obtain ⟨t, rfl⟩ := rx; exact wpAny_pure (fin_bl I q (by simp))
  | ref a => cases rx; exact wpAny_pure (fin_bl I q (by simp))
  | ty n => cases rx; exact wpAny_pure (fin_bl I q (by simp))

/-! ### operators that an own class defines -/
/-- what a class says of its own method for the operator op (forward) -/
structure OwnOp (K : PySem.W.Frag) (C : Addr) (op : Operator) (f : Addr) : Prop where
  first : PySem.W.selfFirst K C = true
  at_ : PySem.W.findIn K (.ref C) (PySem.dunder op.info.2) = some (some (.ref f))
  fn : PySem.W.isFn K (.ref f) = true
/-- .. against a value of the built-in class T -/
structure OwnOpT (K : PySem.W.Frag) (C : Addr) (op : Operator) (f : Addr) (T : String) : Prop extends OwnOp K C op f where
  rev : ∃ rc, PySem.W.findIn K (.ref C) (dunderR op.info.2) = some rc ∧ (rc = none ∨ ∃ g : Addr, rc = some (.ref g))
  tf : ∃ fo, PySem.W.findIn K (.type T) (PySem.dunder op.info.2) = some fo
  tr : ∃ ro, PySem.W.findIn K (.type T) (dunderR op.info.2) = some ro
  sub : PySem.W.subIn K (.type T) (.ref C) = some false
theorem inst_of {P : Program} {w : World} {H : Hp} {h : Heap} {a C dx : Addr} {fs : List (Str × V)} (hok : HOk P w H h) (ha : H a = some (.ins C dx fs)) : ∃ od, PySem.W.InstAt h a (PySem.W.instObj C dx) C (some od) := by
  obtain ⟨mA, J, _⟩ := ins_get hok ha
  obtain ⟨od, J, _⟩ := J.look
  exact ⟨od, J⟩
theorem back_of {X : Cx} {pins : List (Addr × Obj)} {σ : St} {Q : VK} {v : Value} {s' : Shared} (h : EP X pins σ Q v s') : PySem.W.CmpBack (fun v s' => EP X pins σ Q v s') v s' := by
  obtain ⟨x, H, I, r, q⟩ := id h
  cases v <;> first
    | exact h
    | (cases x <;> first | (obtain ⟨t, z⟩ := r; cases z; done) | (cases r; done))
/-- a op b, b of the same class -/
def rOwnOp (C : Addr) (sp : Sp) (E : XK) : R2 := fun x y H Q => ∃ a dx fs b dy gs, x = .ref a ∧ y = .ref b ∧ H a = some (.ins C dx fs) ∧ H b = some (.ins C dy gs) ∧ sp [.ref a, .ref b] H Q E
theorem op_own {X : Cx} {CX : CXT} {op : Operator} {C f : Addr} {fd : FuncData} {ps : List Str} {sp : Sp} {E : XK} {k : Nat} (O : OwnOp X.K C op f) (F : FnOk X.prog X.w X.K X.mg X.base CX k f fd ps sp) (hb : Binds X.K fd ps []) (hr : Room k X.A) (hx : Passes CX X E) :
    OpR X (binaryOp op) (rOwnOp C sp E) := by
  intro pins s σ H x y v u Q I rx ry h
  obtain ⟨a, dx, fs, b, dy, gs, rfl, rfl, ha, hb', hsp⟩ := h
  cases rx
  cases ry
  obtain ⟨od, J⟩ := inst_of I.hok ha
  obtain ⟨od', J'⟩ := inst_of I.hok hb'
  obtain ⟨m, hF⟩ := I.fr
  refine PySem.W.binop_K hF I.ok.mod.kin J J'.type O.first O.at_ O.fn (wpAny_mono (run_fn F hr hb .nil hx I (us := [.ref a, .ref b]) (vs := [.ref a, .ref b]) (.cons rfl (.cons rfl .nil)) hsp) (fun r s' q => back_of q) fun _ _ z => z)
/-- a op n, n a number -/
def rOwnOpI (C : Addr) (sp : Sp) (E : XK) : R2 := fun x y H Q => ∃ a dx fs n, x = .ref a ∧ y = .int n ∧ H a = some (.ins C dx fs) ∧ sp [.ref a, .int n] H Q E
theorem op_ownI {X : Cx} {CX : CXT} {op : Operator} {C f : Addr} {fd : FuncData} {ps : List Str} {sp : Sp} {E : XK} {k : Nat} (O : OwnOpT X.K C op f "int") (F : FnOk X.prog X.w X.K X.mg X.base CX k f fd ps sp) (hb : Binds X.K fd ps []) (hr : Room k X.A) (hx : Passes CX X E) :
    OpR X (binaryOp op) (rOwnOpI C sp E) := by
  intro pins s σ H x y v u Q I rx ry h
  obtain ⟨a, dx, fs, n, rfl, rfl, ha, hsp⟩ := h
  cases rx
  obtain ⟨t, rfl⟩ := ry
  obtain ⟨od, J⟩ := inst_of I.hok ha
  obtain ⟨m, hF⟩ := I.fr
  obtain ⟨rc, h1, h2⟩ := O.rev
  obtain ⟨fo, h3⟩ := O.tf
  obtain ⟨ro, h4⟩ := O.tr
  refine PySem.W.ksp_binT (T := "int") hF I.ok.mod.kin J rfl O.first O.at_ O.fn h1 h2 h3 h4 O.sub (wpAny_mono (run_fn F hr hb .nil hx I (us := [.ref a, .int n t]) (vs := [.ref a, .int n]) (.cons rfl (.cons ⟨t, rfl⟩ .nil)) hsp) (fun r s' q => back_of q) fun _ _ z => z)

/-- -a -/
def rOwnNeg (C : Addr) (sp : Sp) (E : XK) : V → Hp → VK → Prop := fun x H Q => ∃ a dx fs, x = .ref a ∧ H a = some (.ins C dx fs) ∧ sp [.ref a] H Q E
theorem un_own {X : Cx} {CX : CXT} {C f : Addr} {fd : FuncData} {ps : List Str} {sp : Sp} {E : XK} {k : Nat} (hs : PySem.W.findIn X.K (.ref C) "__neg__" = some (some (.ref f))) (hf : PySem.W.isFn X.K (.ref f) = true) (F : FnOk X.prog X.w X.K X.mg X.base CX k f fd ps sp) (hb : Binds X.K fd ps []) (hr : Room k X.A) (hx : Passes CX X E) :
    UnR X (unaryOp .USub) (rOwnNeg C sp E) := by
  intro pins s σ H x v Q I rx h
  obtain ⟨a, dx, fs, rfl, ha, hsp⟩ := h
  cases rx
  obtain ⟨od, J⟩ := inst_of I.hok ha
  obtain ⟨m, hF⟩ := I.fr
  exact PySem.W.ksp_neg hF I.ok.mod.kin J hs hf (run_fn F hr hb .nil hx I (us := [.ref a]) (vs := [.ref a]) (.cons rfl .nil) hsp)
end L2

set_option maxRecDepth 100000
set_option maxHeartbeats 4000000
/-! # enumerate(x), x a list or a tuple -/
namespace EN
open PySem PySem.Builtin
set_option maxHeartbeats 1000000 in
theorem meets1 {v : Value} {o : Obj} {H : Heap → Prop} (B : Begins v o H) :
    Meets (Builtin.«enumerate.__new__» ⟨[.type "enumerate", v], []⟩) (fun _ R s => H s.heap ∧
      R (.ok (.ret (.ref (s.heap.push o).objs.size))) { s with heap := (s.heap.push o).push { cls := .type "enumerate", data := .fields #[.none, .bool false, .ref s.heap.objs.size, rawInt 0, .none, .none] } }) :=
  .of_wp fun prog w A R s h => by
    obtain ⟨hp, g, d, tk, os⟩ := s; obtain ⟨h1, h⟩ := h
    have hsub := sub_enumerate
    have q1 : ∀ {A' : Around} {E : Value → Shared → Prop} {Q : Value → Shared → Prop}, Q (.ref hp.objs.size) ⟨hp.push o, g, d, tk, os⟩ → wpAny (model prog w) A' (pyIter v) Q E ⟨hp, g, d, tk, os⟩ :=
      fun q => B.iter prog w _ _ ⟨hp, g, d, tk, os⟩ _ h1 q
    wp_walk using q1
    refine wpAny_stack_any fun st => wpAny_pure ?_
    split
    · rename_i c _ _ _ _ _
      cases (c == Value.type "enumerate")
      · wp_walk using q1
        exact ⟨_, rfl, h⟩
      · wp_walk using q1
        exact ⟨_, rfl, h⟩
    · wp_walk using q1
      exact ⟨_, rfl, h⟩
section
variable {prog : Program} {w : World} {A : Around} {E : Value → Shared → Prop} {s : Shared}
theorem begins1 {v : Value} {o : Obj} {H : Heap → Prop} {Q : Value → Shared → Prop} (B : Begins v o H) (h1 : H s.heap)
    (h : ∀ h', IsEnum h' (s.heap.objs.size + 1) s.heap.objs.size 0 .none → h'.get? s.heap.objs.size = some o → h'.objs.size = s.heap.objs.size + 2 →
      (∀ b o, s.heap.get? b = some o → h'.get? b = some o) → Q (.ref (s.heap.objs.size + 1)) { s with heap := h' })
    (ht : checkTypeCall "enumerate" ⟨[v], []⟩ = pure ()) (hn : checkBuiltinCall "enumerate.__new__" ⟨[.type "enumerate", v], []⟩ = pure ()) (ha : ∀ obj, argsOk "object.__init__" ⟨[obj, v], []⟩) :
    wpAny (model prog w) A (call (.type "enumerate") [v]) Q E s := by
  refine callType_new F.called_enumerate (by decide) ht hn ha F.entry_enumerate_new (meets1 B) ⟨h1, ?_⟩
  have hz : (s.heap.push o).objs.size = s.heap.objs.size + 1 := Heap.size_push ..
  show _ ∧ _
  rw [hz]
  have he : IsEnum ((s.heap.push o).push { cls := .type "enumerate", data := .fields #[.none, .bool false, .ref s.heap.objs.size, rawInt 0, .none, .none] }) (s.heap.objs.size + 1) s.heap.objs.size 0 .none := by
    have := Heap.get?_push_size (s.heap.push o) (o := { cls := .type "enumerate", data := .fields #[.none, .bool false, .ref s.heap.objs.size, rawInt 0, .none, .none] }) rfl
    rw [hz] at this; exact this
  refine ⟨⟨_, he, rfl⟩, h _ he (Heap.get?_push_of_some _ (Heap.get?_push_size _ B.free)) (by rw [Heap.size_push, hz]) fun b o x => Heap.get?_push_of_some _ (Heap.get?_push_of_some _ x)⟩
end
end EN

namespace L2
open PySem PySem.Spec PyProof.Rows
/-- enumerate over the tuple at a, from k on -/
def IteT (K : PySem.W.Frag) (k : Int) (a : Addr) : It :=
  ⟨fun i H => ∃ (xs : List V) (x : V), SqT K H a xs ∧ xs[i]? = some x, fun i H v H' => ∃ T x, v = .ref T ∧ H T = none ∧ H' = upd H T (.tup [.int (k + (i : Int)), x]) ∧ ∀ xs, SqT K H a xs → xs[i]? = some x, fun i H => ∃ xs : List V, SqT K H a xs ∧ xs.length = i⟩
theorem turn_enumT {P : Program} {w : World} {K : PySem.W.Frag} {elts : List Expr} {kk : Nat} {tpos : Pos} (k : Int) (a e it : Addr) (hei : e ≠ it) :
    Turn P w K (.Tuple elts kk tpos) (IteT K k a) [e, it] e (fun i h => (∃ old, IsEnum h e it (k + ((i : Nat) : Int)) old) ∧ h.IsTupleIter it a i) where
  mem := by simp
  obj := fun i h st b hb => by
    obtain ⟨⟨old, he⟩, ⟨o, ho, hc, hd⟩⟩ := st
    have e' : b = e ∨ b = it := by simpa using hb
    rcases e' with z | z
    · rw [z]; exact ⟨_, he, fun v q => nomatch q⟩
    · rw [z]; exact ⟨o, ho, fun v q => by rw [hd] at q; cases q⟩
  keep := fun i h h' st k => let ⟨⟨old, he⟩, hi⟩ := st; ⟨⟨old, k e (by simp) _ he⟩, hi.at fun o q => k it (by simp) o q⟩
  item := by
    intro X hP hw hK hc i pins s σ H E I hf st hg
    subst hP hw hK
    obtain ⟨⟨old, he⟩, hit⟩ := st
    obtain ⟨xs, x, hq, hx⟩ := hg
    obtain ⟨its, rv, p, hz⟩ := I.tuple hq
    obtain ⟨u, hu, ru⟩ := rv.get hx
    have hel : e < s.heap.objs.size := Heap.lt_size he
    have hil : it < s.heap.objs.size := by obtain ⟨_, q, _⟩ := hit; exact Heap.lt_size q
    have hae : e ≠ a := fun z => by
      obtain ⟨o, ho, hcls, _⟩ := p
      rw [← z, he] at ho
      cases ho
      exact absurd (show Value.type "enumerate" = Value.type "tuple" from hcls) (by decide)
    have hai : a ≠ it := fun z => by
      obtain ⟨o, ho, hcls, _⟩ := p
      obtain ⟨o2, ho2, hc2, _⟩ := hit
      rw [z, ho2] at ho
      cases ho
      rw [hc2] at hcls
      exact absurd hcls (by decide)
    have W := GoesN.enumFrom (prog := X.prog) (w := X.w) (A := X.A) (elts := elts) (x1 := kk) (pos := tpos) k (Draws.tuple (prog := X.prog) (w := X.w) (A := X.A.in1) (I.ok.hd hc) it a hai its.toArray) e hei (by simp [hei, hae]) (by simp)
    have hi : i < its.toArray.size := by
      have := (List.getElem?_eq_some_iff.mp hu).1
      simpa using this
    refine wpAny_mono (W.goes i s _ E hi ⟨⟨old, he⟩, hit, p⟩ fun v h' tk hY st' hk htk => ?_) (fun r s1 hr => hr) fun _ _ z => z
    obtain ⟨T, t, y, rfl, hT, hPy, hTup⟩ := hY
    have ey : y = u := by
      have hu' : its.toArray[i]? = some u := by simpa using hu
      rw [hu'] at hPy
      exact (Option.some.inj hPy).symm
    subst ey
    obtain ⟨⟨old2, he2⟩, hit2, _⟩ := st'
    have new : ObjOk X.prog X.w (upd H T (.tup [.int (k + (i : Int)), x])) h' T (.tup [.int (k + (i : Int)), x]) :=
      ⟨by show 2 ≤ sizeLine; decide, [.int (k + (i : Int)) t, y], .cons ⟨_, rfl⟩ (.cons ru .nil), hTup⟩
    have I1 : Inv X pins σ (upd H T (.tup [.int (k + (i : Int)), x])) { s with heap := h', toks := tk } :=
      I.turnedNew (ch := [e, it]) (fun b ob hb q => hk b ob hb q) hf hT new
    refine ⟨.ref T, _, I1, rfl, ⟨_, x, rfl, I.hok.fresh hT, rfl, fun ys hy => by rw [I.tuple_inj hy hq]; exact hx⟩, ⟨⟨old2, he2⟩, hit2⟩, fun b hb => ?_⟩
    have hb' : b < s.heap.objs.size := by
      have e' : b = e ∨ b = it := by simpa using hb
      rcases e' with z | z
      · rw [z]; exact hel
      · rw [z]; exact hil
    rw [upd_ne (Nat.ne_of_lt (Nat.lt_of_lt_of_le hb' hT))]
    exact (hf b hb).1
  done := by
    intro X hP hw hK hc i pins s σ H E I hf st hg
    subst hP hw hK
    obtain ⟨⟨old, he⟩, hit⟩ := st
    obtain ⟨xs, hq, hx⟩ := hg
    obtain ⟨its, rv, p, hz⟩ := I.tuple hq
    have hai : a ≠ it := fun z => by
      obtain ⟨o, ho, hcls, _⟩ := p
      obtain ⟨o2, ho2, hc2, _⟩ := hit
      rw [z, ho2] at ho
      cases ho
      rw [hc2] at hcls
      exact absurd hcls (by decide)
    have hae : e ≠ a := fun z => by
      obtain ⟨o, ho, hcls, _⟩ := p
      rw [← z, he] at ho
      cases ho
      exact absurd (show Value.type "enumerate" = Value.type "tuple" from hcls) (by decide)
    have W := GoesN.enumFrom (prog := X.prog) (w := X.w) (A := X.A) (elts := elts) (x1 := kk) (pos := tpos) k (Draws.tuple (prog := X.prog) (w := X.w) (A := X.A.in1) (I.ok.hd hc) it a hai its.toArray) e hei (by simp [hei, hae]) (by simp)
    have hl := rv.length
    have hn : its.toArray.size = i := by
      rw [List.size_toArray, ← hl, hx]
    refine wpAny_mono (W.stops s (fun s1 => Inv X pins σ H s1) E (by rw [hn]; exact ⟨⟨old, he⟩, hit, p⟩) fun h' tk hk htk => I.turnedL (t' := tk) (ch := [e, it]) (fun b o hb q => hk b o hb q) hf) (fun r s1 hr => hr) fun _ _ z => z
  self := fun A i s Q E st h => let ⟨⟨_, he⟩, _⟩ := st; wpAny_pyIter_enum he h

theorem walk_enumT {K : PySem.W.Frag} {k : Int} {a : Addr} {xs : List V} : Walk (IteT K k a) xs.length (fun H => SqT K H a xs) (YPair (fun i => some (.int (k + (i : Nat)))) (fun i => xs[i]?)) where
  goes := fun i H hi h => ⟨xs, xs[i], h, List.getElem?_eq_getElem hi⟩
  stops := fun H h => ⟨xs, h, rfl⟩
  yields := fun i H v H' hi h y => by
    obtain ⟨T, x, rfl, hT, rfl, hx⟩ := y
    exact ⟨T, .int (k + (i : Nat)), x, rfl, hT, rfl, rfl, hx xs h⟩
/-- enumerate(x), x a list or a tuple -/
def iEnumA (K : PySem.W.Frag) (ta : TA) : TI := fun σ H R => ta σ H fun vs H1 => ∃ a xs, vs = [.ref a] ∧ ((SqL K H1 a xs ∧ R (Ite K a) H1) ∨ (SqT K H1 a xs ∧ R (IteT K 0 a) H1))
theorem pi_enumA {X : Cx} {e : Expr} {ta : TA} {p pos tpos : Pos} {elts : List Expr} {kk : Nat} (hg : Gl X "enumerate") (hm : X.mg "enumerate" = none) (ha : PA X [e] ta) (hs : starEach [e] X.env = [(false, eval e X.env)] := by rfl) :
    PI X (.Tuple elts kk tpos) (.Call (.Name "enumerate" p) [e] [] pos) (iEnumA X.K ta) := by
  refine ⟨fun pins s σ H R I h => ?_⟩
  refine Call_ (ld_blt I hg hm boot_enumerate (PyProof.Rows.callWith_type1 (thn (ha.run pos pins s σ H _ I h) fun us s1 ⟨vs, H1, I1, r1, q1⟩ => ?_) hs rfl))
  obtain ⟨a, xs, ex, q1⟩ := q1
  subst ex
  cases r1 with
  | cons r rr =>
    cases rr
    cases r
    have fresh2 : ∀ b, b ∈ [s1.heap.objs.size + 1, s1.heap.objs.size] → FpOk X pins H1 b := fun b hb => by
      have e' : b = s1.heap.objs.size + 1 ∨ b = s1.heap.objs.size := by simpa using hb
      have hle : s1.heap.objs.size ≤ b := by
        rcases e' with z | z
        · rw [z]; exact Nat.le_add_right _ _
        · rw [z]; exact Nat.le_refl _
      exact I1.fpOk hle (I1.hok.fresh hle)
    rcases q1 with ⟨hq, q⟩ | ⟨hq, q⟩
    · obtain ⟨its, rv, p', hz⟩ := I1.list hq
      refine call_enumerate_list p'.isList fun h' he hit hsz hk => wpAny_pyIter_enum he ?_
      have I2 : Inv X pins σ H1 { s1 with heap := h' } := I1.kept (t' := s1.toks) hk
      exact ⟨s1.heap.objs.size + 1, [s1.heap.objs.size + 1, s1.heap.objs.size], _, _, H1, rfl, I2, turn_enum a (s1.heap.objs.size + 1) s1.heap.objs.size, ⟨⟨.none, he⟩, hit, Nat.succ_ne_self _⟩, fresh2, q⟩
    · obtain ⟨its, rv, p', hz⟩ := I1.tuple hq
      refine EN.begins1 (begins_tuple a its.toArray) p' (fun h' he hit hsz hk => wpAny_pyIter_enum he ?_) (F.typeCall_enumerate_1 _) (F.newCall_enumerate_1 _) (fun obj => F.args_object_init_2 obj _)
      have I2 : Inv X pins σ H1 { s1 with heap := h' } := I1.kept (t' := s1.toks) hk
      exact ⟨s1.heap.objs.size + 1, [s1.heap.objs.size + 1, s1.heap.objs.size], _, _, H1, rfl, I2, turn_enumT 0 a (s1.heap.objs.size + 1) s1.heap.objs.size (Nat.succ_ne_self _), ⟨⟨.none, he⟩, ⟨_, hit, rfl, rfl⟩⟩, fresh2, q⟩
end L2

set_option maxRecDepth 100000
set_option maxHeartbeats 4000000
/-! # for x in an instance whose __iter__ says: return iter(self.field), the field a tuple -/
namespace L2
open PySem PySem.Spec PyProof.Rows PySem.W
structure OwnIt (K : Frag) (mg : Str → Option Value) (C f : Addr) (fld : Str) : Prop where
  cls : Cls K C
  noA : NoAttr K C fld
  at_ : findIn K (.ref C) "__iter__" = some (some (.ref f))
  fn : isFn K (.ref f) = true
  free : mg "iter" = none
  txt : ∃ qual params scope p1 p2 p3 p4 p5, (∃ (oc : Value) (od : Option Addr) (kV doc pm : Value) (an : Option Addr) (cdv ct : Value) (osl : Array (Option Value)),
      K.lookup f = some ⟨oc, od, .func (fnOf "__iter__" qual params [.Return (some (.Call (.Name "iter" p1) [.Attribute (.Name "self" p2) fld p3] [] p4)) p5] scope .none kV doc pm an cdv ct), osl⟩ ∧ codeIn K cdv qual = true) ∧
    scope.names.lookup ("self" : Str) = some .local ∧ scope.names.lookup ("iter" : Str) = some .globalImplicit ∧ (∀ x ∈ scope.names, x.2 ≠ .cell) ∧ scope.kind = .function ∧ scope.isCoroutine = false ∧ scope.isGenerator = false ∧
    (∀ (s : Shared) (fd : FuncData) (v : Value), fd.params = params → fd.scope = scope → fd.defaults = .none → BindsTo s fd ⟨[v], []⟩ [("self", v)]) ∧
    ∀ env : Env, env.scope = scope → attributeBase (.Name "self" p2) fld env (eval (.Name "self" p2) env) = eval (.Name "self" p2) env
abbrev tupIt (t : Addr) : Obj := { cls := .type "tuple_iterator", data := .fields #[.ref t, .int 0 0] }
theorem call_iter_tup {prog : Program} {w : World} {A : Around} {E : Value → Shared → Prop} {s : Shared} {t : Addr} {items : Array Value} {Q : Value → Shared → Prop} (ht : s.heap.IsTuple t items) (h : Q (.ref s.heap.objs.size) { s with heap := s.heap.push (tupIt t) }) :
    wpAny (model prog w) A (call (.builtin "iter") [.ref t]) Q E s := by
  refine Calls.call_function_entry (by decide +kernel) (by decide +kernel) kdk_entry_iter (kdk_args_iter _) ?_
  unfold Builtin.«iter»
  refine wpAny_bind (m := someArgs "iter" 1 2 _) (wpAny_of_eq (a := [Value.ref t]) (by first | rfl | kernel_rfl!) ?_)
  show wpAny _ _ (pyIter (.ref t) >>= _) _ _ _
  refine wpAny_bind (wpAny_pyIter_tuple ht ?_)
  exact wpAny_pure ⟨_, rfl, h⟩
section
variable {X : Cx} {pins : List (Addr × Obj)} {σ : St} {H : Hp} {s : Shared} {a C dx f t : Addr} {fs : List (Str × V)} {fld : Str} {xs : List V} {k : Nat}
theorem own_iter (O : OwnIt X.K X.mg C f fld) (hr : Room k X.A) (I : Inv X pins σ H s) (ha : H a = some (.ins C dx fs)) (hv : fs.lookup fld = some (.ref t)) (hT : SqT X.K H t xs) {Q : Value → Shared → Prop}
    (hq : ∀ h' tk it, (∀ b o, s.heap.get? b = some o → h'.get? b = some o) → s.heap.objs.size ≤ it → h'.get? it = some (tupIt t) → Q (.ref it) { s with heap := h', toks := tk }) :
    wpAny (model X.prog X.w) X.A (pyIter (.ref a)) Q X.xe s := by
  obtain ⟨qual, params, scope, p1, p2, p3, p4, p5, ⟨oc, od, kV, doc, pm, an, cdv, ct, osl, hfn, hcd⟩, sc1, sc2, sc3, sc4, sc5, sc6, hb, hbase⟩ := O.txt
  obtain ⟨mA, J0, rel, _⟩ := ins_get I.hok ha
  obtain ⟨oda, J, _⟩ := J0.look
  obtain ⟨m, hF⟩ := I.fr
  obtain ⟨its, rv, hTup, _⟩ := I.tuple hT
  obtain ⟨u, hu, ru⟩ := RelO.some_of (v := V.ref t) (o := mA fld) (by rw [← hv]; exact rel fld)
  cases ru
  have hG : s.heap.Ns mainGlobals X.mg := I.mod.glob.keeps I.bk
  obtain ⟨mb, hB, hbb⟩ := I.mod.blt
  have X0 := I.kIn
  have hlim := I.nolimit
  obtain ⟨hp, g, dr, tk, os⟩ := s
  refine owit_iter hF I.ok.mod.kin J O.at_ O.fn (wpAny_call ?_)
  refine ks_codeAny_call_defAt (binds := [("self", .ref a)]) (by have := hr.dp; omega) (X0 _ _ hfn) rfl hlim (codeRec_of X0 hcd) rfl (hb _ _ _ rfl rfl rfl) sc3 (fun y hy => ?_) (fun h₀ hns hk₀ => ?_) sc5 sc6 sc4
  · have e : y = (("self" : Str), Value.ref a) := by simpa using hy
    rw [e]
    exact sc1
  · have X1 : X.K.In h₀ := X0.keeps hk₀
    have J1 : ObjM h₀ a dx C mA := ⟨hk₀ _ _ J0.obj, J0.ns.at fun o q => hk₀ _ o q, J0.ne⟩
    refine wpAt_of_wpAny (wpAny_execs_cons (wpAny_Return_some ?_))
    refine wpAny_Call_Name_kw (Calls.Name_function_global sc4 sc2 (Calls.loadGlobal_builtin (hG.keeps hk₀) O.free ((hB.keeps I.bk).keeps hk₀) ((hbb _ (by decide)).trans (by decide +kernel : bootBuiltins "iter" = some (.builtin "iter"))) ?_) (by decide))
    refine PyProof.Rows.callWith_builtin1 (spliced_more (attr_of (hbase _ rfl) (PySem.ESX.ldL (v := .ref a) hns (by simp [List.lookup]) ?_ sc4 sc1))) (by rfl) (by rfl)
    refine get_map X1 J1 (O.cls.get _) O.cls.hd O.noA hu rfl (spliced_none ?_)
    refine call_iter_tup (show h₀.IsTuple t its.toArray from let ⟨o, h1, h2⟩ := hTup; ⟨o, hk₀ _ o h1, h2⟩) ?_
    have hT1 : (⟨h₀.push (tupIt t), g, dr, tk + 1 + 1, os⟩ : Shared).TypeIs (.ref h₀.objs.size) "tuple_iterator" := ⟨_, Heap.get?_push_at rfl rfl, rfl⟩
    refine wpAny_specialOf (hT1) F.slot_tuple_iterator_next.lookup ?_
    exact hq _ _ _ (fun b o q => Heap.get?_push_of_some _ (hk₀ b o q)) (by
      have := hns.lt
      exact Nat.le_of_lt this) (Heap.get?_push_at rfl rfl)
end
end L2

set_option maxRecDepth 100000
set_option maxHeartbeats 4000000
/-! # Words for lists or tuples, heaps that only grow -/
namespace L2
open PySem PySem.Spec PyProof.Rows
/-- a list or a tuple -/
def SqA (K : PySem.W.Frag) (H : Hp) (a : Addr) (xs : List V) : Prop := SqL K H a xs ∨ SqT K H a xs
theorem Same.seqT {K : PySem.W.Frag} {H H' : Hp} {a : Addr} {xs : List V} (e : Same H H') (h : SqT K H a xs) : SqT K H' a xs := by
  rcases h with (h | ⟨o, h⟩) | h
  · exact .inl (.inl (e _ _ h))
  · exact .inl (.inr ⟨o, e _ _ h⟩)
  · exact .inr h
theorem Same.seqA {K : PySem.W.Frag} {H H' : Hp} {a : Addr} {xs : List V} (e : Same H H') (h : SqA K H a xs) : SqA K H' a xs := h.imp e.seq e.seqT
theorem Same.new {H : Hp} {p : Addr} {o : HO} (h : H p = none) : Same H (upd H p o) := fun b u e => by
  rw [upd_ne (fun z => by rw [z, h] at e; cases e)]
  exact e
theorem Same.new' {H H' : Hp} {p : Addr} {o : HO} (s : Same H H') (h : H' p = none) : Same H (upd H' p o) := s.trans (.new h)
theorem passX {X : Cx} {K : Value → Shared → Prop} {E₁ : Value → Shared → Prop} (hx : X.xe = fun e s' => wpAny (model X.prog X.w) X.A (leaving X.env e) (fun _ s'' => K e s'') E₁ s') : PassesOwn (model X.prog X.w) X.A X.env X.xe := passes_of hx
theorem map_get {α : Type} {f : α → V} {ns : List α} {i : Nat} {y : V} (e : (ns.map f)[i]? = some y) : ∃ n, ns[i]? = some n ∧ y = f n := by
  rw [List.getElem?_map] at e
  cases q : ns[i]? with
  | none => rw [q] at e; cases e
  | some n => rw [q] at e; exact ⟨n, rfl, (Option.some.inj e).symm⟩
theorem enumA_of {K : PySem.W.Frag} {H : Hp} {a : Addr} {xs : List V} {R : It → Hp → Prop} (h : SqA K H a xs) (hR : ∀ (J : It) (G : Hp → Prop), (∀ H', Same H H' → G H') → Walk J xs.length G (YPair (fun i => some (.int (i : Nat))) (fun i => xs[i]?)) → R J H) :
    (SqL K H a xs ∧ R (Ite K a) H) ∨ (SqT K H a xs ∧ R (IteT K 0 a) H) := by
  rcases h with h | h
  · exact .inl ⟨h, hR _ _ (fun _ s => s.seq h) walk_enum⟩
  · exact .inr ⟨h, hR _ _ (fun _ s => s.seqT h) ((walk_enumT (k := 0)).mono (fun _ h => h) fun i H x H' _ _ y => by
      obtain ⟨T', x', y', z⟩ := y
      exact ⟨T', x', y', by simpa using z⟩)⟩
/-- enumerate(x), x a list or a tuple, told by its Walk -/
def iEnumW (K : PySem.W.Frag) (ta : TA) : TI := fun σ H R => ta σ H fun vs H1 => ∃ a xs, vs = [.ref a] ∧ SqA K H1 a xs ∧ ∀ (J : It) (G : Hp → Prop), (∀ H', Same H1 H' → G H') → Walk J xs.length G (YPair (fun i => some (.int (i : Nat))) (fun i => xs[i]?)) → R J H1
theorem pi_enumW {X : Cx} {e : Expr} {ta : TA} {p pos tpos : Pos} {elts : List Expr} {kk : Nat} (hg : Gl X "enumerate") (hm : X.mg "enumerate" = none) (ha : PA X [e] ta) (hs : starEach [e] X.env = [(false, eval e X.env)] := by rfl) :
    PI X (.Tuple elts kk tpos) (.Call (.Name "enumerate" p) [e] [] pos) (iEnumW X.K ta) := by
  refine ⟨fun pins s σ H R I h => ?_⟩
  refine Call_ (ld_blt I hg hm boot_enumerate (PyProof.Rows.callWith_type1 (thn (ha.run pos pins s σ H _ I h) fun us s1 ⟨vs, H1, I1, r1, q1⟩ => ?_) hs rfl))
  obtain ⟨a, xs, ex, q1⟩ := q1
  subst ex
  have q1 := enumA_of q1.1 q1.2
  cases r1 with
  | cons r rr =>
    cases rr
    cases r
    have fresh2 : ∀ b, b ∈ [s1.heap.objs.size + 1, s1.heap.objs.size] → FpOk X pins H1 b := fun b hb => by
      have e' : b = s1.heap.objs.size + 1 ∨ b = s1.heap.objs.size := by simpa using hb
      have hle : s1.heap.objs.size ≤ b := by
        rcases e' with z | z
        · rw [z]; exact Nat.le_add_right _ _
        · rw [z]; exact Nat.le_refl _
      exact I1.fpOk hle (I1.hok.fresh hle)
    rcases q1 with ⟨hq, q⟩ | ⟨hq, q⟩
    · obtain ⟨its, rv, p', hz⟩ := I1.list hq
      refine call_enumerate_list p'.isList fun h' he hit hsz hk => wpAny_pyIter_enum he ?_
      have I2 : Inv X pins σ H1 { s1 with heap := h' } := I1.kept (t' := s1.toks) hk
      exact ⟨s1.heap.objs.size + 1, [s1.heap.objs.size + 1, s1.heap.objs.size], _, _, H1, rfl, I2, turn_enum a (s1.heap.objs.size + 1) s1.heap.objs.size, ⟨⟨.none, he⟩, hit, Nat.succ_ne_self _⟩, fresh2, q⟩
    · obtain ⟨its, rv, p', hz⟩ := I1.tuple hq
      refine EN.begins1 (begins_tuple a its.toArray) p' (fun h' he hit hsz hk => wpAny_pyIter_enum he ?_) (F.typeCall_enumerate_1 _) (F.newCall_enumerate_1 _) (fun obj => F.args_object_init_2 obj _)
      have I2 : Inv X pins σ H1 { s1 with heap := h' } := I1.kept (t' := s1.toks) hk
      exact ⟨s1.heap.objs.size + 1, [s1.heap.objs.size + 1, s1.heap.objs.size], _, _, H1, rfl, I2, turn_enumT 0 a (s1.heap.objs.size + 1) s1.heap.objs.size (Nat.succ_ne_self _), ⟨⟨.none, he⟩, ⟨_, hit, rfl, rfl⟩⟩, fresh2, q⟩
end L2

set_option maxRecDepth 100000
set_option maxHeartbeats 4000000
/-! # Tuples: t * 0, t * 1, t[::-1], sum(t) -/
namespace L2
open PySem PySem.Spec PyProof.Rows
theorem tuple_mulS (l : Addr) (items : Array Value) (n : Nat) (dd : Option Addr) (sl : Array (Option Value)) (x : Int) (u : Tok) (c0 : (decide (x < -(2 ^ 63)) || decide (x ≥ 2 ^ 63)) = false) (c1 : (items.isEmpty || x == 1) = true) :
    Meets (Builtin.«tuple.__mul__» ⟨[.ref l, .int x u], []⟩) (fun _ R s => s.heap.get? l = some { cls := .type "tuple", dict := dd, data := .seq items n, slots := sl } ∧
      R (.ok (.ret (Value.ref l))) s) :=
  .of_wp fun prog w A R s h => by
    obtain ⟨hp, g, d, tk, os⟩ := s
    obtain ⟨hl, h⟩ := h
    have f1 := AutoSeq1.idx_int
    wp_walk using wpAny_loadPart' hl
    repeat (first
      | (refine wpAny_ite_false (decide_eq_false (by rw [c0]; exact Bool.false_ne_true)) ?_; wp_walk using wpAny_loadPart' hl)
      | (refine wpAny_ite_true (decide_eq_true c1) ?_; wp_walk using wpAny_loadPart' hl))
    exact ⟨_, rfl, h⟩
theorem tuple_mul0 (l : Addr) (items : Array Value) (n : Nat) (dd : Option Addr) (sl : Array (Option Value)) (x : Int) (u : Tok) (c0 : (decide (x < -(2 ^ 63)) || decide (x ≥ 2 ^ 63)) = false) (c1 : (items.isEmpty || x == 1) = false) (c2 : (decide (x ≤ 0) || items.isEmpty) = true) :
    Meets (Builtin.«tuple.__mul__» ⟨[.ref l, .int x u], []⟩) (fun _ R s => s.heap.get? l = some { cls := .type "tuple", dict := dd, data := .seq items n, slots := sl } ∧
      R (.ok (.ret (Value.ref s.heap.objs.size))) { s with heap := s.heap.push { cls := Value.type "tuple", data := Data.seq #[] }, toks := s.toks }) :=
  .of_wp fun prog w A R s h => by
    obtain ⟨hp, g, d, tk, os⟩ := s
    obtain ⟨hl, h⟩ := h
    have f1 := AutoSeq1.idx_int
    wp_walk using wpAny_loadPart' hl
    repeat (first
      | (refine wpAny_ite_false (decide_eq_false (by rw [c0]; exact Bool.false_ne_true)) ?_; wp_walk using wpAny_loadPart' hl)
      | (refine wpAny_ite_false (decide_eq_false (by rw [c1]; exact Bool.false_ne_true)) ?_; wp_walk using wpAny_loadPart' hl)
      | (refine wpAny_ite_true (decide_eq_true c2) ?_; wp_walk using wpAny_loadPart' hl))
    exact ⟨_, rfl, h⟩
/-- t * k -/
def rRepW (K : PySem.W.Frag) : R2 := fun x y H Q => ∃ l k xs, x = .ref l ∧ y = .int k ∧ SqT K H l xs ∧ -(2 ^ 62) ≤ k ∧ k ≤ 1000 ∧ xs.length ≤ 1000 ∧ ∀ H' p, Same H H' → SqT K H' p (List.replicate k.toNat xs).flatten → Q (.ref p) H'
theorem rep_one {α : Type} (xs : List α) : (List.replicate (1 : Int).toNat xs).flatten = xs := by simp
theorem rep_nil {α : Type} (k : Nat) : (List.replicate k ([] : List α)).flatten = [] := by simp
section
variable {X : Cx}
theorem op_repW : OpR X (binaryOp .Mult) (rRepW X.K) := by
  intro pins s σ H x y v u Q I rx ry h
  obtain ⟨l, k, xs, rfl, rfl, hT, h1, h2, hz, q⟩ := h
  by_cases h3 : xs ≠ [] ∧ 2 ≤ k
  · exact op_repT pins s σ H _ _ v u Q I rx ry ⟨l, k, xs, rfl, rfl, hT, h3.1, h3.2, h2, hz, fun p hp => q _ p (.new hp) (SqT.of upd_same)⟩
  · cases rx
    obtain ⟨t, rfl⟩ := ry
    obtain ⟨its, r, ⟨⟨cls, dd, data, sl⟩, ho, hc, n, hd⟩, hs⟩ := I.tuple hT
    simp only at hc hd
    subst hc hd
    have hle : its.length = xs.length := r.length.symm
    have c0 : (decide (k < -(2 ^ 63)) || decide (k ≥ 2 ^ 63)) = false := by
      rw [decide_eq_false (by omega), decide_eq_false (by omega)] <;> rfl
    by_cases h4 : xs = [] ∨ k = 1
    · have c1 : (its.toArray.isEmpty || k == 1) = true := by
        rcases h4 with h4 | h4
        · subst h4
          have : its = [] := List.eq_nil_of_length_eq_zero (by simpa using hle)
          subst this
          rfl
        · subst h4
          simp
      refine wpAny_binaryOp_repeat_ref (T := "tuple") (U := "int") (by decide) ⟨_, ho, rfl⟩ (fun s' => typeIs_int s' k t) noFill_tuple_mul F.fills_int_mul F.slot_int_rmul repeat_tuple F.slot_int_index.lookup
        (call_meets F.slot_int_rmul (typeIs_int s k t) F.entry_int_rmul (F.args_int_rmul_2 _ _) (int_rmul_tuple k t l its.toArray n dd sl)
          ⟨ho, rfl, ⟨_, ho, rfl⟩, call_meets F.slot_tuple_mul ⟨_, ho, rfl⟩ F.entry_tuple_mul (F.args_tuple_mul_2 _ _) (tuple_mulS l its.toArray n dd sl k t c0 c1) ⟨ho, ?_⟩⟩)
      refine ⟨.ref l, H, I, rfl, q H l (.refl _) ?_⟩
      rcases h4 with h4 | h4
      · subst h4; rw [rep_nil]; exact hT
      · subst h4; rw [rep_one]; exact hT
    · have h5 : xs ≠ [] ∧ k ≤ 0 := ⟨fun z => h4 (.inl z), by
        have : k ≠ 1 := fun z => h4 (.inr z)
        have : ¬ (2 ≤ k) := fun z => h3 ⟨fun z => h4 (.inl z), z⟩
        omega⟩
      have hi : its.toArray.isEmpty = false := by
        cases its with
        | nil => exact absurd (List.eq_nil_of_length_eq_zero hle.symm) h5.1
        | cons a b => rfl
      have c1 : (its.toArray.isEmpty || k == 1) = false := by
        rw [hi, Bool.false_or]
        exact beq_eq_false_iff_ne.mpr (by omega)
      have c2 : (decide (k ≤ 0) || its.toArray.isEmpty) = true := by rw [decide_eq_true h5.2]; rfl
      have e0 : (List.replicate k.toNat xs).flatten = [] := by
        have : k.toNat = 0 := by omega
        rw [this]; rfl
      refine wpAny_binaryOp_repeat_ref (T := "tuple") (U := "int") (by decide) ⟨_, ho, rfl⟩ (fun s' => typeIs_int s' k t) noFill_tuple_mul F.fills_int_mul F.slot_int_rmul repeat_tuple F.slot_int_index.lookup
        (call_meets F.slot_int_rmul (typeIs_int s k t) F.entry_int_rmul (F.args_int_rmul_2 _ _) (int_rmul_tuple k t l its.toArray n dd sl)
          ⟨ho, rfl, ⟨_, ho, rfl⟩, call_meets F.slot_tuple_mul ⟨_, ho, rfl⟩ F.entry_tuple_mul (F.args_tuple_mul_2 _ _) (tuple_mul0 l its.toArray n dd sl k t c0 c1 c2) ⟨ho, ?_⟩⟩)
      refine ⟨.ref s.heap.objs.size, _, I.laid (t' := s.toks) (o := .tup []) (fun b ob q => Heap.get?_push_of_some _ q) (Nat.le_refl _) ?_, rfl, q _ _ (.new (I.hok.fresh (Nat.le_refl _))) (by rw [e0]; exact SqT.of upd_same)⟩
      exact ⟨Nat.zero_le _, [], .nil, IsTup.new _ _⟩
/-- t + u -/
def rCatW (K : PySem.W.Frag) : R2 := fun x y H Q => ∃ a b xs ys, x = .ref a ∧ y = .ref b ∧ SqT K H a xs ∧ SqT K H b ys ∧ xs.length + ys.length ≤ sizeLine ∧ ∀ H' p, Same H H' → SqT K H' p (xs ++ ys) → Q (.ref p) H'
theorem op_catW : OpR X (binaryOp .Add) (rCatW X.K) := by
  intro pins s σ H x y v u Q I rx ry h
  obtain ⟨a, b, xs, ys, rfl, rfl, ha, hb, hz, q⟩ := h
  exact op_catA pins s σ H _ _ v u Q I rx ry ⟨a, b, xs, ys, rfl, rfl, ha, hb, hz, fun e => q H b (.refl _) (by rw [e]; exact hb), fun _ e => q H a (.refl _) (by rw [e, List.append_nil]; exact ha), fun _ _ p hp => q _ p (.new hp) (SqT.of upd_same)⟩
/-- t[lo:hi] -/
def rSlW (K : PySem.W.Frag) : V → Option Int → Option Int → Hp → VK → Prop := fun x lo hi H Q => ∃ a xs, x = .ref a ∧ SqT K H a xs ∧ ∀ H' p, Same H H' → SqT K H' p (cutV xs lo hi) → Q (.ref p) H'
theorem sl_tupW : SlR X (rSlW X.K) := by
  intro pins s σ H x v vl vu lo hi sl Q I rx hs pl pu h
  obtain ⟨a, xs, rfl, hx, q⟩ := h
  refine sl_tupA pins s σ H _ v vl vu lo hi sl Q I rx hs pl pu ⟨a, xs, rfl, hx, fun e => q H a (.refl _) ?_, fun _ p hp => q _ p (.new hp) (SqT.of upd_same)⟩
  unfold cutV
  rw [e.1, e.2, List.drop_zero, Nat.sub_zero, List.take_length]
  exact hx

/-- sum(t), t a tuple of numbers -/
theorem cr_sumT (hc : X.calm = true) : CallR X (.builtin "sum") (fun vs H Q => ∃ (a : Addr) (ns : List Int), vs = [V.ref a] ∧ SqT X.K H a (ns.map V.int) ∧ Q (.int ns.sum) H) := by
  intro pins s σ H xs us Q I r h
  obtain ⟨a, ns, rfl, hq, q⟩ := h
  cases r with
  | cons r rr =>
  cases rr
  cases r
  obtain ⟨its, rv, hT, hz⟩ := I.tuple hq
  have hi := intsAre_of rv
  obtain ⟨ys, hx⟩ := hi.allInts.items
  have hn : numsOf its.toArray.toList = ns := by rw [show its.toArray.toList = its from rfl, hi.numsOf]
  have hT' : s.heap.IsTuple a its.toArray := let ⟨o, h1, h2, h3⟩ := hT; ⟨o, h1, h2, h3⟩
  rw [hx] at hT' hn
  rw [nums_intItems] at hn
  refine PySem.W.ktm_sumG (I.ok.hd hc) hT' fun h' tk t' hk => ?_
  rw [preSum_eq, List.take_of_length_le (by simp), hn]
  exact ⟨.int ns.sum, H, I.kept (t' := tk) hk, ⟨t', rfl⟩, q⟩
theorem cr_sumA (hc : X.calm = true) : CallR X (.builtin "sum") (fun vs H Q => ∃ (a : Addr) (ns : List Int), vs = [V.ref a] ∧ SqA X.K H a (ns.map V.int) ∧ Q (.int ns.sum) H) := by
  intro pins s σ H xs us Q I r h
  obtain ⟨a, ns, rfl, hq, q⟩ := h
  rcases hq with hq | hq
  · exact cr_sum hc pins s σ H _ us Q I r ⟨a, ns, rfl, hq, q⟩
  · exact cr_sumT hc pins s σ H _ us Q I r ⟨a, ns, rfl, hq, q⟩
/-! ### t[::-1] -/
theorem rev_pick (xs : List Value) : ((List.range xs.length).filterMap fun (m : Nat) => xs.toArray[(((xs.length : Nat) : Int) - 1 + (m : Int) * (-1)).toNat]?) = xs.reverse := by
  have key : ∀ n, n ≤ xs.length → ((List.range n).filterMap fun (m : Nat) => xs.toArray[(((xs.length : Nat) : Int) - 1 + (m : Int) * (-1)).toNat]?) = (xs.reverse).take n := by
    intro n
    induction n with
    | zero => intro _; simp
    | succ n ih =>
      intro hn
      rw [List.range_succ, List.filterMap_append, ih (by omega), List.take_succ]
      congr 1
      have e : (((xs.length : Nat) : Int) - 1 + (n : Int) * (-1)).toNat = xs.length - 1 - n := by omega
      have hlt : n < xs.reverse.length := by rw [List.length_reverse]; omega
      rw [List.filterMap_cons, List.filterMap_nil, e, List.getElem?_reverse (by omega)]
      simp only [List.getElem?_toArray]
      cases q : xs[xs.length - 1 - n]? with
      | none => simp
      | some v => simp
  rw [key xs.length (Nat.le_refl _), List.take_of_length_le (by rw [List.length_reverse]; exact Nat.le_refl _)]
theorem adjust_rev (n : Nat) : Builtin.Slice.sliceAdjust none none (-1) (n : Int) = ((n : Int) - 1, -1) := by
  unfold Builtin.Slice.sliceAdjust
  simp
theorem places_rev (n : Nat) : Builtin.Slice.slicePlaces ((n : Int) - 1) (-1) (-1) = n := by
  unfold Builtin.Slice.slicePlaces
  have h1 : ¬ ((-1 : Int) > 0) := by omega
  simp only [h1, if_false]
  split
  · simp only [Int.neg_neg, Int.ediv_one]; omega
  · simp only [Int.toNat_zero]; omega
theorem sliceApplied_rev {prog : Program} {w : World} {A : Around} {E : Value → Shared → Prop} {s : Shared} {sl : Addr} {vl vu vk : Value} {n : Nat} {Q : Int × Int × Nat → Shared → Prop} (hs : s.heap.IsSliceOf sl vl vu vk) (pl : IsPart vl none) (pu : IsPart vu none) (pk : IsPart vk (some (-1)))
    (h : Q ((n : Int) - 1, -1, n) s) : wpAny (model prog w) A (Builtin.Slice.sliceApplied (.ref sl) (pure (n : Int))) Q E s := by
  obtain ⟨os, hos, hcs, hds⟩ := id hs
  unfold Builtin.Slice.sliceApplied Builtin.Slice.sliceFields
  refine wpAny_bind (wpAny_bind (wpAny_field hos hds (x := vl) rfl (wpAny_bind (wpAny_field hos hds (x := vu) rfl (wpAny_bind (wpAny_field hos hds (x := vk) rfl (wpAny_pure ?_)))))))
  refine wpAny_bind (HT.slicePart_ pk ?_)
  show wpAny _ _ (if ((-1 : Int) == 0) = true then _ else _) _ _ s
  rw [if_neg (by decide)]
  refine wpAny_bind (HT.slicePart_ pl (wpAny_bind (HT.slicePart_ pu (wpAny_bind (wpAny_pure ?_)))))
  show wpAny _ _ (match Builtin.Slice.sliceAdjust none none (-1) (n : Int) with | (lo, hi) => pure (lo, (-1 : Int), Builtin.Slice.slicePlaces lo hi (-1))) _ _ s
  rw [adjust_rev n]
  show wpAny _ _ (pure ((n : Int) - 1, (-1 : Int), Builtin.Slice.slicePlaces ((n : Int) - 1) (-1) (-1))) _ _ s
  rw [places_rev]
  exact wpAny_pure h
theorem getItem_tuple_rev {prog : Program} {w : World} {A : Around} {E : Value → Shared → Prop} {s : Shared} {t sl : Addr} {its : List Value} {vl vu vk : Value} {Q : Value → Shared → Prop} (ht : IsTup s.heap t its.toArray) (hs : s.heap.IsSliceOf sl vl vu vk) (pl : IsPart vl none) (pu : IsPart vu none) (pk : IsPart vk (some (-1)))
    (h : Q (.ref s.heap.objs.size) { s with heap := s.heap.push { cls := .type "tuple", data := .seq its.reverse.toArray } })
    (hsz : its.length ≤ sizeLine) : wpAny (model prog w) A (getItem (.ref t) (.ref sl)) Q E s := by
  have htake : sizeOk (.seq its.reverse.toArray) := by
    show its.reverse.toArray.size ≤ sizeLine
    rw [List.size_toArray, List.length_reverse]
    exact hsz
  obtain ⟨os, hos, hcs, hds⟩ := id hs
  have hTs : s.TypeIs (.ref sl) "slice" := ⟨os, hos, hcs⟩
  unfold getItem
  try with_reducible refine wpAny_holding ?_
  first | refine wpAny_bind (wpAny_pure ?_) | skip
  refine wpAny_bind (wpAny_sequenceKey ht.typeIs (by decide) ?_)
  refine wpAny_bind (wpAny_callSpecial?_slot (name := Str.ofString "__getitem__") ht.typeIs PyProof.Rows.slot_tuple_getitem
    (wpAny_call_entry PyProof.Rows.slot_tuple_getitem ht.typeIs entry_tuple_getitem ?_ (args_tuple_getitem _ _)))
  show wpAny _ _ (Builtin.Tuple.tupleItemsOf (.ref t) >>= _) _ _ s
  refine wpAny_bind (tupleItemsOf_ ht ?_)
  refine wpAny_bind (wpAny_typeOf hTs ?_)
  rw [if_pos (by decide)]
  refine wpAny_bind (sliceApplied_rev hs pl pu pk ?_)
  have hno : ¬ ((((its.toArray.size : Int) - 1) == 0 && (-1 : Int) == 1 && its.toArray.size == its.toArray.size) = true) := by
    intro q
    rw [Bool.and_eq_true, Bool.and_eq_true] at q
    exact absurd q.1.2 (by decide)
  show wpAny _ _ (if (((its.toArray.size : Int) - 1) == 0 && (-1 : Int) == 1 && its.toArray.size == its.toArray.size) = true then _ else _) _ _ s
  rw [if_neg hno]
  have ep := rev_pick its
  rw [← List.size_toArray] at ep
  rw [ep]
  first
    | exact wpAny_bind (m := Builtin.Tuple.tupleExact _) (wpAny_newObj_type (wpAny_pure ⟨_, rfl, wpAny_pure h⟩) htake)
    | exact wpAny_bind (m := Builtin.Tuple.tupleExact _) (wpAny_newObj_type (wpAny_bind (wpAny_pure (wpAny_pure ⟨_, rfl, wpAny_pure h⟩))) htake)
    | exact wpAny_bind (wpAny_bind (m := Builtin.Tuple.tupleExact _) (wpAny_newObj_type (wpAny_pure (wpAny_pure ⟨_, rfl, wpAny_pure h⟩)) htake))
    | exact wpAny_bind (wpAny_bind (m := Builtin.Tuple.tupleExact _) (wpAny_newObj_type (wpAny_pure ⟨_, rfl, wpAny_pure h⟩) htake))
def tRevT (K : PySem.W.Frag) (te : TE) : TE := fun σ H Q => te σ H fun x H1 => ∃ a xs, x = .ref a ∧ SqT K H1 a xs ∧ ∀ p, H1 p = none → Q (.ref p) (upd H1 p (.tup xs.reverse))
theorem pe_revT {e : Expr} {te : TE} {k : Nat} {p1 p2 p3 pos : Pos} (he : PE X e te) : PE X (.Subscript e (.Slice none none (some (.UnaryOp .USub (.Constant (.int 1) k p1) p2)) p3) pos) (tRevT X.K te) := by
  refine ⟨fun pins s σ H Q I h => ?_⟩
  refine Subscript_ (thn (he.run pins s σ H _ I h) fun v s1 ⟨x, H1, I1, r1, q1⟩ => ?_)
  obtain ⟨a, xs, ex, hx, q⟩ := q1
  subst ex
  cases r1
  have hst : PO X (some (.UnaryOp .USub (.Constant (.int 1) k p1) p2)) (tPart (tUn (rU fun i => .int (-i)) (tC (.int 1)))) := po_some (pe_un un_neg pe_int)
  refine wpAny_Slice (thn (po_none.run pins s1 σ H1 (fun o H2 => o = none ∧ H2 = H1) I1 ⟨rfl, rfl⟩) fun vl s2 ⟨l, H2, I2, pl, el, e2⟩ => ?_)
  subst el e2
  refine thn (po_none.run pins s2 σ H2 (fun o H3 => o = none ∧ H3 = H2) I2 ⟨rfl, rfl⟩) fun vu s3 ⟨u, H3, I3, pu, eu, e3⟩ => ?_
  subst eu e3
  refine thn (hst.run pins s3 σ H3 (fun o H4 => o = some (-1) ∧ H4 = H3) I3 ⟨1, rfl, -1, rfl, rfl, rfl⟩) fun vs s4 ⟨o, H4, I4, ps, eo, e4⟩ => ?_
  subst eo e4
  have I5 : Inv X pins σ H4 { s4 with heap := s4.heap.push { cls := .type "slice", data := .fields #[vl, vu, vs] } } := I4.kept (t' := s4.toks) fun b ob q => Heap.get?_push_of_some _ q
  obtain ⟨its, r, ht, hz⟩ := I5.tuple hx
  have hlen := r.length
  show wpAny (model X.prog X.w) X.A (subscriptTail e (.Slice none none (some (.UnaryOp .USub (.Constant (.int 1) k p1) p2)) p3) (.ref a) (.ref s4.heap.objs.size)) (EP X pins σ Q) X.xe { s4 with heap := s4.heap.push { cls := .type "slice", data := .fields #[vl, vu, vs] } }
  refine tail_any (ops := [.ref a, .ref s4.heap.objs.size]) ht.typeIs (PyProof.Rows.slot_tuple_getitem.lookup) ?_ (by with_unfolding_all rfl)
  refine getItem_tuple_rev ht (Heap.IsSliceOf.new _ vl vu vs) pl pu ps ?_ (by omega)
  refine ⟨.ref _, _, I5.laid (t' := s4.toks) (o := .tup xs.reverse) (fun b ob q => Heap.get?_push_of_some _ q) (Nat.le_refl _) ?_, rfl, q _ (I5.hok.fresh (Nat.le_refl _))⟩
  exact ⟨by rw [List.length_reverse]; exact hz, _, r.reverse, IsTup.new _ _⟩
end
end L2

set_option maxRecDepth 100000
set_option maxHeartbeats 4000000
/-! # The head: what the program's top has left, as facts that one kernel run decides; the end of a law -/
namespace HX
open PySem PySem.W PySem.Calls PyProof.Rows He He5
open PySem.HandSPX (refsVE)

def clsXB (K : Frag) (C : Addr) : Bool := (match K.lookup C with
  | some ⟨.type ty, _, .cls cd, sl⟩ => (match cd.mro, sl.toList with
    | .ref C' :: bm, [_, _, _, _, some (.builtin n), _] => decide (ty = "type") && (decide (C' = C) && (decide (n = "ValueError.__new__") && (cd.hasDict && (!cd.hasDel && (refsVE bm && eqO (alongIn K "__init__" bm) (some (some (.builtin "ValueError.__init__"))))))))
    | _, _ => false)
  | _ => false) && (eqO (findIn K (.ref C) "__setattr__") (some (some (.builtin "object.__setattr__"))) && decide (subIn K (.ref C) (.type "ValueError") = some true))
theorem clsXB_ok {K : Frag} {C : Addr} (h : clsXB K C = true) : NX.ClsX K C := by
  obtain ⟨h1, h2⟩ := ba h
  obtain ⟨h2, h3⟩ := ba h2
  refine ⟨?_, eqO_ok h2, of_decide_eq_true h3⟩
  clear h2 h3 h
  split at h1
  · rename_i ty dd cd sl e
    split at h1
    · rename_i C' bm a0 a1 a2 a3 n a5 hm hs
      obtain ⟨k1, h1⟩ := ba h1
      obtain ⟨k2, h1⟩ := ba h1
      obtain ⟨k3, h1⟩ := ba h1
      obtain ⟨k4, h1⟩ := ba h1
      obtain ⟨k5, h1⟩ := ba h1
      obtain ⟨k6, k7⟩ := ba h1
      have e1 := of_decide_eq_true k1
      have e2 := of_decide_eq_true k2
      have e3 := of_decide_eq_true k3
      subst e1 e2 e3
      obtain ⟨nm, bs, mro, ns, qn, hd, sn, sub, ab, col, del⟩ := cd
      dsimp only at hm k4 k5
      subst hm
      have e5 : del = false := by simpa using k5
      subst k4 e5
      have hsl : sl = #[a0, a1, a2, a3, some (.builtin "ValueError.__new__"), a5] := by
        obtain ⟨l⟩ := sl
        simp only at hs
        rw [hs]
      subst hsl
      exact ⟨nm, qn, ns, bs, bm, sn, sub, ab, col, dd, a0, a1, a2, a3, a5, e, k6, eqO_ok k7⟩
    · cases h1
  · cases h1

/-- the text of an error's __init__ -/
structure InitTx (prog : Program) (st : Stmt) (qual : Str) (ps : List Str) (l : List (Str × Str)) : Prop where
  txt : ∃ msg k q1 q2 q3 q4 q5 q6 r, L2.defBody st = NX.supS msg k q1 q2 q3 q4 q5 q6 :: r ∧ NX.Sto r l ∧ (∀ env : Env, env.scope = L2.defScope st → interactive env = false) ∧
    ∀ env : Env, env.scope = L2.defScope st → ∃ pl : Sem Bool, eval (.Call (.Attribute (.Call (.Name "super" q1) [] [] q2) "__init__" q3) [.Constant (.str msg) k q4] [] q5) env = (do
      let ov ← attributeBase (.Call (.Name "super" q1) [] [] q2) "__init__" env (eval (.Call (.Name "super" q1) [] [] q2) env)
      standAt q3.atName
      let (f, first) ← holding [ov] (getMethod ov "__init__" pl)
      callWith q5 f first (backTo q5 (starEach [.Constant (.str msg) k q4] env)) [])
  par : ∃ ar, ((L2.defArgs st).posonlyargs ++ (L2.defArgs st).args).head? = some ar ∧ ar.arg = "self"
  sc : ((L2.defScope st).names.lookup ("super" : Str) = some .globalImplicit ∧ (L2.defScope st).names.lookup ("__class__" : Str) = some .free ∧ (L2.defScope st).names.lookup ("self" : Str) = some .local) ∧ (∀ x ∈ (L2.defScope st).names, x.2 ≠ .cell) ∧
    (L2.defScope st).kind = .function ∧ (L2.defScope st).isCoroutine = false ∧ (L2.defScope st).isGenerator = false
  loc : (∀ p ∈ l, (L2.defScope st).names.lookup p.2 = some .local ∧ (p.2 == ("__debug__" : Str)) = false ∧ p.2 ∈ ps) ∧ ∀ p ∈ ps, (L2.defScope st).names.lookup p = some .local
  nod : ps.Nodup ∧ ("self" : Str) ∉ ps
  bind : ∀ (s' : Shared) (e : Addr) (fd : FuncData) (us : List Value), us.length = ps.length → fd.params = L2.defArgs st → fd.scope = L2.defScope st → fd.defaults = .none → BindsTo s' fd ⟨.ref e :: us, []⟩ (("self", .ref e) :: ps.zip us)
  top : (prog.main.scope.names.lookup ("super" : Str)).isSome = false
  few : l.length ≤ 900

/-- a def with its closure's names -/
abbrev FnQ : Type := Option (Str × Str × Arguments × FuncBody × Scope × Addr × List Str × Addr)
def fnQ (K : Frag) (a : Addr) : FnQ := match K.lookup a with
  | some ⟨_, _, .func fd, _⟩ => some (fd.name, fd.qualname, fd.params, fd.body, fd.scope, fd.globals, fd.closure.map (·.1), fd.builtins)
  | _ => none
/-- an error's class: its name, its __init__'s text, its qualified name -/
structure ErrD where
  x : Str
  st : Stmt
  qual : Str
  fs : List Str
def ErrD.at_ (d : ErrD) (K : Frag) : Addr := ma K (ga K d.x) "__init__"
def ErrD.val (d : ErrD) : FnQ := some (("__init__" : Str), d.qual, L2.defArgs d.st, FuncBody.stmts (L2.defBody d.st), L2.defScope d.st, mainGlobals, [("__class__" : Str)], builtinsNs)
def ErrD.ok (file : Str) (d : ErrD) (K : Frag) : Bool := clsXB K (ga K d.x) && (eqO (findIn K (.ref (ga K d.x)) "__init__") (some (some (.ref (d.at_ K)))) && (decide (typeIn K (.ref (d.at_ K)) = some (.type "function")) && ((match K.lookup (d.at_ K) with
  | some ⟨_, _, .func fd, _⟩ => codeIn K fd.code fd.qualname && ((match fd.closure with
    | [(_, cc)] => (match K.lookup cc with
      | some ⟨_, _, .cell (some (.ref D)), _⟩ => decide (D = ga K d.x)
      | _ => false)
    | _ => false) && ((match fd.code with
    | .ref cda => (match K.lookup cda with
      | some ⟨_, _, .fields vs, _⟩ => (match (vs[2]? : Option Value) with
        | some (.str f _) => f == file
        | _ => false)
      | _ => false)
    | _ => false) && (match fd.defaults with
    | .none => true
    | _ => false)))
  | _ => false) && ((d.fs.all fun f => eqO (findIn K (.ref (ga K d.x)) f) (some none)) && (eqO (nsIn K mainGlobals d.x) (some (some (.ref (ga K d.x)))) && (keepIn K (.ref (ga K d.x)) && (decide (subIn K (.ref (ga K d.x)) (.type "BaseException") = some true) && decide (typeIn K (.ref (ga K d.x)) = some (.type "type")))))))))
theorem errD_ok {prog : Program} {K : Frag} {h : Heap} {mg : Str → Option Value} {d : ErrD} {ps : List Str} {l : List (Str × Str)} (X : K.In h) (G : h.Ns mainGlobals mg) (T : InitTx prog d.st d.qual ps l) (hf : l.map (·.1) = d.fs) (hs : mg "super" = none) (hany : nsIn K cStatics "thirdparty.any" = some none)
    (e : fnQ K (d.at_ K) = d.val) (c : d.ok (prog.main.file : Str) K = true) : L2.Exn prog K mg d.x (ga K d.x) (d.at_ K) ps l := by
  obtain ⟨c1, c⟩ := ba c
  obtain ⟨c2, c⟩ := ba c
  obtain ⟨c3, c⟩ := ba c
  obtain ⟨c4, c⟩ := ba c
  obtain ⟨c5, c⟩ := ba c
  obtain ⟨c6, c⟩ := ba c
  obtain ⟨c7, c⟩ := ba c
  obtain ⟨c8, c9⟩ := ba c
  obtain ⟨ar, hp1, hp2⟩ := T.par
  refine ⟨clsXB_ok c1, ⟨d.qual, L2.defArgs d.st, L2.defScope d.st, L2.defBody d.st, ar, ⟨T.txt, eqO_ok c2, of_decide_eq_true c3, ?_, hp1, hp2, T.sc.1.1, T.sc.1.2.1, T.sc.1.2.2, fun p hp => ⟨(T.loc.1 p hp).1, (T.loc.1 p hp).2.1, ?_⟩, T.sc.2.1, T.sc.2.2.1, T.sc.2.2.2.1, T.sc.2.2.2.2, T.top, T.few⟩, T.bind, T.loc.2⟩,
    fun p hp => (T.loc.1 p hp).2.2, T.nod, mg_of X G (eqO_ok c6), hs, hany, c7, of_decide_eq_true c8, of_decide_eq_true c9⟩
  · unfold fnQ at e
    cases q : K.lookup (d.at_ K) with
    | none =>
      rw [q] at c4
      cases c4
    | some o =>
      obtain ⟨oc, od, dt, osl⟩ := o
      rw [q] at c4 e
      cases dt with
      | func fd =>
        obtain ⟨n1, n2, n3, n4, n5, n6, n7, n8, n9, n10, n11, n12, n13, n14, n15⟩ := fd
        have e2 : (some (n1, n2, n3, n4, n5, n6, n7.map (·.1), n15) : FnQ) = some (("__init__" : Str), d.qual, L2.defArgs d.st, FuncBody.stmts (L2.defBody d.st), L2.defScope d.st, mainGlobals, [("__class__" : Str)], builtinsNs) := e
        simp only [Option.some.injEq, Prod.mk.injEq] at e2
        obtain ⟨h1, h2, h3, h4, h5, h6, h7, h8⟩ := e2
        subst h1 h2 h3 h4 h5 h6 h8
        obtain ⟨k1, k2⟩ := ba c4
        obtain ⟨kA, k3⟩ := ba k2
        obtain ⟨k3, k9⟩ := ba k3
        clear k2 c4
        dsimp only at k1 kA k3 k9
        have ed : n8 = .none := by
          cases n8 <;> first | rfl | cases k9
        subst ed
        split at kA
        · rename_i nn cc
          have en : nn = "__class__" := by simpa using h7
          subst en
          split at kA
          · rename_i cl cld D csl qc
            have eD := of_decide_eq_true kA
            subst eD
            split at k3
            · rename_i cda hcd9
              have hcd8 : n13 = .ref cda := hcd9
              subst hcd8
              split at k3
              · rename_i ccl cdd vs ccs qd
                split at k3
                · rename_i f tf qv
                  have ef : f = prog.main.file := by simpa using k3
                  exact ⟨oc, od, n9, n10, n11, n12, cda, n14, osl, cc, cl, cld, csl, ccl, cdd, vs, ccs, f, tf, rfl, k1, qc, qd, qv, by rw [ef]; simp⟩
                · cases k3
              · cases k3
            · cases k3
          · cases kA
        · cases kA
      | _ => cases c4
  · have := List.all_eq_true.mp c5 p.1 (by rw [← hf]; exact List.mem_map_of_mem hp)
    exact eqO_ok this

/-! ### the Hook -/
abbrev AlX : Type := Bool × List He5.FnW × List FnQ
def obsX (bx : Frag → Bool) (fn : List DefA) (er : List ErrD) (file : Str) (K : Frag) : AlX := (bx K && (fn.all (fun d => d.ok K) && er.all fun d => d.ok file K), fn.map fun d => fnA K (d.at_ K), er.map fun d => fnQ K (d.at_ K))
def valX (fn : List DefA) (er : List ErrD) : AlX := (true, fn.map DefA.val, er.map ErrD.val)
def SaysX (bx : Frag → Bool) (fn : List DefA) (er : List ErrD) (file : Str) (K : Frag) : Prop := obsX bx fn er file K = valX fn er
def obsXG (n : Nat) (bx : Frag → Bool) (fn : List DefA) (er : List ErrD) (file : Str) (g : Addr → Option Obj) : AlX := obsX bx fn er file (frG g (asA g n))
def hookX (n : Nat) (bx : Frag → Bool) (fn : List DefA) (er : List ErrD) (file : Str) : PySem.W.Hook where
  α := AlX
  obs := fun s => obsXG n bx fn er file s.heap.get?
  val := fun _ => valX fn er
  says := fun _ h => ∃ K : Frag, K.In h ∧ SaysX bx fn er file K
  of := fun _ _ e => ⟨_, frG_in, e⟩
  keeps := fun _ _ _ ⟨K, hK, c⟩ k => ⟨K, Frag.In.keeps hK k, c⟩
theorem obsXG_eq {n : Nat} {bx : Frag → Bool} {fn : List DefA} {er : List ErrD} {file : Str} {g : Addr → Option Obj} {s : Shared} (h : ∀ a, g a = s.heap.get? a) : obsXG n bx fn er file g = (hookX n bx fn er file).obs s := by
  have e : g = s.heap.get? := funext h
  rw [e] <;> rfl
section
variable {bx : Frag → Bool} {fn : List DefA} {er : List ErrD} {file : Str} {K : Frag}
theorem SaysX.bool (c : SaysX bx fn er file K) : bx K = true := (ba (show (bx K && (fn.all (fun d => d.ok K) && er.all fun d => d.ok file K)) = true from congrArg (fun z : AlX => z.1) c)).1
theorem SaysX.def_ (c : SaysX bx fn er file K) (i : Nat) {d : DefA} (h : fn[i]? = some d := by rfl) : ∃ fd, L2.FunD K d.name d.qual d.params d.body d.scope (d.dvs K) (d.kws K) (d.at_ K) fd := by
  have c2 := (ba (ba (show (bx K && (fn.all (fun d => d.ok K) && er.all fun d => d.ok file K)) = true from congrArg (fun z : AlX => z.1) c)).2).1
  have e : fn.map (fun d => fnA K (d.at_ K)) = fn.map DefA.val := congrArg (fun z : AlX => z.2.1) c
  have e2 : (fn.map fun d => fnA K (d.at_ K))[i]? = (fn.map DefA.val)[i]? := by rw [e]
  rw [List.getElem?_map, List.getElem?_map, h] at e2
  exact DefA.funD (Option.some.inj e2) (List.all_eq_true.mp c2 d (List.mem_of_getElem? h))
theorem SaysX.err_ (c : SaysX bx fn er file K) (i : Nat) {d : ErrD} (h : er[i]? = some d := by rfl) : fnQ K (d.at_ K) = d.val ∧ d.ok file K = true := by
  have c2 := (ba (ba (show (bx K && (fn.all (fun d => d.ok K) && er.all fun d => d.ok file K)) = true from congrArg (fun z : AlX => z.1) c)).2).2
  have e : er.map (fun d => fnQ K (d.at_ K)) = er.map ErrD.val := congrArg (fun z : AlX => z.2.2) c
  have e2 : (er.map fun d => fnQ K (d.at_ K))[i]? = (er.map ErrD.val)[i]? := by rw [e]
  rw [List.getElem?_map, List.getElem?_map, h] at e2
  exact ⟨Option.some.inj e2, List.all_eq_true.mp c2 d (List.mem_of_getElem? h)⟩
end
end HX

namespace L2
open PySem PySem.Spec PyProof.Rows
/-- the end of a law over a head by facts, the script's bits told -/
theorem walk_ofX {l : PySem.W.OpenLaw} {n k : Nat} {q : Program} {loose : List Str} {XP : (Str → Option Value) → Heap → Prop} {YP : World → Heap → Prop} {d : DefRec} {CX : World → CXT} {x : Str}
    (hn : l.most = some n) (hn2 : n ≤ sizeLine) (hdf : d.params.defaults = []) (hr : Room k callerA)
    (F : ∀ (w : World) (mg : Str → Option Value) (fa : Addr) (h : Heap), YP w h → h.Ns mainGlobals mg → mg d.name = some (.ref fa) →
      ∃ (K : PySem.W.Frag) (fd : FuncData) (sp : Sp), K.In h ∧ (∀ (s : Shared) (u : Value), BindsTo s fd ⟨[u], []⟩ [(x, u)]) ∧
        (∀ (H : Hp) (a : Addr) (ns : List Int), ns.length ≤ n → (∀ z ∈ ns, Builtin.Int.intBits z ≤ 1048576) → Only H → SqL K H a (ns.map V.int) → sp [.ref a] H (fun v _ => v = .bl true) fun _ _ _ => False) ∧
        ∀ base : Heap, K.In base → base.Ns mainGlobals mg → FnOk l.prog w K mg base (CX w) k fa fd [x] sp)
    (hCX : ∀ (w : World) (H : Hp) (s : Shared) (e : Value) (s' : Shared), CX w [] H s (fun _ _ _ => False) e s' → False) :
    PySem.W.WalkO q loose XP YP l.row.toRowW d [] (fun f vs => PySem.call f vs) := by
  refine Att.attach_callB hn hdf fun w s₀ s₁ mg mb fa o pm cd doc a vs ns G Y ho hd hcd hmg hobj hints hlen hbits hg => ?_
  obtain ⟨K, fd, sp, KX, hb, hsp, hF⟩ := F w mg fa _ Y G.T.g hmg
  exact law_call KX G.T.g G.T.b G.T.builtins G.T.nolimit hg hobj hints (Nat.le_trans hlen hn2) hr hF hb (fun H hO hS => hsp H a ns hlen hbits hO hS) fun H e s' => hCX w H s₁ e s'
end L2

set_option maxRecDepth 100000
set_option maxHeartbeats 4000000
/-! # n * obj; facts of classes by one Bool -/
namespace L2
open PySem PySem.Spec PyProof.Rows
theorem int_mul_ins (k : Int) (t : Tok) (l : Addr) (C : Value) (dd : Option Addr) (sl : Array (Option Value)) :
    Meets (Builtin.«int.__mul__» ⟨[.int k t, .ref l], []⟩) (fun _ R s => s.heap.get? l = some { cls := C, dict := dd, data := .plain, slots := sl } ∧ R (.ok (.ret Value.notImplemented)) s) :=
  .of_wp fun prog w A R s h => by obtain ⟨hp, g, d, tk, os⟩ := s; obtain ⟨hl, h⟩ := h; wp_walk using wpAny_loadPart' hl; exact ⟨_, rfl, h⟩
/-- n op a, a of a class with the operator and its reflected one -/
structure OwnR (K : PySem.W.Frag) (C : Addr) (op : Operator) (f : Addr) : Prop where
  first : PySem.W.selfFirst K C = true
  mul : ∃ g, PySem.W.findIn K (.ref C) (PySem.dunder op.info.2) = some (some (.ref g))
  at_ : PySem.W.findIn K (.ref C) (dunderR op.info.2) = some (some (.ref f))
  fn : PySem.W.isFn K (.ref f) = true
  sub : PySem.W.subIn K (.ref C) (.type "int") = some false
def rOwnR (C : Addr) (sp : Sp) (E : XK) : R2 := fun x y H Q => ∃ a dx fs n, x = .int n ∧ y = .ref a ∧ H a = some (.ins C dx fs) ∧ sp [.ref a, .int n] H Q E
section
open PySem.W
theorem ksp_rbin {prog : Program} {w : World} {A : Around} {E : Value → Shared → Prop} {s : Shared} {K : Frag} {x C L f : Addr} {h₀ : Heap} {m : Str → Option Value} {od : Option Obj} {dx : Addr} {k : Int} {t : Tok} {op : Operator} {idl : String} {Q : Value → Shared → Prop}
    (Fr0 : Fr h₀ L s.heap m) (X₀ : K.In h₀) (I : InstAt s.heap x (instObj C dx) C od) (O : OwnR K C op f) (hf : fillsNumberSlot (.type "int") op.info.2 = pure true) (hl : Slot "int" (PySem.dunder op.info.2) idl)
    (hd : ∀ {Q' : Value → Shared → Prop}, Q' .notImplemented s → wpAny (model prog w) A (call (.builtin idl) [.int k t, .ref x]) Q' E s)
    (h : wpAny (model prog w) A (call (.ref f) [.ref x, .int k t]) (PySem.W.CmpBack Q) E s) : wpAny (model prog w) A (binaryOp op (.int k t) (.ref x)) Q E s := by
  have X := X₀.keeps Fr0.keep
  obtain ⟨cd, rest, hcd, hm⟩ := ksp_first O.first
  obtain ⟨g0, hg0⟩ := O.mul
  have one := ksp_try X I O.at_ O.fn h
  have two : ∀ {Q' : Option Value → Shared → Prop}, Q' none s → wpAny (model prog w) A (tryMethod (.int k t) (PySem.dunder op.info.2) (.ref x)) Q' E s := fun {Q'} q =>
    wpAny_tryMethod_declines (typeIs_int s k t) hl (hd ⟨rfl, q⟩)
  have oat := O.at_
  rcases hi : op.info with ⟨sym, nm'⟩
  rw [hi] at hg0 hf two one
  dsimp only at hg0 hf two one
  obtain ⟨hh, gg, d, tt, os⟩ := s
  have L1 : Looks (model prog w) hh (typeOf (.ref x)) (.ref C) := I.type
  have L2 : Looks (model prog w) hh (typeOf (.int k t)) (.type "int") := Looks.of_pure rfl
  have L3 : Looks (model prog w) hh (fillsNumberSlot (.ref C) nm') true := fills_K X hcd hm hg0
  have L4 : Looks (model prog w) hh (fillsNumberSlot (.type "int") nm') true := Looks.of_pure hf
  have L5 : Looks (model prog w) hh (isSubtype (.ref C) (.type "int")) false := looks_subIn X O.sub
  have L7 : Looks (model prog w) hh (numberSlotInPython (.type "int") nm') false := Looks.of_pure rfl
  have hne : (Value.type "int" == Value.ref C) = false := Bool.eq_false_iff.mpr fun q => by cases beq_iff_eq.mp q
  simp only [binaryOp, hi]
  refine wpAny_holding (wpAny_bind ?_)
  unfold binaryOp1
  refine wpAny_bind (L2.at (wpAny_bind (L1.at (wpAny_bind (L4.at ?_)))))
  simp only [hne, Bool.false_eq_true, if_false]
  refine wpAny_bind (L3.at ?_)
  simp only [Bool.and_self, if_true]
  refine wpAny_bind (L5.at ?_)
  simp only [Bool.false_eq_true, if_false, pure_bind, Bool.not_false, Bool.and_self, if_true]
  refine wpAny_bind (L7.at ?_)
  simp only [Bool.false_eq_true, if_false, pure_bind, Bool.not_false, Bool.and_self, if_true]
  refine wpAny_bind (two ?_)
  simp only [Bool.false_eq_true, if_false, pure_bind]
  refine wpAny_bind (wpAny_mono one (fun r s' hr' => ?_) fun _ _ e => e)
  obtain ⟨v, rfl, hq⟩ := hr'
  exact wpAny_bind (wpAny_rule (wpAny_pure (wpAny_pure hq)))
end
section
variable {X : Cx} {CX : CXT} {C f : Addr} {fd : FuncData} {ps : List Str} {sp : Sp} {E : XK} {k : Nat}
theorem op_ownR (O : OwnR X.K C .Mult f) (F0 : FnOk X.prog X.w X.K X.mg X.base CX k f fd ps sp) (hb : Binds X.K fd ps []) (hr : Room k X.A) (hx : Passes CX X E) :
    OpR X (binaryOp .Mult) (rOwnR C sp E) := by
  intro pins s σ H x y v u Q I rx ry h
  obtain ⟨a, dx, fs, n, rfl, rfl, ha, hsp⟩ := h
  obtain ⟨t, rfl⟩ := rx
  cases ry
  obtain ⟨mA, J0, rel, _⟩ := ins_get I.hok ha
  obtain ⟨od, J, _⟩ := J0.look
  obtain ⟨m, hF⟩ := I.fr
  refine ksp_rbin hF I.ok.mod.kin J O F.fills_int_mul F.slot_int_mul (fun q => call_meets F.slot_int_mul (typeIs_int s n t) F.entry_int_mul (F.args_int_mul_2 _ _) (int_mul_ins n t a (.ref C) (some dx) #[]) ⟨J0.obj, q⟩) (wpAny_mono (run_fn F0 hr hb .nil hx I (us := [.ref a, .int n t]) (vs := [.ref a, .int n]) (.cons rfl (.cons ⟨t, rfl⟩ .nil)) hsp) (fun r s' q => back_of q) fun _ _ z => z)
/-- a def called within a built-in's call -/
theorem run_fnA {A : Around} {pins : List (Addr × Obj)} {σ : St} {H : Hp} {s : Shared} {Q : VK} {us : List Value} {vs : List V} (F : FnOk X.prog X.w X.K X.mg X.base CX k f fd ps sp) (hb : Binds X.K fd ps []) (hr : Room k A) (e0 : Env0 X.prog X.w X.K X.mg X.base A X.stack s H) (hx : Passes CX X E)
    (I : Inv X pins σ H s) (r : Vals vs us) (h : sp vs H Q E) : wpAny (model X.prog X.w) A (call (.ref f) us) (EP X pins σ Q) X.xe s := by
  have hl : us.length = ps.length := r.length.symm.trans (F.len _ _ _ _ h)
  have B : BindsTo s fd ⟨us, []⟩ (ps.zip us) := by
    have := hb s us I.kIn (by rw [List.append_nil]; exact hl)
    rwa [List.append_nil] at this
  refine wpAny_call (codeAny_mono (F.run A X.stack s H ⟨us, []⟩ us vs Q E hr e0 B r h) fun r s' hq => ?_)
  cases r with
  | error e => exact hx pins σ H s e s' I hq
  | ok fl =>
    cases fl with
    | ret u => exact I.after hq
    | next => exact False.elim hq
    | brk => exact False.elim hq
    | cont => exact False.elim hq
/-- abs(a), a of a class with __abs__ -/
def rOwnAbs (C : Addr) (sp : Sp) (E : XK) : List V → Hp → VK → Prop := fun xs H Q => ∃ a dx fs, xs = [.ref a] ∧ H a = some (.ins C dx fs) ∧ sp [.ref a] H Q E
theorem call_ownAbs (hs : PySem.W.findIn X.K (.ref C) "__abs__" = some (some (.ref f))) (hf : PySem.W.isFn X.K (.ref f) = true) (F : FnOk X.prog X.w X.K X.mg X.base CX k f fd ps sp) (hb : Binds X.K fd ps []) (hr : Room (k + 1) X.A) (hx : Passes CX X E) :
    CallR X (.builtin "abs") (rOwnAbs C sp E) := by
  intro pins s σ H xs us Q I r h
  obtain ⟨a, dx, fs, rfl, ha, hsp⟩ := h
  cases r with
  | cons r rr =>
  cases rr
  cases r
  obtain ⟨od, J⟩ := inst_of I.hok ha
  refine Calls.call_function_entry kind_abs plain_abs entry_abs (args_abs _) ?_
  unfold Builtin.«abs»
  refine wpAny_bind (m := oneArg "abs" _) (wpAny_of_eq (a := Value.ref a) (by first | rfl | kernel_rfl!) ?_)
  refine wpAny_bind (PySem.W.special_fn I.kIn J hs (beq_iff_eq.mp hf) (wpAny_mono (run_fnA F hb hr.in1 I.env0.in1 hx I (us := [.ref a]) (vs := [.ref a]) (.cons rfl .nil) hsp) (fun v s' q => ?_) fun _ _ z => z))
  exact wpAny_pure ⟨_, rfl, q⟩
/-- len(a), a of a class with __len__ -/
def rOwnLen (C : Addr) (sp : Sp) (E : XK) : List V → Hp → VK → Prop := fun xs H Q => ∃ a dx fs, xs = [.ref a] ∧ H a = some (.ins C dx fs) ∧ sp [.ref a] H (fun v H' => ∃ n : Nat, v = .int n ∧ n ≤ sizeLine ∧ Q v H') E
end
end L2

set_option maxRecDepth 100000
set_option maxHeartbeats 4000000
/-! # Facts of a class by one Bool each; walks over own instances, over lists or tuples -/
namespace FB
open PySem PySem.W PySem.Calls PyProof.Rows He He5 HX
abbrev mT : Value := .type "type"
def creadB (K : Frag) (C : Addr) : Bool := readsIn K C mT && eqO (specialIn K (.ref C) "__getattribute__") (some (some (.builtin "type.__getattribute__")))
theorem cread_ok {K : Frag} {C : Addr} (h : creadB K C = true) : ClX.CRead K C mT := by
  obtain ⟨h1, h2⟩ := ba h
  exact ⟨h1, eqO_ok h2⟩
def cintB (K : Frag) (C : Addr) (f : Str) (i : Int) : Bool := match findCls K (.ref C) mT f with
  | some (.val (.int j _)) => decide (j = i)
  | _ => false
theorem cint_ok {K : Frag} {C : Addr} {f : Str} {i : Int} (h : cintB K C f i = true) : ∃ u, ClX.CVal K C mT f (.int i) u := by
  unfold cintB at h
  split at h
  · rename_i j t e
    have := of_decide_eq_true h
    subst this
    exact ⟨_, e, ⟨t, rfl⟩⟩
  · cases h
def addrO : Option (Option Value) → Bool
  | some none => true
  | some (some (.ref _)) => true
  | _ => false
theorem addrO_ok {o : Option (Option Value)} (h : addrO o = true) : ∃ rc, o = some rc ∧ (rc = none ∨ ∃ g : Addr, rc = some (.ref g)) := by
  cases o with
  | none => cases h
  | some o =>
    cases o with
    | none => exact ⟨_, rfl, .inl rfl⟩
    | some v => cases v <;> first | exact ⟨_, rfl, .inr ⟨_, rfl⟩⟩ | (cases h; done)
def opB (K : Frag) (C : Addr) (op : Operator) (f : Addr) : Bool := selfFirst K C && (eqO (findIn K (.ref C) (PySem.dunder op.info.2)) (some (some (.ref f))) && isFn K (.ref f))
theorem op_ok {K : Frag} {C f : Addr} {op : Operator} (h : opB K C op f = true) : L2.OwnOp K C op f := by
  obtain ⟨h1, h⟩ := ba h
  obtain ⟨h2, h3⟩ := ba h
  exact ⟨h1, eqO_ok h2, h3⟩
def opTB (K : Frag) (C : Addr) (op : Operator) (f : Addr) (T : String) : Bool := opB K C op f && (addrO (findIn K (.ref C) (dunderR op.info.2)) && ((findIn K (.type T) (PySem.dunder op.info.2)).isSome && ((findIn K (.type T) (dunderR op.info.2)).isSome && decide (subIn K (.type T) (.ref C) = some false))))
theorem opT_ok {K : Frag} {C f : Addr} {op : Operator} {T : String} (h : opTB K C op f T = true) : L2.OwnOpT K C op f T := by
  obtain ⟨h1, h⟩ := ba h
  obtain ⟨h2, h⟩ := ba h
  obtain ⟨h3, h⟩ := ba h
  obtain ⟨h4, h5⟩ := ba h
  exact { op_ok h1 with rev := addrO_ok h2, tf := Option.isSome_iff_exists.mp h3, tr := Option.isSome_iff_exists.mp h4, sub := of_decide_eq_true h5 }
def opRB (K : Frag) (C : Addr) (op : Operator) (f : Addr) : Bool := selfFirst K C && ((match findIn K (.ref C) (PySem.dunder op.info.2) with | some (some (.ref _)) => true | _ => false) && (eqO (findIn K (.ref C) (dunderR op.info.2)) (some (some (.ref f))) && (isFn K (.ref f) && decide (subIn K (.ref C) (.type "int") = some false))))
theorem opR_ok {K : Frag} {C f : Addr} {op : Operator} (h : opRB K C op f = true) : L2.OwnR K C op f := by
  obtain ⟨h1, h⟩ := ba h
  obtain ⟨h2, h⟩ := ba h
  obtain ⟨h3, h⟩ := ba h
  obtain ⟨h4, h5⟩ := ba h
  refine ⟨h1, ?_, eqO_ok h3, h4, of_decide_eq_true h5⟩
  split at h2
  · rename_i g e
    exact ⟨g, e⟩
  · cases h2
/-- a special method m of C at f -/
def spB (K : Frag) (C : Addr) (m : Str) (f : Addr) : Bool := eqO (findIn K (.ref C) m) (some (some (.ref f))) && isFn K (.ref f)
theorem sp_ok {K : Frag} {C f : Addr} {m : Str} (h : spB K C m f = true) : findIn K (.ref C) m = some (some (.ref f)) ∧ isFn K (.ref f) = true := by
  obtain ⟨h1, h2⟩ := ba h
  exact ⟨eqO_ok h1, h2⟩
/-- a classmethod m of C, its def at g -/
def cmetB (K : Frag) (C : Addr) (m : Str) (g : Addr) : Bool := match findCls K (.ref C) mT m with
  | some (.get (.builtin n) (.ref p) .none (.ref D)) => decide (n = "classmethod.__get__") && (decide (D = C) && ((match recIn K p "classmethod" with
    | some (.ref g' :: _) => decide (g' = g)
    | _ => false) && fnIn K g))
  | _ => false
theorem cmet_ok {K : Frag} {C g : Addr} {m : Str} (h : cmetB K C m g = true) : ∃ p, ClX.CMet K C mT m p g := by
  unfold cmetB at h
  split at h
  · rename_i n p D e
    obtain ⟨h1, h⟩ := ba h
    obtain ⟨h2, h⟩ := ba h
    obtain ⟨h3, h4⟩ := ba h
    have e1 := of_decide_eq_true h1
    have e2 := of_decide_eq_true h2
    subst e1 e2
    split at h3
    · rename_i g' r er
      have e3 := of_decide_eq_true h3
      subst e3
      exact ⟨p, e, ⟨r, er⟩, h4⟩
    · cases h3
  · cases h
end FB
namespace L2
open PySem PySem.Spec PyProof.Rows PySem.W
/-- the facts of __iter__ from its text -/
theorem ownIt_of {K : Frag} {mg : Str → Option Value} {C f : Addr} {fld qual : Str} {fd : FuncData} {st : Stmt} (c : Cls K C) (n : NoAttr K C fld) (a : findIn K (.ref C) "__iter__" = some (some (.ref f))) (hf : isFn K (.ref f) = true) (hm : mg "iter" = none)
    (F : FunD K "__iter__" qual (defArgs st) (defBody st) (defScope st) [] [] f fd)
    (tx : ∃ p1 p2 p3 p4 p5, defBody st = [.Return (some (.Call (.Name "iter" p1) [.Attribute (.Name "self" p2) fld p3] [] p4)) p5] ∧ ∀ env : Env, env.scope = defScope st → attributeBase (.Name "self" p2) fld env (eval (.Name "self" p2) env) = eval (.Name "self" p2) env)
    (sc : (defScope st).names.lookup ("self" : Str) = some .local ∧ (defScope st).names.lookup ("iter" : Str) = some .globalImplicit ∧ (∀ x ∈ (defScope st).names, x.2 ≠ .cell) ∧ (defScope st).kind = .function ∧ (defScope st).isCoroutine = false ∧ (defScope st).isGenerator = false)
    (hb : ∀ (s : Shared) (fd : FuncData) (v : Value), fd.params = defArgs st → fd.scope = defScope st → fd.defaults = .none → BindsTo s fd ⟨[v], []⟩ [("self", v)]) : OwnIt K mg C f fld := by
  obtain ⟨oc, od, dV, kV, doc, pm, an, cdv, ct, osl, rfl, lk, hcd, hD, _⟩ := F.ex
  obtain ⟨p1, p2, p3, p4, p5, hbody, hbase⟩ := tx
  have e : dV = .none := by
    rcases hD with ⟨_, e⟩ | ⟨e, _⟩
    · exact e
    · exact absurd rfl e
  subst e
  rw [hbody] at lk
  exact ⟨c, n, a, hf, hm, qual, defArgs st, defScope st, p1, p2, p3, p4, p5, ⟨oc, od, kV, doc, pm, an, cdv, ct, osl, lk, hcd⟩, sc.1, sc.2.1, sc.2.2.1, sc.2.2.2.1, sc.2.2.2.2.1, sc.2.2.2.2.2, hb, hbase⟩
section
variable {X : Cx} {tg : Expr}
/-- for x in a, a an own instance whose field is a tuple -/
def iOwn (K : Frag) (C : Addr) (fld : Str) (te : TE) : TI := fun σ H R => te σ H fun x H1 => ∃ a dx fs t xs, x = .ref a ∧ H1 a = some (.ins C dx fs) ∧ fs.lookup fld = some (.ref t) ∧ SqT K H1 t xs ∧ R (Itt K t) H1
theorem pi_own {C f : Addr} {fld : Str} {k : Nat} {e : Expr} {te : TE} (O : OwnIt X.K X.mg C f fld) (hr : Room k X.A) (he : PE X e te) : PI X tg e (iOwn X.K C fld te) := by
  refine ⟨fun pins s σ H R I h => ?_⟩
  refine thn (he.run pins s σ H _ I h) fun v s1 ⟨x, H1, I1, r1, q1⟩ => ?_
  obtain ⟨a, dx, fs, t, xs, ex, ha, hl, hT, q⟩ := q1
  subst ex
  cases r1
  refine own_iter O hr I1 ha hl hT fun h' tk it hk hit ho => ?_
  have I2 : Inv X pins σ H1 { s1 with heap := h', toks := tk } := I1.kept (t' := tk) hk
  refine ⟨it, [it], _, _, H1, rfl, I2, turn_tuple t it, ⟨_, ho, rfl, rfl⟩, fun b hb => ?_, q⟩
  have e : b = it := by simpa using hb
  subst e
  exact I1.fpOk hit (I1.hok.fresh hit)
/-- for x in a, a a list or a tuple -/
def iSeqW (K : Frag) (te : TE) : TI := fun σ H R => te σ H fun x H1 => ∃ a xs, x = .ref a ∧ SqA K H1 a xs ∧ ∀ (J : It) (G : Hp → Prop), (∀ H', Same H1 H' → G H') → Walk J xs.length G (YAt xs) → R J H1
theorem pi_seqW {l : Expr} {tl : TE} (hl : PE X l tl) : PI X tg l (iSeqW X.K tl) := by
  refine ⟨fun pins s σ H R I h => ?_⟩
  refine thn (hl.run pins s σ H _ I h) fun v s1 ⟨x, H1, I1, r1, q1⟩ => ?_
  obtain ⟨a, xs, e, hq, q⟩ := q1
  subst e
  cases r1
  rcases hq with hq | hq
  · obtain ⟨its, rv, p, hz⟩ := I1.list hq
    refine wpAny_pyIter_list p.isList ?_
    refine ⟨s1.heap.objs.size, [s1.heap.objs.size], _, _, H1, rfl, I1.kept (t' := s1.toks) fun b o e => Heap.get?_push_of_some _ e, turn_list a _, ⟨_, Heap.get?_push_size _ rfl, rfl, rfl⟩, fun b hb => ?_, q _ _ (fun _ sm => sm.seq hq) walk_list⟩
    have e : b = s1.heap.objs.size := by simpa using hb
    subst e
    exact I1.fpOk (Nat.le_refl _) (I1.hok.fresh (Nat.le_refl _))
  · obtain ⟨its, rv, p, hz⟩ := I1.tuple hq
    refine wpAny_pyIter_tuple (show s1.heap.IsTuple a its.toArray from p) ?_
    refine ⟨s1.heap.objs.size, [s1.heap.objs.size], _, _, H1, rfl, I1.kept (t' := s1.toks) fun b o e => Heap.get?_push_of_some _ e, turn_tuple a _, ⟨_, Heap.get?_push_size _ rfl, rfl, rfl⟩, fun b hb => ?_, q _ _ (fun _ sm => sm.seqT hq) walk_tup⟩
    have e : b = s1.heap.objs.size := by simpa using hb
    subst e
    exact I1.fpOk (Nat.le_refl _) (I1.hok.fresh (Nat.le_refl _))
end
end L2

set_option maxRecDepth 100000
set_option maxHeartbeats 4000000
/-! # A def that keeps its promise, in one word; calls of it -/
namespace L2
open PySem PySem.Spec PyProof.Rows
structure Ok (P : Program) (w : World) (K : PySem.W.Frag) (mg : Str → Option Value) (base : Heap) (CX : CXT) (k : Nat) (f : Addr) (ps : List Str) (sp : Sp) : Prop where
  ex : ∃ fd, FnOk P w K mg base CX k f fd ps sp ∧ Binds K fd ps [] ∧ PySem.W.keepIn K (.ref f) = true
section
variable {P : Program} {w : World} {K : PySem.W.Frag} {mg : Str → Option Value} {base : Heap} {CX : CXT} {k j : Nat} {f : Addr} {ps : List Str} {sp sp' : Sp}
theorem Ok.mono (O : Ok P w K mg base CX k f ps sp) (h : k ≤ j) : Ok P w K mg base CX j f ps sp := let ⟨fd, a, b, c⟩ := O.ex; ⟨fd, a.mono h, b, c⟩
theorem Ok.imp (O : Ok P w K mg base CX k f ps sp) (h : ∀ vs H Q E, sp' vs H Q E → sp vs H Q E) : Ok P w K mg base CX k f ps sp' := let ⟨fd, a, b, c⟩ := O.ex; ⟨fd, a.imp h, b, c⟩
/-- the proof of a def: its names' number, then its body -/
theorem Ok.of {x qual : Str} {params : Arguments} {body : List Stmt} {scope : Scope} {N : List Str} (n : Nat) (hf : ∃ fd, FunD K x qual params body scope [] [] f fd) (S : FnScope N ps scope) (hb : ∀ {fd : FuncData}, FunD K x qual params body scope [] [] f fd → Binds K fd ps []) (hk : n + 1 ≤ k)
    (len : ∀ vs H Q E, sp vs H Q E → vs.length = ps.length)
    (hbody : ∀ (cdv : Value) (A : Around) (outer : List Env) (s : Shared) (H : Hp) (vs : List V) (Q : VK) (E : XK), Room n (A.deeper (envOfC qual scope s.heap.objs.size f cdv)) → sp vs H Q E →
      ∃ t, PSs (cxOf CX P w K mg base N qual scope f cdv A outer s H E) body t ∧ t { nx := fun _ H' => Q .non H', rt := Q } (start N vs) H) : Ok P w K mg base CX k f ps sp := by
  obtain ⟨fd, F⟩ := hf
  exact ⟨fd, (F.ok S len hbody).mono hk, hb F, F.kp⟩
end
section
variable {X : Cx} {CX : CXT} {k : Nat} {f C : Addr} {ps : List Str} {sp : Sp} {E : XK} {x m : Str} {p pos apos : Pos} {e o : Expr} {es : List Expr} {ta : TE} {t : TA}
theorem pc (O : Ok X.prog X.w X.K X.mg X.base CX k f ps sp) (hr : Room k X.A) (hm : X.mg x = some (.ref f)) (hx : Passes CX X E) (ha : PA X (e :: es) t) (hg : Gl X x := by rfl) (hdb : (x == ("__debug__" : Str)) = false := by decide)
    (he : starEach (e :: es) X.env = (false, eval e X.env) :: starEach es X.env := by rfl) (hpl : (backTo pos (starEach es X.env)).any (·.1) = false := by rfl) :
    PE X (.Call (.Name x p) (e :: es) [] pos) (tCall sp [] E t) := let ⟨fd, a, b, c⟩ := O.ex; pe_call a hr hg hm c b .nil hx ha hdb he hpl
theorem pc0 (O : Ok X.prog X.w X.K X.mg X.base CX k f ps sp) (hr : Room k X.A) (hm : X.mg x = some (.ref f)) (hx : Passes CX X E) (hg : Gl X x := by rfl) (hdb : (x == ("__debug__" : Str)) = false := by decide) :
    PE X (.Call (.Name x p) [] [] pos) (tCall sp [] E tNil) := let ⟨fd, a, b, c⟩ := O.ex; pe_call0 a hr hg hm c b .nil hx hdb
theorem pmk (O : Ok X.prog X.w X.K X.mg X.base CX k f ps sp) (M : Mk X.K C f) (hr : Room (k + 1) X.A) (hm : X.mg x = some (.ref C)) (hx : Passes CX X E) (ha : PA X (e :: es) t) (hg : Gl X x := by rfl) (hdb : (x == ("__debug__" : Str)) = false := by decide)
    (he : starEach (e :: es) X.env = (false, eval e X.env) :: starEach es X.env := by rfl) (hpl : (backTo pos (starEach es X.env)).any (·.1) = false := by rfl) :
    PE X (.Call (.Name x p) (e :: es) [] pos) (tMake C sp [] E t) := let ⟨fd, a, b, c⟩ := O.ex; pe_make M a hr hg hm b .nil hx ha hdb he hpl
theorem pmeth {pl : Sem Bool} (O : Ok X.prog X.w X.K X.mg X.base CX k f ps sp) (he : PE X o ta) (c : Cls X.K C) (hm : Meth X.K C m f) (hr : Room k X.A) (hx : Passes CX X E) (ha : PA X (e :: es) t)
    (hst : starEach (e :: es) X.env = (false, eval e X.env) :: starEach es X.env := by rfl) (hpl : (backTo pos (starEach es X.env)).any (·.1) = false := by rfl)
    (ht : eval (.Call (.Attribute o m apos) (e :: es) [] pos) X.env = (do
      let ov ← eval o X.env
      standAt apos.atName
      let (f, first) ← holding [ov] (getMethod ov m pl)
      callWith pos f first (backTo pos (starEach (e :: es) X.env)) (backToKw pos (keywordEach [] X.env))) := by rfl) :
    PE X (.Call (.Attribute o m apos) (e :: es) [] pos) (tMeth C m sp [] E ta t) := let ⟨fd, a, b, d⟩ := O.ex; pe_meth (pl := pl) he c hm a hr b .nil hx ha hst hpl ht
theorem pmeth0 {pl : Sem Bool} (O : Ok X.prog X.w X.K X.mg X.base CX k f ps sp) (he : PE X o ta) (c : Cls X.K C) (hm : Meth X.K C m f) (hr : Room k X.A) (hx : Passes CX X E)
    (ht : eval (.Call (.Attribute o m apos) [] [] pos) X.env = (do
      let ov ← eval o X.env
      standAt apos.atName
      let (f, first) ← holding [ov] (getMethod ov m pl)
      callWith pos f first (backTo pos (starEach [] X.env)) (backToKw pos (keywordEach [] X.env))) := by rfl) :
    PE X (.Call (.Attribute o m apos) [] [] pos) (tMeth C m sp [] E ta tNil) := let ⟨fd, a, b, d⟩ := O.ex; pe_meth0 (pl := pl) he c hm a hr b .nil hx ht
/-- a class or a def of the module by its name -/
theorem pgC (hm : X.mg x = some (.ref C)) (hg : Gl X x := by rfl) (hdb : (x == ("__debug__" : Str)) = false := by decide) : PE X (.Name x p) (tC (.ref C)) := pe_glob (v := .ref C) hg hm rfl hdb
theorem oOwn {op : Operator} (O : Ok X.prog X.w X.K X.mg X.base CX k f ps sp) (W : OwnOp X.K C op f) (hr : Room k X.A) (hx : Passes CX X E) : OpR X (binaryOp op) (rOwnOp C sp E) := let ⟨fd, a, b, c⟩ := O.ex; op_own W a b hr hx
theorem oOwnI {op : Operator} (O : Ok X.prog X.w X.K X.mg X.base CX k f ps sp) (W : OwnOpT X.K C op f "int") (hr : Room k X.A) (hx : Passes CX X E) : OpR X (binaryOp op) (rOwnOpI C sp E) := let ⟨fd, a, b, c⟩ := O.ex; op_ownI W a b hr hx
theorem oOwnR (O : Ok X.prog X.w X.K X.mg X.base CX k f ps sp) (W : OwnR X.K C .Mult f) (hr : Room k X.A) (hx : Passes CX X E) : OpR X (binaryOp .Mult) (rOwnR C sp E) := let ⟨fd, a, b, c⟩ := O.ex; op_ownR W a b hr hx
theorem uOwn (O : Ok X.prog X.w X.K X.mg X.base CX k f ps sp) (W : PySem.W.findIn X.K (.ref C) "__neg__" = some (some (.ref f)) ∧ PySem.W.isFn X.K (.ref f) = true) (hr : Room k X.A) (hx : Passes CX X E) : UnR X (unaryOp .USub) (rOwnNeg C sp E) := let ⟨fd, a, b, c⟩ := O.ex; un_own W.1 W.2 a b hr hx
theorem cAbs (O : Ok X.prog X.w X.K X.mg X.base CX k f ps sp) (W : PySem.W.findIn X.K (.ref C) "__abs__" = some (some (.ref f)) ∧ PySem.W.isFn X.K (.ref f) = true) (hr : Room (k + 1) X.A) (hx : Passes CX X E) : CallR X (.builtin "abs") (rOwnAbs C sp E) := let ⟨fd, a, b, c⟩ := O.ex; call_ownAbs W.1 W.2 a b hr hx
end
/-- a def that may raise: what its callees let out goes on -/
theorem px {X : Cx} {E : XK} {E₁ : Value → Shared → Prop} (hs : X.stack = X.env :: X.outer := by rfl) (hf : X.env.frame = some X.env.locals := by rfl) (hex : X.ex = [] := by rfl)
    (hx : X.xe = fun e s' => wpAny (model X.prog X.w) X.A (leaving X.env e) (fun _ s'' => CX X.prog X.w X.outer X.H_0 X.s_0 E e s'') E₁ s' := by rfl) : Passes (CX X.prog X.w) X E :=
  passes_call (takes_of hs hf hex hx) fun _ _ _ _ h => h
end L2

set_option maxRecDepth 100000
set_option maxHeartbeats 4000000
/-! # try with several clauses, each with or without a name -/
namespace L2
open PySem PySem.Spec PyProof.Rows
abbrev Cls3 : Type := Value × Option Nat × (Addr → Value → Option Addr → TS)
/-- the ends behind a suite whose name is slot i: it is gone -/
def Ends.gone (D : Ends) (i : Nat) : Ends := { nx := fun σ' H' => D.nx (σ'.set i none) H', rt := D.rt, bk := fun σ' H' => D.bk (σ'.set i none) H', ct := fun σ' H' => D.ct (σ'.set i none) H' }
def wAny (K : PySem.W.Frag) (Wo : WX) (D : Ends) : List Cls3 → WX
  | [] => Wo
  | (c, none, ts) :: r => fun cls d σ H => ∃ b, PySem.W.exmOne K cls c = some b ∧ (b = true → ∀ a, H a = none → ts a cls d D σ H) ∧ (b = false → wAny K Wo D r cls d σ H)
  | (c, some i, ts) :: r => fun cls d σ H => ∃ b, PySem.W.exmOne K cls c = some b ∧ (b = true → ∀ a, H a = none → ts a cls d (D.gone i) (σ.set i (some (.ref a))) H) ∧ (b = false → wAny K Wo D r cls d σ H)
inductive HdA (X : Cx) : List ExceptHandler → List Cls3 → Prop
  | nil : HdA X [] []
  | cons {x : Str} {c : Value} {ts : Addr → Value → Option Addr → TS} {b₀ : Stmt} {su : List Stmt} {np p2 : Pos} {hds : List ExceptHandler} {l : List Cls3} (hc : Names X x c)
      (hsu : ∀ (a : Addr) (oe : Obj) (cls : Value) (d : Option Addr) (pn : List (Addr × Obj)), Zc cls d oe → (∃ vs, oe.data = .fields vs) → PSs (X.suite a ((a, oe) :: pn)) (b₀ :: su) (ts a cls d)) (r : HdA X hds l) :
      HdA X (.ExceptHandler (some (.Name x np)) none (b₀ :: su) p2 :: hds) ((c, none, ts) :: l)
  | as {x n : Str} {i : Nat} {c : Value} {ts : Addr → Value → Option Addr → TS} {b₀ : Stmt} {su : List Stmt} {np p2 : Pos} {hds : List ExceptHandler} {l : List Cls3} (hc : Names X x c) (hi : X.N[i]? = some n) (hln : X.env.kindOf n = some .local)
      (hsu : ∀ (a : Addr) (oe : Obj) (cls : Value) (d : Option Addr) (pn : List (Addr × Obj)), Zc cls d oe → (∃ vs, oe.data = .fields vs) → PSs (X.suite a ((a, oe) :: pn)) (b₀ :: su) (ts a cls d)) (r : HdA X hds l) :
      HdA X (.ExceptHandler (some (.Name x np)) (some n) (b₀ :: su) p2 :: hds) ((c, some i, ts) :: l)
section
variable {X : Cx} {body : List Stmt} {h₀ : ExceptHandler} {hds : List ExceptHandler} {l : List Cls3} {pos : Pos} {tb : WX → TS} {Wo : WX}
theorem ps_try_any (hs : X.stack = X.env :: X.outer) (hf : X.env.frame = some X.env.locals) (hN : X.N.Nodup) (tk : Takes X Wo)
    (hb : ∀ (W : WX) (pn : List (Addr × Obj)) (xe : Value → Shared → Prop), Takes (X.tr pn xe) W → PassesOwn (model X.prog X.w) X.A X.env xe → PSs (X.tr pn xe) body (tb W))
    (hh : HdA X (h₀ :: hds) l) : PS X (.Try body (h₀ :: hds) [] [] pos) (fun D σ H => tb (wAny X.K Wo D l) D σ H) := by
  refine ⟨fun pins s σ H D I h => ?_⟩
  have ok := I.ok
  have hfr : X.A.frames = some (X.env :: X.outer) := by rw [ok.frames, hs]
  refine wpAny_Try_except ?_
  refine wpAny_mono ((hb (wAny X.K Wo D l) (X.pn ++ pins) (fun e s₁ => wpAny (model X.prog X.w) X.A (noteFrame e X.env) (fun _ s₂ => wpAny (model X.prog X.w) X.A (setFlight e none) (fun _ s₃ =>
    wpAny (model X.prog X.w) X.A (handleBy e X.env (h₀ :: hds)) (SP X pins D) X.xe s₃) X.xe s₂) X.xe s₁) (fun u s' xx => ?_) PassesOwn.looking).run [] s σ H D (I.toTry _) h) (fun f s1 hsp => ?_) (fun e s1 he => he)
  · obtain ⟨a, B, sI, pins', σ', H', cls, d, rfl, J', nb, up, sky, na, os, ag, w⟩ := xx
    have J : Inv X pins σ' H' sI := J'.ofTry ok
    have sk2 : Sky B (X.env :: X.outer) a (Zc cls d) X.env.locals s'.heap := by rw [← hs]; exact sky
    show wpAny (model X.prog X.w) X.A (noteFrame (.ref a) X.env) _ _ _
    refine Sky.land Zc.steady hfr hf sk2 fun h3 fl3 up3 => ?_
    have J3 : Inv X pins σ' H' { s' with heap := h3 } := J.landed nb fl3.1 (up.trans up3) os ag
    obtain ⟨oe3, vs3, he3, hz3, hd3⟩ := fl3.there
    have nfr : a ∉ frs (X.env :: X.outer) := fun hm => by
      obtain ⟨_, o', e', hnf⟩ := fl3.2.2.1.mem hm
      rw [he3] at e'; cases e'
      exact hnf _ hd3
    have nL : a ≠ X.env.locals := fun z => nfr (List.mem_filterMap.mpr ⟨X.env, List.mem_cons_self, by rw [hf, z]⟩)
    have nF : a ∉ X.fs := fun hm => by
      obtain ⟨e, he, q⟩ := List.mem_filterMap.mp hm
      exact nfr (List.mem_filterMap.mpr ⟨e, List.mem_cons_of_mem _ he, q⟩)
    have S3 := J3.suite he3 hd3 na nL nF
    have LT : PySem.W.Looks (model X.prog X.w) h3 (typeOf (.ref a)) cls := fun A Q E s k q => wpAny_typeOf_ref (k _ _ he3) (by rw [hz3.1]; exact q)
    have test : ∀ {x : Str} {np : Pos} {c : Value} {Q : Value → Shared → Prop} {E : Value → Shared → Prop}, Names X x c → Q c { s' with heap := h3 } → wpAny (model X.prog X.w) (X.A.mark (some (.ref a))) (eval (.Name x np) X.env) Q E { s' with heap := h3 } := fun {x np c Q E} hc q => by
      obtain ⟨hg, hdbg, hm | ⟨hm, hv, hnn⟩⟩ := hc
      · exact ld_glob (X := X.suite a ((a, oe3) :: (X.pn ++ pins))) S3 hg hm q hdbg
      · exact ld_blt (X := X.suite a ((a, oe3) :: (X.pn ++ pins))) S3 hg hm hv q hnn hdbg
    have go : ∀ {hds' : List ExceptHandler} {l' : List Cls3}, HdA X hds' l' → wAny X.K Wo D l' cls d σ' H' →
        wpAny (model X.prog X.w) X.A (handleBy (.ref a) X.env hds') (SP X pins D) X.xe { s' with heap := h3 } := by
      intro hds' l' hk
      induction hk with
      | nil =>
        intro w
        refine wpAny_handleBy_nil ?_
        obtain ⟨k1, k2, k3, oe, vs, T, oT, ts', he, hz, hd, h1, hr⟩ := id fl3
        unfold PySem.passOn
        refine wpAny_bind (wpAny_field he hd h1 ?_)
        rw [if_neg (show ¬ ((Value.ref T == Value.none) = true) from by simp)]
        have fin : wpAny (model X.prog X.w) X.A (setFlight (.ref a) X.env.frame) (fun _ s4 => wpAny (model X.prog X.w) X.A (throw (.ref a) : Sem Flow) (SP X pins D) X.xe s4) X.xe { s' with heap := h3 } := by
          rw [hf]
          refine HandSPX.setFlight_upZ fl3 fun h4 hh4 up4 => wpAny_throw (tk _ _ ?_)
          exact ⟨a, B, sI, pins, σ', H', cls, d, rfl, J, nb, (up.trans up3).trans up4, .inr (.inr (by rw [hs]; exact hh4)), na, os, ag, w⟩
        first
          | exact wpAny_bind (wpAny_pure (wpAny_bind fin))
          | exact wpAny_bind fin
      | @cons x c ts b₀ suite np pos' hds2 l2 hc hsu r ih =>
        intro w
        obtain ⟨b, hb1, hyes, hno⟩ := w
        refine wpAny_handleBy_cons (codeAny_handlers_test ?_) (by intro q; cases q)
        refine test hc ((PySem.W.exm_one (M := model X.prog X.w) (J3.kIn) LT hb1).here ?_)
        cases b with
        | true =>
          refine codeAny_handlers_suite ?_
          refine HandSPX.lands_againZ fl3 fun h4 fl4 up4 => ?_
          have J4 : Inv X pins σ' H' { s' with heap := h4 } := J.landed nb fl4.1 ((up.trans up3).trans up4) os ag
          obtain ⟨oe4, vs4, he4, hz4, hd4⟩ := fl4.there
          have S4 := J4.suite he4 hd4 na nL nF
          refine wpAny_mono ((hsu a oe4 cls d (X.pn ++ pins) hz4 ⟨_, hd4⟩).run [] _ _ H' _ S4 (hyes rfl a na)) (fun f s6 hsp => ?_) (fun _ _ z => False.elim z)
          cases f with
          | next => obtain ⟨σ6, H6, S6, q6⟩ := hsp; exact ⟨_, _, S6.unsuite ok, q6⟩
          | brk => obtain ⟨σ6, H6, S6, q6⟩ := hsp; exact ⟨_, _, S6.unsuite ok, q6⟩
          | cont => obtain ⟨σ6, H6, S6, q6⟩ := hsp; exact ⟨_, _, S6.unsuite ok, q6⟩
          | ret u => obtain ⟨v6, σ6, H6, S6, r6, q6⟩ := hsp; exact ⟨_, _, _, S6.unsuite ok, r6, q6⟩
        | false =>
          show wpAny _ X.A (handleBy (.ref a) X.env hds2) _ _ _
          exact ih (hno rfl)
      | @as x n i c ts b₀ suite np pos' hds2 l2 hc hi hln hsu r ih =>
        intro w
        obtain ⟨b, hb1, hyes, hno⟩ := w
        refine wpAny_handleBy_cons (codeAny_handlers_test ?_) (by intro q; cases q)
        refine test hc ((PySem.W.exm_one (M := model X.prog X.w) (J3.kIn) LT hb1).here ?_)
        cases b with
        | true =>
          refine codeAny_handlers_suite_as ?_
          refine HandSPX.lands_againZ fl3 fun h4 fl4 up4 => ?_
          have J4 : Inv X pins σ' H' { s' with heap := h4 } := J.landed nb fl4.1 ((up.trans up3).trans up4) os ag
          obtain ⟨oe4, vs4, he4, hz4, hd4⟩ := fl4.there
          have S4 := J4.suite he4 hd4 na nL nF
          refine store_ok (X := X.suite a ((a, oe4) :: (X.pn ++ pins))) (v := .ref a) S4 hN hi (.inl hln) rfl (fun s5 S5 => ?_) (.inr hln)
          refine wpAny_mono ((hsu a oe4 cls d (X.pn ++ pins) hz4 ⟨_, hd4⟩).run [] s5 _ H' _ S5 (hyes rfl a na)) (fun f s6 hsp => ?_) (fun _ _ z => False.elim z)
          have end_ : ∀ {σ6 : St} {H6 : Hp} {Q : Shared → Prop}, Inv (X.suite a ((a, oe4) :: (X.pn ++ pins))) [] σ6 H6 s6 → (∀ s7, Inv X pins (σ6.set i none) H6 s7 → Q s7) →
              wpAny (model X.prog X.w) X.A (do bindName X.env n .none; unbindBehindTheSuite X.env n pos') (fun _ s7 => Q s7) X.xe s6 := fun {σ6 H6 Q} S6 hq => gone_ok (S6.unsuite ok) hN hi hln hq
          cases f with
          | next => obtain ⟨σ6, H6, S6, q6⟩ := hsp; exact end_ S6 fun s7 J7 => ⟨_, _, J7, q6⟩
          | brk => obtain ⟨σ6, H6, S6, q6⟩ := hsp; exact end_ S6 fun s7 J7 => ⟨_, _, J7, q6⟩
          | cont => obtain ⟨σ6, H6, S6, q6⟩ := hsp; exact end_ S6 fun s7 J7 => ⟨_, _, J7, q6⟩
          | ret u => obtain ⟨v6, σ6, H6, S6, r6, q6⟩ := hsp; exact end_ S6 fun s7 J7 => ⟨_, _, _, J7, r6, q6⟩
        | false =>
          show wpAny _ X.A (handleBy (.ref a) X.env hds2) _ _ _
          exact ih (hno rfl)
    exact go hh w
  · cases f with
    | next => obtain ⟨σ', H', J', q⟩ := hsp; exact wpAny_execs_nil ⟨σ', H', J'.ofTry ok, q⟩
    | brk => obtain ⟨σ', H', J', q⟩ := hsp; exact ⟨σ', H', J'.ofTry ok, q⟩
    | cont => obtain ⟨σ', H', J', q⟩ := hsp; exact ⟨σ', H', J'.ofTry ok, q⟩
    | ret u => obtain ⟨v, σ', H', J', r, q⟩ := hsp; exact ⟨v, σ', H', J'.ofTry ok, r, q⟩
end
end L2

set_option maxRecDepth 100000
set_option maxHeartbeats 4000000
/-! # isinstance(e, C) in a suite, e an error with a dict -/
namespace EI
open PySem PySem.W PySem.Spec PySem.Calls PyProof.Rows
theorem cls_of_exc {prog : Program} {w : World} {A : Around} {E : Value → Shared → Prop} {s : Shared} {K : Frag} {x D : Addr} {ox od : Obj} {Q : Option Value → Shared → Prop} (C : L2.ExcC K D) (X : K.In s.heap) (I : InstAt s.heap x ox D (some od)) (h : Q (some (.ref D)) { s with toks := s.toks + 1 }) :
    wpAny (model prog w) A (getAttr? (.ref x) "__class__") Q E s := by
  have hf : findObj K D (some od) "__class__" = some (.bind (.builtin "getset_descriptor.__get__") (.builtin "object.__class__")) := findObj_data (by obtain ⟨cd, hc, _⟩ := any_some C.hd; rw [hc]; rfl) C.ha C.hn C.ht
  obtain ⟨hp, g, d, t, os⟩ := s
  have L0 := I.type (M := model prog w)
  have L1 := looks_findIn (M := model prog w) X C.hg
  have L2 := looks_findIn (M := model prog w) X C.hk
  have L3 := looks_find (M := model prog w) X I hf
  have sub : Looks (model prog w) hp (isInstance (.ref x) (.type "BaseException")) true := L0.andThen (looks_subIn X C.hs)
  have n2 : (Value.builtin "BaseException.__getattribute__" == Value.builtin "object.__getattribute__") = false := by decide +kernel
  have n1 : (onTheHeap (Value.ref D) && Value.builtin "BaseException.__getattribute__" == Value.builtin "object.__getattribute__") = false := by rw [n2]; rfl
  unfold getAttr? getAttrBy? getAttrBy
  refine wpAny_bind (wpAny_mkText (wpAny_bind (wpAny_attempt (wpAny_holding (wpAny_bind (L0.at (wpAny_bind (L1.at (by
    show wpAny _ _ (if (onTheHeap (Value.ref D) && Value.builtin "BaseException.__getattribute__" == Value.builtin "object.__getattribute__") = true then _ else _) _ _ _
    rw [n1, if_neg Bool.false_ne_true]
    unfold getAttrByItsOwn hookBefore
    refine wpAny_bind ?_
    rw [if_pos (show onTheHeap (Value.ref D) = true from rfl)]
    refine L2.at (wpAny_bind (wpAny_attempt (wpAny_holding ?_)))
    unfold callGetattribute
    rw [show (false && onTheHeap (Value.builtin "BaseException.__getattribute__")) = false from rfl, if_neg Bool.false_ne_true]
    unfold boundAndCalled
    rw [PySem.F.excAttr_ValueError.ga.bind (.ref x)]
    refine wpAny_bind (wpAny_pure ?_)
    show wpAny _ _ (call (.builtin "BaseException.__getattribute__") [.ref x, .str "__class__" t]) _ _ _
    refine wpAny_call (codeAny_call_builtin PySem.F.excAttr_ValueError.ga.plain PySem.F.entry_bexc_ga (@check_slot (model prog w) _ _ ⟨hp, g, d, t + 1, os⟩ "BaseException.__getattribute__" "BaseException" "__getattribute__" (.ref x) [.str "__class__" t] [] _ (by decide +kernel) (by decide +kernel) sub (PySem.F.args_bexc_ga (.ref x) (.str "__class__" t)) ?_))
    unfold Builtin.«object.__getattribute__»
    refine wpAny_bind (wpAny_of_eq (a := ((Value.ref x : Value), [Value.str "__class__" t])) (by first | rfl | (simp only [slotArgs]; rfl)) ?_)
    refine wpAny_bind (wpAny_pure (wpAny_bind (L0.at (wpAny_bind (L3.at ?_)))))
    show wpAny _ _ (holding [Value.builtin "object.__class__"] (call (.builtin "getset_descriptor.__get__") [.builtin "object.__class__", .ref x, .ref D]) >>= ret) _ _ _
    refine wpAny_bind (wpAny_holding (wpAny_call (class_get (s := ⟨hp, g, d, t + 1, os⟩) (ox := ox) (od := some od) X I C.hm ?_)))
    refine wpAny_pure ?_
    show wpAny _ _ (handedOut (.ref D)) _ _ _
    rw [handedOut_of (v := .ref D) rfl]
    first
      | exact wpAny_pure (wpAny_pure h)
      | exact wpAny_pure h
      | exact wpAny_pure (wpAny_bind (wpAny_pure (wpAny_pure h))))))))))))
theorem kit_exc {K : Frag} {x D : Addr} {ox od : Obj} (C : L2.ExcC K D) : KitX K (.ref x) (.ref D) (fun h => InstAt h x ox D (some od)) where
  ty := fun _ _ _ I => I.type
  it := fun _ _ X _ => by
    obtain ⟨cdD, hcD, _⟩ := any_some C.hd
    unfold clsIn at hcD
    split at hcD
    · rename_i c' d' cd' sl' ho
      intro A' Q' E' s' k q
      unfold isType loadHead
      exact wpAny_bind (wpAny_loadPart (k _ _ (X _ _ ho)) (wpAny_pure q))
    · cases hcD
  ne := fun h tp dd its n sl X htp => by
    obtain ⟨cdD, hcD, _⟩ := any_some C.hd
    refine Bool.eq_false_iff.mpr fun q => ?_
    have e : D = tp := Value.ref.inj (beq_iff_eq.mp q)
    subst e
    unfold clsIn at hcD
    split at hcD
    · rename_i c' d' cd' sl' ho
      cases (X _ _ ho).symm.trans htp
    · cases hcD
  ca := fun X I k => cls_of_exc C X I k
end EI
namespace L2
open PySem PySem.Spec PyProof.Rows
/-- isinstance(e, c), e the suite's error, with a dict -/
def rIsD (K : PySem.W.Frag) (D a : Addr) (d : Option Addr) : List V → Hp → VK → Prop := fun xs H Q => ∃ (c : V) (cv : Value) (b : Bool) (dd : Addr) (fs : List (Str × V)), xs = [.ref a, c] ∧ (∀ u, RelV c u → u = cv) ∧ d = some dd ∧ H dd = some (.xd fs) ∧ PySem.W.kitOne K (.ref D) cv = some b ∧ Q (.bl b) H
theorem call_isD {X : Cx} {a D : Addr} {d : Option Addr} {oe : Obj} {pn : List (Addr × Obj)} {cls : Value} (C : ExcC X.K D) (hz : Zc cls d oe) (hf : ∃ vs, oe.data = .fields vs) :
    CallR (X.suite a ((a, oe) :: pn)) (.builtin "isinstance") (fun xs H Q => cls = .ref D ∧ rIsD X.K D a d xs H Q) := by
  intro pins s σ H xs us Q I r h
  obtain ⟨rfl, c, cv, b, dd, fs, rfl, hcv, rfl, ea, e, q⟩ := h
  cases r with
  | cons rx rr =>
  cases rr with
  | cons rt rr =>
  cases rr
  cases rx
  have ec := hcv _ rt
  subst ec
  obtain ⟨hget, _⟩ := I.pin (a, oe) (List.mem_append.mpr (.inl List.mem_cons_self))
  obtain ⟨vs, hv⟩ := hf
  obtain ⟨mA, hns, hr⟩ := (show ObjOk X.prog X.w H s.heap dd (.xd fs) from I.hok dd _ ea)
  obtain ⟨od, ho, _⟩ := lookIn_ns hns
  have J : PySem.W.InstAt s.heap a oe D (some od) := ⟨hget, hz.1, by unfold PySem.W.notCls; rw [hv] <;> rfl, by rw [hz.2]; exact ho⟩
  exact PySem.W.kia_one (EI.kit_exc C) I.kIn J e (fun z => nomatch z) fun tk => ⟨.bl b, H, I.kept (t' := tk) fun _ _ z => z, rfl, q⟩
end L2

set_option maxRecDepth 100000
set_option maxHeartbeats 4000000
namespace EF
open PySem PySem.W PySem.Calls PyProof.Rows He He5 HX
def clsB (K : Frag) (D : Addr) : Bool := eqO (findIn K (.ref D) "__class__") (some (some (.builtin "object.__class__"))) && (eqO (specialIn K (.builtin "object.__class__") "__get__") (some (some (.builtin "getset_descriptor.__get__"))) && (decide (takesIn K (.builtin "object.__class__") = some true) && decide (mroIn K D (.type "object") = some true)))
structure ClsT (K : Frag) (D : Addr) : Prop where
  ha : findIn K (.ref D) "__class__" = some (some (.builtin "object.__class__"))
  hn : specialIn K (.builtin "object.__class__") "__get__" = some (some (.builtin "getset_descriptor.__get__"))
  ht : takesIn K (.builtin "object.__class__") = some true
  hm : mroIn K D (.type "object") = some true
theorem cls_ok {K : Frag} {D : Addr} (h : clsB K D = true) : ClsT K D := by
  obtain ⟨h1, h⟩ := ba h
  obtain ⟨h2, h⟩ := ba h
  obtain ⟨h3, h4⟩ := ba h
  exact ⟨eqO_ok h1, eqO_ok h2, of_decide_eq_true h3, of_decide_eq_true h4⟩
/-- an error's class: its fields are read, isinstance asks it -/
def excB (K : Frag) (D : Addr) : Bool := L2.xfB K D && clsB K D
theorem exc_ok {K : Frag} {D : Addr} (h : excB K D = true) : L2.XfC K D ∧ L2.ExcC K D := by
  obtain ⟨h1, h2⟩ := ba h
  have x := L2.xfB_ok h1
  have c := cls_ok h2
  exact ⟨x, x.ga, x.gg, x.exC, x.hdC, c.ha, c.hn, c.ht, c.hm⟩
end EF

set_option maxRecDepth 100000
set_option maxHeartbeats 4000000
/-! # A classmethod with *numbers and a keyword: C.m(a, .., k = v) -/
namespace L2
open PySem PySem.Spec PyProof.Rows
abbrev SpS : Type := List V → List V → Hp → VK → XK → Prop
def FnS (P : Program) (w : World) (K : PySem.W.Frag) (mg : Str → Option Value) (base : Heap) (CX : CXT) (k : Nat) (f : Addr) (ks : List Str) (sp : SpS) : Prop :=
  ∀ (A : Around) (outer : List Env) (s : Shared) (H : Hp) (us ws : List Value) (vs zs : List V) (Q : VK) (E : XK), Room k A → Env0 P w K mg base A outer s H → Vals vs us → Vals zs ws → sp vs zs H Q E →
    codeAny (model P w) A (.call (.ref f) ⟨us, ks.zip ws⟩) (CR CX outer P w H s Q E) s
section
variable {X : Cx} {CX : CXT} {k : Nat} {C p g : Addr} {mc : Value} {sp : SpS} {E : XK} {o e : Expr} {es : List Expr} {kws : List Keyword} {ks : List Str} {f m : Str} {pos apos : Pos} {ta : TE} {t tk : TA} {pl : Sem Bool}
theorem run_cms {pins : List (Addr × Obj)} {σ : L2.St} {H : Hp} {s : Shared} {q : Addr} {Q : VK} {us ws : List Value} {vs zs : List V} (F : FnS X.prog X.w X.K X.mg X.base CX k g ks sp) (hr : Room k X.A) (hx : Passes CX X E) (I : Inv X ((q, PySem.W.methodObj (.ref g) (.ref C)) :: pins) σ H s)
    (r : Vals vs us) (rz : Vals zs ws) (h : sp (.ref C :: vs) zs H Q E) : wpAny (model X.prog X.w) X.A (call (.ref q) us (ks.zip ws)) (EP X pins σ Q) X.xe s := by
  have z : wpAny (model X.prog X.w) X.A (call (.ref q) us (ks.zip ws)) (EP X ((q, PySem.W.methodObj (.ref g) (.ref C)) :: pins) σ Q) X.xe s := by
    refine wpAny_call (PySem.W.method_call (ClX.pin_at I) ?_)
    refine codeAny_mono (F X.A X.stack s H (.ref C :: us) ws (.ref C :: vs) zs Q E hr I.env0 (.cons rfl r) rz h) fun r s' hq => ?_
    cases r with
    | error e => exact hx _ σ H s e s' I hq
    | ok fl =>
      cases fl with
      | ret u => exact I.after hq
      | next => exact False.elim hq
      | brk => exact False.elim hq
      | cont => exact False.elim hq
  exact thn z fun _ _ y => ClX.unpinE y
def tCms (C : Addr) (sp : SpS) (E : XK) (ta : TE) (t tk : TA) : TE := fun σ H Q => ta σ H fun x H1 => x = .ref C ∧ t σ H1 fun vs H2 => tk σ H2 fun zs H3 => sp (.ref C :: vs) zs H3 Q E
theorem pe_cms (he : PE X o ta) (r : ClX.CRead X.K C mc) (c : ClX.CMet X.K C mc m p g) (F : FnS X.prog X.w X.K X.mg X.base CX k g ks sp) (hr : Room k X.A) (hx : Passes CX X E) (ha : PA X (e :: es) t) (hk : PK X kws tk)
    (hst : starEach (e :: es) X.env = (false, eval e X.env) :: starEach es X.env := by rfl) (hall : (backToKw pos (keywordEach kws X.env)).all (·.1.isSome) = true := by rfl) (hks : (backToKw pos (keywordEach kws X.env)).filterMap (·.1) = ks := by rfl)
    (hpl : ((backTo pos (starEach (e :: es) X.env)).any (·.1) || (backToKw pos (keywordEach kws X.env)).any (·.1.isNone)) = false := by rfl)
    (ht : eval (.Call (.Attribute o m apos) (e :: es) kws pos) X.env = (do
      let ov ← eval o X.env
      standAt apos.atName
      let (f, first) ← holding [ov] (getMethod ov m pl)
      callWith pos f first (backTo pos (starEach (e :: es) X.env)) (backToKw pos (keywordEach kws X.env))) := by rfl) :
    PE X (.Call (.Attribute o m apos) (e :: es) kws pos) (tCms C sp E ta t tk) := by
  refine ⟨fun pins s σ H Q I h => ?_⟩
  refine PySem.W.methodCall_KW (pl := pl) (thn (he.run pins s σ H _ I h) fun u s1 ⟨x, H1, I1, rx, ex, q⟩ => ?_) ht
  subst ex
  obtain rfl : u = Value.ref C := rx
  refine ClX.getmethcm_ok I1 r c fun s2 I2 => ?_
  refine PySem.W.callWith_of (P := PySem.W.MethP X.K s1.heap.objs.size g (.ref C)) hpl (PySem.W.keeps_M c.fi) (evalArgs_kw2 hall (thn (ha.run pos _ s2 σ H1 _ I2 q) fun us s3 ⟨vs, H2, I3, rv, q2⟩ => ?_) hst)
  refine thn (hk.run pos _ s3 σ H2 _ I3 q2) fun ws s4 ⟨zs, H3, I4, rz, q3⟩ => ⟨⟨ClX.pin_at I4, I4.kIn⟩, ?_⟩
  rw [hks]
  exact run_cms F hr hx I4 rv rz q3
theorem pe_cms0 (he : PE X o ta) (r : ClX.CRead X.K C mc) (c : ClX.CMet X.K C mc m p g) (F : FnS X.prog X.w X.K X.mg X.base CX k g ks sp) (hr : Room k X.A) (hx : Passes CX X E) (hk : PK X kws tk)
    (hall : (backToKw pos (keywordEach kws X.env)).all (·.1.isSome) = true := by rfl) (hks : (backToKw pos (keywordEach kws X.env)).filterMap (·.1) = ks := by rfl)
    (hpl : ((backTo pos (starEach [] X.env)).any (·.1) || (backToKw pos (keywordEach kws X.env)).any (·.1.isNone)) = false := by rfl)
    (ht : eval (.Call (.Attribute o m apos) [] kws pos) X.env = (do
      let ov ← eval o X.env
      standAt apos.atName
      let (f, first) ← holding [ov] (getMethod ov m pl)
      callWith pos f first (backTo pos (starEach [] X.env)) (backToKw pos (keywordEach kws X.env))) := by rfl) :
    PE X (.Call (.Attribute o m apos) [] kws pos) (tCms C sp E ta tNil tk) := by
  refine ⟨fun pins s σ H Q I h => ?_⟩
  refine PySem.W.methodCall_KW (pl := pl) (thn (he.run pins s σ H _ I h) fun u s1 ⟨x, H1, I1, rx, ex, q⟩ => ?_) ht
  subst ex
  obtain rfl : u = Value.ref C := rx
  refine ClX.getmethcm_ok I1 r c fun s2 I2 => ?_
  refine PySem.W.callWith_of (P := PySem.W.MethP X.K s1.heap.objs.size g (.ref C)) hpl (PySem.W.keeps_M c.fi) (evalArgs_kw2_nil hall ?_)
  refine thn (hk.run pos _ s2 σ H1 _ I2 q) fun ws s4 ⟨zs, H3, I4, rz, q3⟩ => ⟨⟨ClX.pin_at I4, I4.kIn⟩, ?_⟩
  rw [hks]
  exact run_cms (us := []) F hr hx I4 .nil rz q3
end
/-! ### def m(cls, *pv, kx=default) -/
section
variable {P : Program} {w : World} {K : PySem.W.Frag} {mg : Str → Option Value} {base : Heap} {CX : CXT} {k : Nat} {f : Addr} {x qual p1 kx pv : Str} {params : Arguments} {body : List Stmt} {scope : Scope} {N : List Str} {fd : FuncData} {dv : V} {sp : Sp}
theorem fnS_star1 (F : FunD K x qual params body scope [] [(kx, dv)] f fd) (S : FnScope N [p1, kx, pv] scope) (hCX : StX.CXUp CX)
    (hb : ∀ (kV doc pm : Value) (an : Option Addr) (cdv ct : Value) (c v : Value) (rest : List Value), bindArgs (PySem.W.fnOf x qual params body scope .none kV doc pm an cdv ct) ⟨c :: rest, [(kx, v)]⟩ = (newTuple rest >>= fun t => pure [(p1, c), (kx, v), (pv, t)]))
    (hbody : ∀ (cdv : Value) (A : Around) (outer : List Env) (s : Shared) (H : Hp) (vs : List V) (Q : VK) (E : XK), Room k (A.deeper (envOfC qual scope s.heap.objs.size f cdv)) → sp vs H Q E →
      ∃ t, PSs (cxOf CX P w K mg base N qual scope f cdv A outer s H E) body t ∧ t { nx := fun _ H' => Q .non H', rt := Q } (start N vs) H) :
    FnS P w K mg base CX (k + 1) f [kx] (fun vs zs H Q E => ∃ c rest v, vs = c :: rest ∧ zs = [v] ∧ rest.length ≤ sizeLine ∧ ∀ p, H p = Option.none → sp [c, v, V.ref p] (upd H p (.tup rest)) Q E) := by
  intro A outer s H us ws vs zs Q E hr e0 r rz hsp
  obtain ⟨c, rest, v, rfl, rfl, hz, hq⟩ := hsp
  obtain ⟨oc, od, dV, kV, doc, pm, an, cdv, ct, osl, rfl, lk, hcd, hD, _⟩ := F.ex
  have e : dV = .none := by
    rcases hD with ⟨_, e⟩ | ⟨e, _⟩
    · exact e
    · exact absurd rfl e
  subst e
  cases r with
  | cons rc rr =>
  rename_i uc ur
  cases rz with
  | cons rv rn =>
  cases rn
  rename_i uv
  have hn : H s.heap.objs.size = Option.none := e0.hok.fresh (Nat.le_refl _)
  have hl2 : ur.length ≤ sizeLine := by rw [← rr.length]; exact hz
  refine StX.run_bnd lk hcd S hr e0 (G := fun xs H2 => ∃ p, H p = Option.none ∧ xs = [c, v, V.ref p] ∧ H2 = upd H p (.tup rest)) (fun A' Ex Q' h => ?_) fun s2 H2 xs ⟨p, hp, ex, eH⟩ hr' => ?_
  · rw [show ([kx].zip [uv] : List (Str × Value)) = [(kx, uv)] from rfl, hb kV doc pm an cdv ct uc uv ur]
    refine wpAny_bind (wpAny_newTuple (wpAny_pure ?_) hl2)
    have new : ObjOk P w (upd H s.heap.objs.size (.tup rest)) (s.heap.push ({ cls := .type "tuple", data := .seq ur.toArray } : Obj)) s.heap.objs.size (.tup rest) := ⟨hz, ur, rr, ⟨_, Heap.get?_push_size _ rfl, rfl, _, rfl⟩⟩
    have un := StX.un_laid (fs := frs outer) (s := s) (o := ({ cls := .type "tuple", data := .seq ur.toArray } : Obj)) (u := .tup rest) hn
    exact h _ _ [c, v, V.ref s.heap.objs.size] [uc, uv, Value.ref s.heap.objs.size] (StX.env0_laid e0 new) un rfl (fun e s' => hCX outer s H _ _ E e s' un (fun b o q => Heap.get?_push_of_some _ q) rfl) (.cons rc (.cons rv (.cons rfl .nil))) rfl ⟨_, hn, rfl, rfl⟩
  · subst ex eH
    exact hbody cdv A outer s2 _ _ Q E hr' (hq p hp)
theorem fnS_star0 (F : FunD K x qual params body scope [] [(kx, dv)] f fd) (S : FnScope N [p1, kx, pv] scope) (hCX : StX.CXUp CX)
    (hb : ∀ (D : Addr) (doc pm : Value) (an : Option Addr) (cdv ct : Value) (c v : Value) (rest : List Value), ∃ (β γ : Type) (k1 : Option Value → Sem β) (k2 : β → Sem γ) (k3 : γ → Sem (List (Str × Value))) (a : β),
      bindArgs (PySem.W.fnOf x qual params body scope .none (.ref D) doc pm an cdv ct) ⟨c :: rest, []⟩ = ((nsGet D kx >>= k1) >>= k2) >>= k3 ∧ k1 (some v) = pure a ∧ (k2 a >>= k3) = (newTuple rest >>= fun t => pure [(p1, c), (kx, v), (pv, t)]))
    (hbody : ∀ (cdv : Value) (A : Around) (outer : List Env) (s : Shared) (H : Hp) (vs : List V) (Q : VK) (E : XK), Room k (A.deeper (envOfC qual scope s.heap.objs.size f cdv)) → sp vs H Q E →
      ∃ t, PSs (cxOf CX P w K mg base N qual scope f cdv A outer s H E) body t ∧ t { nx := fun _ H' => Q .non H', rt := Q } (start N vs) H) :
    FnS P w K mg base CX (k + 1) f [] (fun vs zs H Q E => ∃ c rest, vs = c :: rest ∧ zs = [] ∧ rest.length ≤ sizeLine ∧ ∀ p, H p = Option.none → sp [c, dv, V.ref p] (upd H p (.tup rest)) Q E) := by
  intro A outer s H us ws vs zs Q E hr e0 r rz hsp
  obtain ⟨c, rest, rfl, rfl, hz, hq⟩ := hsp
  obtain ⟨oc, od, dV, kV, doc, pm, an, cdv, ct, osl, rfl, lk, hcd, hD, hK⟩ := F.ex
  have e : dV = .none := by
    rcases hD with ⟨_, e⟩ | ⟨e, _⟩
    · exact e
    · exact absurd rfl e
  subst e
  rcases hK with e | ⟨D, rfl, hq0⟩
  · cases e
  obtain ⟨uv, hns, rv⟩ := hq0 (kx, dv) (List.mem_singleton.mpr rfl)
  cases rz
  cases r with
  | cons rc rr =>
  rename_i uc ur
  have hn : H s.heap.objs.size = Option.none := e0.hok.fresh (Nat.le_refl _)
  have hl2 : ur.length ≤ sizeLine := by rw [← rr.length]; exact hz
  have KX : K.In s.heap := e0.mod.kin.keeps fun b o e => (e0.bs b o e).1
  refine StX.run_bnd lk hcd S hr e0 (G := fun xs H2 => ∃ p, H p = Option.none ∧ xs = [c, dv, V.ref p] ∧ H2 = upd H p (.tup rest)) (fun A' Ex Q' h => ?_) fun s2 H2 xs ⟨p, hp, ex, eH⟩ hr' => ?_
  · obtain ⟨β, γ, k1, k2, k3, a, e1, e2, e3⟩ := hb D doc pm an cdv ct uc uv ur
    rw [show (([] : List Str).zip ([] : List Value)) = [] from rfl, e1, bind_assoc]
    refine wpAny_bind (wpAny_bind ((PySem.W.looks_nsIn KX hns).here ?_))
    rw [e2]
    refine wpAny_pure ?_
    rw [e3]
    refine wpAny_bind (wpAny_newTuple (wpAny_pure ?_) hl2)
    have new : ObjOk P w (upd H s.heap.objs.size (.tup rest)) (s.heap.push ({ cls := .type "tuple", data := .seq ur.toArray } : Obj)) s.heap.objs.size (.tup rest) := ⟨hz, ur, rr, ⟨_, Heap.get?_push_size _ rfl, rfl, _, rfl⟩⟩
    have un := StX.un_laid (fs := frs outer) (s := s) (o := ({ cls := .type "tuple", data := .seq ur.toArray } : Obj)) (u := .tup rest) hn
    exact h _ _ [c, dv, V.ref s.heap.objs.size] [uc, uv, Value.ref s.heap.objs.size] (StX.env0_laid e0 new) un rfl (fun e s' => hCX outer s H _ _ E e s' un (fun b o q => Heap.get?_push_of_some _ q) rfl) (.cons rc (.cons rv (.cons rfl .nil))) rfl ⟨_, hn, rfl, rfl⟩
  · subst ex eH
    exact hbody cdv A outer s2 _ _ Q E hr' (hq p hp)
end
end L2

set_option maxRecDepth 100000
set_option maxHeartbeats 4000000
namespace L2
open PySem PySem.Spec PyProof.Rows
/-- cls(e, ..), cls a local name that holds the class at C -/
def tMakeL (i : Nat) (C : Addr) (sp : Sp) (E : XK) (t : TA) : TE := fun σ H Q => σ[i]? = some (some (.ref C)) ∧ tMake C sp [] E t σ H Q
section
variable {X : Cx} {CX : CXT} {k i : Nat} {f C : Addr} {ps : List Str} {sp : Sp} {E : XK} {x : Str} {p pos : Pos} {e : Expr} {es : List Expr} {t : TA}
theorem pmkL (O : Ok X.prog X.w X.K X.mg X.base CX k f ps sp) (M : Mk X.K C f) (hr : Room (k + 1) X.A) (hN : X.N[i]? = some x) (hv : Vis X.env.scope x) (hx : Passes CX X E) (ha : PA X (e :: es) t) (hdb : (x == ("__debug__" : Str)) = false := by decide)  (hcd : (x == ("__classdict__" : Str)) = false := by decide)
    (he : starEach (e :: es) X.env = (false, eval e X.env) :: starEach es X.env := by rfl) (hpl : (backTo pos (starEach es X.env)).any (·.1) = false := by rfl) :
    PE X (.Call (.Name x p) (e :: es) [] pos) (tMakeL i C sp E t) := by
  obtain ⟨fd, F, hb, _⟩ := O.ex
  refine ⟨fun pins s σ H Q I h => ?_⟩
  obtain ⟨hs, h⟩ := h
  refine wpAny_Call_Name_kw (thn ((pe_var (pos := p) hN hv hdb hcd).run pins s σ H (fun v H1 => v = .ref C ∧ H1 = H) I ⟨.ref C, hs, rfl, rfl⟩) fun u s1 ⟨v, H1, I1, r1, q1⟩ => ?_)
  obtain ⟨rfl, rfl⟩ := q1
  cases r1
  refine PySem.W.callWith_K (h₀ := X.base) I.ok.mod.kin M.kp (thn (ha.run pos pins s1 σ _ _ I1 h) fun us s2 ⟨vs, H2, I2, r, q⟩ => ⟨I2.kIn, ?_⟩) he hpl
  exact run_make M F hr hb .nil hx I2 r q
end
end L2

set_option maxRecDepth 100000
set_option maxHeartbeats 4000000
/-! # calls and own operators in a try's body -/
namespace L2
open PySem PySem.Spec PyProof.Rows
section
variable {X : Cx} {CX : CXT} {k : Nat} {f C : Addr} {ps : List Str} {sp : Sp} {E : St → XK} {x : Str} {p pos : Pos} {e a b : Expr} {es : List Expr} {ta tb : TE} {t : TA} {op : Operator}
theorem pcS (O : Ok X.prog X.w X.K X.mg X.base CX k f ps sp) (hr : Room k X.A) (hm : X.mg x = some (.ref f)) (hx : ∀ σ, PassesAt CX X σ (E σ)) (ha : PA X (e :: es) t) (hg : Gl X x := by rfl) (hdb : (x == ("__debug__" : Str)) = false := by decide)
    (he : starEach (e :: es) X.env = (false, eval e X.env) :: starEach es X.env := by rfl) (hpl : (backTo pos (starEach es X.env)).any (·.1) = false := by rfl) :
    PE X (.Call (.Name x p) (e :: es) [] pos) (tCallS sp E t) := let ⟨fd, a, b, c⟩ := O.ex; pe_callS a hr hg hm c b hx ha hdb he hpl
/-- a op n in a try's body -/
def tOwnIS (C : Addr) (sp : Sp) (E : St → XK) (ta tb : TE) : TE := fun σ H Q => ta σ H fun x H1 => tb σ H1 fun y H2 => rOwnOpI C sp (E σ) x y H2 Q
theorem peOwnIS (O : Ok X.prog X.w X.K X.mg X.base CX k f ps sp) (W : OwnOpT X.K C op f "int") (hr : Room k X.A) (hx : ∀ σ, PassesAt CX X σ (E σ)) (ha : PE X a ta) (hb : PE X b tb) : PE X (.BinOp a op b pos) (tOwnIS C sp E ta tb) := by
  obtain ⟨fd, F, bn, _⟩ := O.ex
  refine ⟨fun pins s σ H Q I h => wpAny_BinOp (binT ha hb I h fun v u s2 x y H2 I2 rx ry q => ?_)⟩
  obtain ⟨a, dx, fs, n, rfl, rfl, ha, hsp⟩ := q
  cases rx
  obtain ⟨t, rfl⟩ := ry
  obtain ⟨od, J⟩ := inst_of I2.hok ha
  obtain ⟨m, hF⟩ := I2.fr
  obtain ⟨rc, h1, h2⟩ := W.rev
  obtain ⟨fo, h3⟩ := W.tf
  obtain ⟨ro, h4⟩ := W.tr
  refine PySem.W.ksp_binT (T := "int") hF I2.ok.mod.kin J rfl W.first W.at_ W.fn h1 h2 h3 h4 W.sub (wpAny_mono (run_fnS F hr bn (hx σ) I2 (us := [.ref a, .int n t]) (vs := [.ref a, .int n]) (.cons rfl (.cons ⟨t, rfl⟩ .nil)) hsp) (fun r s' q => back_of q) fun _ _ z => z)
end
end L2

set_option maxRecDepth 100000
set_option maxHeartbeats 4000000
/-! # Words of every law: all but the pool, data that are alike, errors that are due -/
namespace L2
open PySem PySem.Spec PyProof.Rows
/-- all but p is as it was -/
def But (p : Addr) (H H' : Hp) : Prop := ∀ b o, b ≠ p → H b = some o → H' b = some o
theorem But.refl (p : Addr) (H : Hp) : But p H H := fun _ _ _ h => h
theorem But.trans {p : Addr} {H H1 H2 : Hp} (a : But p H H1) (b : But p H1 H2) : But p H H2 := fun c o n h => b c o n (a c o n h)
theorem But.set {p : Addr} {H : Hp} {o : HO} : But p H (upd H p o) := fun b u n h => by rw [upd_ne n]; exact h
theorem But.of {p : Addr} {H H' : Hp} (s : Same H H') : But p H H' := fun b o _ h => s b o h
theorem But.sqL {K : PySem.W.Frag} {p a : Addr} {H H' : Hp} {xs : List V} (s : But p H H') (n : a ≠ p) (h : SqL K H a xs) : SqL K H' a xs := by
  rcases h with (h | ⟨o, h⟩) | h
  · exact .inl (.inl (s _ _ n h))
  · exact .inl (.inr ⟨o, s _ _ n h⟩)
  · exact .inr h
theorem yesT {A B : Hp → Prop} {σ : St} {H : Hp} (h : A H) : tYes σ H (fun b H3 => if b = true then A H3 else B H3) := by
  show (if true = true then A H else B H)
  exact iteT h
theorem nope {b : Bool} {A B : Prop} (h : b = false) (k : B) : if b = true then A else B := by
  rw [h]; exact iteF k
theorem yep {b : Bool} {A B : Prop} (h : b = true) (k : A) : if b = true then A else B := by
  rw [h]; exact iteT k
theorem SqT.ty {K : PySem.W.Frag} {H : Hp} {a : Addr} {xs : List V} (h : SqT K H a xs) : TyX K H (.ref a) (.type "tuple") := by
  rcases h with (h | ⟨o, h⟩) | ⟨o, its, n, h, c, _⟩
  · exact .base (.tup h)
  · exact .fTuple h
  · exact .kTuple h c
theorem SqL.ty {K : PySem.W.Frag} {H : Hp} {a : Addr} {xs : List V} (h : SqL K H a xs) : TyX K H (.ref a) (.type "list") := by
  rcases h with (h | ⟨o, h⟩) | ⟨o, its, n, h, c, _⟩
  · exact .base (.lst h)
  · exact .base (.frz h)
  · exact .kList h c
/-- None, a bool, a number, a text -/
inductive Atom : V → Prop where
  | non : Atom .non
  | bl (b : Bool) : Atom (.bl b)
  | int (i : Int) : Atom (.int i)
  | str (z : Str) : Atom (.str z)
/-- x and y are the same data, at most n deep -/
def Eqd (K : PySem.W.Frag) : Nat → Hp → V → V → Prop
  | 0, _, x, y => x = y ∧ Atom x
  | n + 1, H, x, y => (x = y ∧ Atom x) ∨ (∃ a b xs ys, x = .ref a ∧ y = .ref b ∧ ((SqT K H a xs ∧ SqT K H b ys) ∨ (SqL K H a xs ∧ SqL K H b ys)) ∧ xs.length = ys.length ∧ xs.length ≤ sizeLine ∧ ∀ (i : Nat) (u v : V), xs[i]? = some u → ys[i]? = some v → Eqd K n H u v)
theorem Eqd.atom {K : PySem.W.Frag} {n : Nat} {H : Hp} {x : V} (h : Atom x) : Eqd K n H x x := by
  cases n with
  | zero => exact ⟨rfl, h⟩
  | succ n => exact .inl ⟨rfl, h⟩
theorem Eqd.same {K : PySem.W.Frag} : ∀ {n : Nat} {H H' : Hp} {x y : V}, Eqd K n H x y → Same H H' → Eqd K n H' x y := by
  intro n
  induction n with
  | zero => intro H H' x y h _; exact h
  | succ n ih =>
    intro H H' x y h s
    rcases h with h | ⟨a, b, xs, ys, e1, e2, h, hl, hz, hi⟩
    · exact .inl h
    · exact .inr ⟨a, b, xs, ys, e1, e2, h.imp (fun z => ⟨s.seqT z.1, s.seqT z.2⟩) (fun z => ⟨s.seq z.1, s.seq z.2⟩), hl, hz, fun i u v h1 h2 => ih (hi i u v h1 h2) s⟩
theorem Eqd.ints {K : PySem.W.Frag} {n : Nat} {H : Hp} {ns : List Int} : ∀ (i : Nat) (u v : V), (ns.map V.int)[i]? = some u → (ns.map V.int)[i]? = some v → Eqd K n H u v := fun i u v h1 h2 => by
  obtain ⟨x, _, rfl⟩ := map_get h1
  rw [h1] at h2
  cases h2
  exact .atom (.int x)
theorem But.fresh {p : Addr} {o : HO} {H H' : Hp} (hn : H p = none) (bt : But p (upd H p o) H') : Same H H' := fun b u e => by
  have nb : b ≠ p := fun z => by rw [z, hn] at e; cases e
  exact bt b u nb (by rw [upd_ne nb]; exact e)
theorem But.seqT {K : PySem.W.Frag} {p a : Addr} {H H' : Hp} {xs ps : List V} (s : But p H H') (hp : H p = some (.lst ps)) (h : SqT K H a xs) : SqT K H' a xs := by
  rcases h with (h | ⟨o, h⟩) | h
  · exact .inl (.inl (s _ _ (fun z => by rw [z, hp] at h; cases h) h))
  · exact .inl (.inr ⟨o, s _ _ (fun z => by rw [z, hp] at h; cases h) h⟩)
  · exact .inr h
/-- an error of class C with the dict o is raised over a heap that has grown -/
def Rs (C : Addr) (o : HO) (H : Hp) (E : XK) : Prop := ∀ H' d, Same H H' → H' d = none → E (.ref C) (some d) (upd H' d o)
theorem Rs.now {C : Addr} {o : HO} {H : Hp} {E : XK} (h : Rs C o H E) (d : Addr) (hd : H d = none) : E (.ref C) (some d) (upd H d o) := h H d (.refl _) hd
theorem Rs.same {C : Addr} {o : HO} {H H' : Hp} {E : XK} (h : Rs C o H E) (s : Same H H') : Rs C o H' E := fun H2 d s2 hd => h H2 d (s.trans s2) hd
theorem passF {X : Cx} : Passes (L2.CX X.prog X.w) X (fun _ _ _ => False) := passes_call takes0 (fun _ _ _ _ h => h)
theorem sL {n : Nat} (h : n ≤ 1000) : n ≤ sizeLine := by rw [sizeLine_eq]; omega
theorem Eqd.row {K : PySem.W.Frag} {n : Nat} {H : Hp} {a b : Addr} {ns : List Int} (h : (SqT K H a (ns.map V.int) ∧ SqT K H b (ns.map V.int)) ∨ (SqL K H a (ns.map V.int) ∧ SqL K H b (ns.map V.int))) (l : ns.length ≤ 1000) : Eqd K (n + 1) H (.ref a) (.ref b) :=
  .inr ⟨a, b, _, _, rfl, rfl, h, rfl, by rw [List.length_map]; exact sL l, Eqd.ints⟩
theorem mod_lt {a m : Int} (h : 0 < m) : 0 ≤ a.fmod m ∧ a.fmod m < m := by
  rw [Int.fmod_eq_emod_of_nonneg a (by omega)]
  exact ⟨Int.emod_nonneg _ (by omega), Int.emod_lt_of_pos _ h⟩
/-- a law's pool of draws -/
def PoolOk (st : List V) : Prop := ∃ a b c : Int, st = [.int a, .int b, .int c] ∧ 0 ≤ b ∧ b < 2147483648
end L2

set_option maxRecDepth 100000
set_option maxHeartbeats 4000000
/-! # len(obj) of an own class -/
namespace L2
open PySem PySem.Spec PyProof.Rows
section
variable {X : Cx} {CX : CXT} {C f : Addr} {ps : List Str} {sp : Sp} {E : XK} {k : Nat}
/-- len(a), a of a class with __len__, which gives a number below 2 ^ 62 -/
def rOwnLenW (C : Addr) (sp : Sp) (E : XK) : List V → Hp → VK → Prop := fun xs H Q => ∃ a dx fs, xs = [.ref a] ∧ H a = some (.ins C dx fs) ∧ sp [.ref a] H (fun v H' => ∃ n : Nat, v = .int (n : Nat) ∧ n < 2 ^ 62 ∧ Q v H') E
theorem cLen (O : Ok X.prog X.w X.K X.mg X.base CX k f ps sp) (W : PySem.W.findIn X.K (.ref C) "__len__" = some (some (.ref f)) ∧ PySem.W.isFn X.K (.ref f) = true) (hr : Room (k + 1) X.A) (hx : Passes CX X E) : CallR X (.builtin "len") (rOwnLenW C sp E) := by
  obtain ⟨fd, F, hb, _⟩ := O.ex
  intro pins s σ H xs us Q I r h
  obtain ⟨a, dx, fs, rfl, ha, hsp⟩ := h
  cases r with
  | cons r rr =>
  cases rr
  cases r
  obtain ⟨od, J⟩ := inst_of I.hok ha
  obtain ⟨m, hF⟩ := I.fr
  refine PySem.W.len_K hF I.ok.mod.kin J W.1 W.2 (wpAny_mono (run_fnA F hb hr.in1 I.env0.in1 hx I (us := [.ref a]) (vs := [.ref a]) (.cons rfl .nil) hsp) (fun v s' q => ?_) fun _ _ z => z)
  obtain ⟨x, H', I', rx, n, rfl, hn, q⟩ := q
  obtain ⟨t, rfl⟩ := rx
  exact ⟨⟨by omega, by omega⟩, .int (n : Nat), H', I'.tok _, ⟨_, rfl⟩, q⟩
/-- a def called within a built-in's call, in a try's body -/
theorem run_fnAS {E : St → XK} {fd : FuncData} {A : Around} {pins : List (Addr × Obj)} {σ : St} {H : Hp} {s : Shared} {Q : VK} {us : List Value} {vs : List V} (F : FnOk X.prog X.w X.K X.mg X.base CX k f fd ps sp) (hb : Binds X.K fd ps []) (hr : Room k A) (e0 : Env0 X.prog X.w X.K X.mg X.base A X.stack s H) (hx : PassesAt CX X σ (E σ))
    (I : Inv X pins σ H s) (r : Vals vs us) (h : sp vs H Q (E σ)) : wpAny (model X.prog X.w) A (call (.ref f) us) (EP X pins σ Q) X.xe s := by
  have hl : us.length = ps.length := r.length.symm.trans (F.len _ _ _ _ h)
  have B : BindsTo s fd ⟨us, []⟩ (ps.zip us) := by
    have := hb s us I.kIn (by rw [List.append_nil]; exact hl)
    rwa [List.append_nil] at this
  refine wpAny_call (codeAny_mono (F.run A X.stack s H ⟨us, []⟩ us vs Q (E σ) hr e0 B r h) fun r s' hq => ?_)
  cases r with
  | error e => exact hx pins H s e s' I hq
  | ok fl =>
    cases fl with
    | ret u => exact I.after hq
    | next => exact hq.elim
    | brk => exact hq.elim
    | cont => exact hq.elim
/-- a[i], a of a class with __getitem__, i a number; E may hang on the slots (a try's body) -/
def tOwnIx (C : Addr) (sp : Sp) (E : St → XK) (ta tb : TE) : TE := fun σ H Q => ta σ H fun x H1 => tb σ H1 fun y H2 => ∃ p dx fs i, x = .ref p ∧ y = .int i ∧ H2 p = some (.ins C dx fs) ∧ sp [.ref p, .int i] H2 Q (E σ)
structure OwnIx (K : PySem.W.Frag) (C f : Addr) : Prop where
  at_ : PySem.W.findIn K (.ref C) "__getitem__" = some (some (.ref f))
  fi : PySem.W.fnIn K f = true
  fn : PySem.W.isFn K (.ref f) = true
theorem peOwnIx {E : St → XK} {a b : Expr} {ta tb : TE} {pos : Pos} (O : Ok X.prog X.w X.K X.mg X.base CX k f ps sp) (W : OwnIx X.K C f) (hr : Room (k + 1) X.A) (hx : ∀ σ, PassesAt CX X σ (E σ)) (ha : PE X a ta) (hb : PE X b tb)
    (hsl : ∀ (p : Addr) (i : Value), subscripted b true (.ref p) i = runValue (.builtin "lifetime.subscript" ⟨[.ref p, i], []⟩) := by intro _ _; with_unfolding_all rfl) : PE X (.Subscript a b pos) (tOwnIx C sp E ta tb) := by
  obtain ⟨fd, F, bn, _⟩ := O.ex
  refine ⟨fun pins s σ H Q I h => Subscript_ (binT ha hb I h fun v u s2 x y H2 I2 rx ry q => ?_)⟩
  obtain ⟨p, dx, fs, i, rfl, rfl, hp, hsp⟩ := q
  cases rx
  obtain ⟨t, rfl⟩ := ry
  obtain ⟨od, J⟩ := inst_of I2.hok hp
  obtain ⟨m, hF⟩ := I2.fr
  exact PySem.W.sub_K hF I2.ok.mod.kin J W.at_ W.fi W.fn (run_fnAS F bn hr.in1 I2.env0.in1 (hx σ) I2 (us := [.ref p, .int i t]) (vs := [.ref p, .int i]) (.cons rfl (.cons ⟨t, rfl⟩ .nil)) hsp) (hsl p _)
/-- outside a try -/
theorem atP {E : XK} (h : Passes CX X E) : ∀ σ : St, PassesAt CX X σ E := fun σ pins H s e s' I c => h pins σ H s e s' I c
end
end L2

set_option maxRecDepth 100000
set_option maxHeartbeats 4000000
/-! # obj == x, obj < x: an own class's comparison with a value of any of four kinds -/
namespace L2
open PySem PySem.Spec PyProof.Rows
/-- what the right side may be, and its type -/
inductive CmpTy (K : PySem.W.Frag) (H : Hp) : V → Value → Prop
  | int (n : Int) : CmpTy K H (.int n) (.type "int")
  | lst {a : Addr} {xs : List V} (h : SqL K H a xs) : CmpTy K H (.ref a) (.type "list")
  | tup {a : Addr} {xs : List V} (h : SqT K H a xs) : CmpTy K H (.ref a) (.type "tuple")
  | own {a C dx : Addr} {fs : List (Str × V)} (h : H a = some (.ins C dx fs)) : CmpTy K H (.ref a) (.ref C)
theorem CmpTy.looks {X : Cx} {pins : List (Addr × Obj)} {σ : St} {H : Hp} {s : Shared} {y : V} {u tb : Value} (I : Inv X pins σ H s) (c : CmpTy X.K H y tb) (r : RelV y u) : PySem.W.Looks (model X.prog X.w) s.heap (typeOf u) tb := by
  cases c with
  | int n => obtain ⟨t, rfl⟩ := r; exact PySem.W.Looks.of_pure rfl
  | lst h =>
    cases r
    obtain ⟨its, _, p, _⟩ := I.list h
    obtain ⟨o, ho, hc, _⟩ := p.isList
    exact fun A Q E s' k q => wpAny_typeOf_ref (k _ _ ho) (by rw [hc]; exact q)
  | tup h =>
    cases r
    obtain ⟨its, _, ⟨o, ho, hc, _⟩, _⟩ := I.tuple h
    exact fun A Q E s' k q => wpAny_typeOf_ref (k _ _ ho) (by rw [hc]; exact q)
  | own h =>
    cases r
    obtain ⟨od, J⟩ := inst_of I.hok h
    exact J.type
/-- a op y, a of the class at C, whose def for op is at f -/
structure OwnCmp (K : PySem.W.Frag) (C : Addr) (op : CmpOp) (f : Addr) (tb : Value) : Prop where
  at_ : PySem.W.findIn K (.ref C) (cmpInfo op).2.1 = some (some (.ref f))
  fn : PySem.W.isFn K (.ref f) = true
  nf : PySem.W.notFirst K C tb = true
def rOwnCmp (K : PySem.W.Frag) (C : Addr) (tb : Value) (sp : Sp) (E : XK) : R2 := fun x y H Q => ∃ a dx fs, x = .ref a ∧ H a = some (.ins C dx fs) ∧ CmpTy K H y tb ∧ sp [.ref a, y] H Q E
section
variable {X : Cx} {CX : CXT} {C f : Addr} {ps : List Str} {sp : Sp} {E : XK} {k : Nat}
theorem oCmp {op : CmpOp} {tb : Value} (hop : ∀ a b, compareOp op a b = richCompare op a b) (O : Ok X.prog X.w X.K X.mg X.base CX k f ps sp) (W : OwnCmp X.K C op f tb) (hr : Room k X.A) (hx : Passes CX X E) : OpR X (compareOp op) (rOwnCmp X.K C tb sp E) := by
  obtain ⟨fd, F, hb, _⟩ := O.ex
  intro pins s σ H x y v u Q I rx ry h
  obtain ⟨a, dx, fs, rfl, ha, ct, hsp⟩ := h
  cases rx
  obtain ⟨od, J⟩ := inst_of I.hok ha
  obtain ⟨m, hF⟩ := I.fr
  rw [hop]
  exact PySem.W.cmp_K (op := op) hr.units0 hF I.ok.mod.kin J (ct.looks I ry) W.nf W.at_ W.fn (wpAny_mono (run_fn F hr hb .nil hx I (us := [.ref a, u]) (vs := [.ref a, y]) (.cons rfl (.cons ry .nil)) hsp) (fun r s' q => back_of q) fun _ _ z => z)
/-- xs[i] as it is read in xs[i] += n, 0 ≤ i -/
def gIxL (K : PySem.W.Frag) : V → V → Hp → VK → Prop := fun o i H Q => ∃ p xs j v, o = .ref p ∧ i = .int ((j : Nat) : Int) ∧ SqL K H p xs ∧ xs[j]? = some v ∧ Q v H
theorem get_list : PGet X (gIxL X.K) := by
  intro pins s σ H o i ov iv Q I ro ri h
  obtain ⟨p, xs, j, v, rfl, rfl, hp, hj, q⟩ := h
  cases ro
  obtain ⟨t, rfl⟩ := ri
  obtain ⟨its, r, pl, hz⟩ := I.list hp
  obtain ⟨w, ew, rw'⟩ := r.get hj
  have hl := r.length
  have lt : j < xs.length := (List.getElem?_eq_some_iff.mp hj).1
  have hn := line63
  exact wpAny_getItem_list pl.isList (by omega) (by omega) (by rw [Int.toNat_natCast]; simpa using ew) ⟨v, H, I, rw', q⟩
end
end L2

set_option maxRecDepth 100000
set_option maxHeartbeats 4000000
namespace FC
open PySem PySem.W PySem.Calls PyProof.Rows He He5 HX
def cmpB (K : Frag) (C : Addr) (op : CmpOp) (f : Addr) (tb : Value) : Bool := eqO (findIn K (.ref C) (cmpInfo op).2.1) (some (some (.ref f))) && (isFn K (.ref f) && notFirst K C tb)
theorem cmp_ok {K : Frag} {C f : Addr} {op : CmpOp} {tb : Value} (h : cmpB K C op f tb = true) : L2.OwnCmp K C op f tb := by
  obtain ⟨h1, h⟩ := ba h
  obtain ⟨h2, h3⟩ := ba h
  exact ⟨eqO_ok h1, h2, h3⟩
def ixB (K : Frag) (C f : Addr) : Bool := eqO (findIn K (.ref C) "__getitem__") (some (some (.ref f))) && (fnIn K f && isFn K (.ref f))
theorem ix_ok {K : Frag} {C f : Addr} (h : ixB K C f = true) : L2.OwnIx K C f := by
  obtain ⟨h1, h⟩ := ba h
  obtain ⟨h2, h3⟩ := ba h
  exact ⟨eqO_ok h1, h2, h3⟩
end FC

set_option maxRecDepth 100000
set_option maxHeartbeats 4000000
/-! # obj.m(e, .., k = v) -/
namespace L2
open PySem PySem.Spec PyProof.Rows
def tMethN (C : Addr) (m : Str) (n mm : Nat) (sp : Sp) (gV : List V → List V → List V) (E : XK) (ta : TE) (t tk : TA) : TE := fun σ H Q => ta σ H fun x H1 => ∃ a dx fs, x = .ref a ∧ H1 a = some (.ins C dx fs) ∧ fs.lookup m = none ∧
  t σ H1 fun vs H2 => tk σ H2 fun zs H3 => vs.length = n ∧ zs.length = mm ∧ sp (gV (.ref a :: vs) zs) H3 Q E
theorem pe_methN {X : Cx} {CX : CXT} {k n : Nat} {f C : Addr} {fd : FuncData} {ps ks : List Str} {sp : Sp} {E : XK} {m : Str} {o e : Expr} {es : List Expr} {kws : List Keyword} {ta : TE} {t tk : TA} {apos pos : Pos} {pl : Sem Bool} {g : List Value → List Value → List Value} {gV : List V → List V → List V}
    (he : PE X o ta) (c : Cls X.K C) (hm : Meth X.K C m f) (F : FnOk X.prog X.w X.K X.mg X.base CX k f fd ps sp) (hr : Room k X.A) (hb : KBn X.K fd ps (n + 1) ks g gV) (hx : Passes CX X E) (ha : PA X (e :: es) t) (hkw : PK X kws tk)
    (hall : (backToKw pos (keywordEach kws X.env)).all (·.1.isSome) = true := by rfl) (hks : (backToKw pos (keywordEach kws X.env)).filterMap (·.1) = ks := by rfl)
    (hst : starEach (e :: es) X.env = (false, eval e X.env) :: starEach es X.env := by rfl) (hpl : ((backTo pos (starEach (e :: es) X.env)).any (·.1) || (backToKw pos (keywordEach kws X.env)).any (·.1.isNone)) = false := by rfl)
    (ht : eval (.Call (.Attribute o m apos) (e :: es) kws pos) X.env = (do
      let ov ← eval o X.env
      standAt apos.atName
      let (f, first) ← holding [ov] (getMethod ov m pl)
      callWith pos f first (backTo pos (starEach (e :: es) X.env)) (backToKw pos (keywordEach kws X.env))) := by rfl) :
    PE X (.Call (.Attribute o m apos) (e :: es) kws pos) (tMethN C m n ks.length sp gV E ta t tk) := by
  refine ⟨fun pins s σ H Q I h => ?_⟩
  refine PySem.W.methodCall_KW (pl := pl) (thn (he.run pins s σ H _ I h) fun u s1 ⟨x, H1, I1, rx, a, dx, fs, ex, ea, l, q⟩ => ?_) ht
  subst ex
  obtain rfl : u = Value.ref a := rx
  refine getmeth_ok I1 ea c hm l ?_
  refine PySem.W.callWith_KW (first := [.ref a]) (h₀ := X.base) I.ok.mod.kin hm.kp hall (thn (ha.run pos pins s1 σ H1 _ I1 q) fun us s2 ⟨vs, H2, I2, r, q2⟩ => ?_) hpl hst
  refine thn (hkw.run pos pins s2 σ H2 _ I2 q2) fun ws s3 ⟨zs, H3, I3, rz, l1, l2, q3⟩ => ⟨I3.kIn, ?_⟩
  rw [hks]
  exact run_fnN (us := .ref a :: us) (vs := .ref a :: vs) F hr hb hx I3 (.cons rfl r) rz (congrArg Nat.succ l1) l2 q3
end L2

set_option maxRecDepth 100000
set_option maxHeartbeats 4000000
/-! # Properties as facts; obj.m(k = v), C.m(a, .., k = v), cls(a, .., k = v) -/
namespace L2
open PySem PySem.Spec PyProof.Rows
def propObj (K : PySem.W.Frag) (C : Addr) (f : Str) : Addr := match PySem.W.findIn K (.ref C) f with
  | some (some (.ref p)) => p
  | _ => 0
def propAt (K : PySem.W.Frag) (C : Addr) (f : Str) : Addr := match PySem.W.recIn K (propObj K C f) "property" with
  | some (.ref g :: _) => g
  | _ => 0
def propB (K : PySem.W.Frag) (C : Addr) (f : Str) : Bool :=
  decide (PySem.W.findIn K (.ref C) f = some (some (.ref (propObj K C f)))) && (decide (PySem.W.specialIn K (.ref (propObj K C f)) "__get__" = some (some (.builtin "property.__get__"))) &&
    (decide (PySem.W.takesIn K (.ref (propObj K C f)) = some true) && (match PySem.W.recIn K (propObj K C f) "property" with
      | some (.ref _ :: _) => true
      | _ => false)))
theorem prop_ok {K : PySem.W.Frag} {C : Addr} {f : Str} (h : propB K C f = true) : PropOf K C f (propObj K C f) (propAt K C f) := by
  unfold propB at h
  simp only [Bool.and_eq_true, decide_eq_true_eq] at h
  obtain ⟨h1, h2, h3, h4⟩ := h
  refine ⟨h1, h2, h3, ?_⟩
  unfold propAt
  split at h4
  · rename_i g rest e
    exact ⟨rest, by rw [e]⟩
  · cases h4
section
variable {X : Cx} {CX : CXT} {k n i : Nat} {f C : Addr} {fd : FuncData} {ps ks : List Str} {sp : Sp} {E : XK} {x m : Str} {o e : Expr} {es : List Expr} {kws : List Keyword} {ta : TE} {t tk : TA} {p apos pos : Pos} {pl : Sem Bool} {g : List Value → List Value → List Value} {gV : List V → List V → List V}
/-- o.m(k = v, ..) -/
theorem pe_methN0 (he : PE X o ta) (c : Cls X.K C) (hm : Meth X.K C m f) (F : FnOk X.prog X.w X.K X.mg X.base CX k f fd ps sp) (hr : Room k X.A) (hb : KBn X.K fd ps 1 ks g gV) (hx : Passes CX X E) (hkw : PK X kws tk)
    (hall : (backToKw pos (keywordEach kws X.env)).all (·.1.isSome) = true := by rfl) (hks : (backToKw pos (keywordEach kws X.env)).filterMap (·.1) = ks := by rfl)
    (hpl : ((backTo pos (starEach [] X.env)).any (·.1) || (backToKw pos (keywordEach kws X.env)).any (·.1.isNone)) = false := by rfl)
    (ht : eval (.Call (.Attribute o m apos) [] kws pos) X.env = (do
      let ov ← eval o X.env
      standAt apos.atName
      let (f, first) ← holding [ov] (getMethod ov m pl)
      callWith pos f first (backTo pos (starEach [] X.env)) (backToKw pos (keywordEach kws X.env))) := by rfl) :
    PE X (.Call (.Attribute o m apos) [] kws pos) (tMethN C m 0 ks.length sp gV E ta tNil tk) := by
  refine ⟨fun pins s σ H Q I h => ?_⟩
  refine PySem.W.methodCall_KW (pl := pl) (thn (he.run pins s σ H _ I h) fun u s1 ⟨y, H1, I1, rx, a, dx, fs, ex, ea, l, q⟩ => ?_) ht
  subst ex
  obtain rfl : u = Value.ref a := rx
  refine getmeth_ok I1 ea c hm l ?_
  refine PySem.W.callWith_KW0 (first := [.ref a]) (h₀ := X.base) I.ok.mod.kin hm.kp hall ?_ hpl
  refine thn (hkw.run pos pins s1 σ H1 _ I1 q) fun ws s3 ⟨zs, H3, I3, rz, l1, l2, q3⟩ => ⟨I3.kIn, ?_⟩
  rw [hks]
  exact run_fnN (us := [.ref a]) (vs := [.ref a]) F hr hb hx I3 (.cons rfl .nil) rz rfl l2 q3
/-- cls(e, .., k = v), cls a local name that holds the class at C -/
def tMakeLK (i : Nat) (C : Addr) (n m : Nat) (sp : Sp) (gV : List V → List V → List V) (E : XK) (t tk : TA) : TE := fun σ H Q => σ[i]? = some (some (.ref C)) ∧ tMakeK C n m sp gV E t tk σ H Q
theorem pmkLK (M : Mk X.K C f) (F : FnOk X.prog X.w X.K X.mg X.base CX k f fd ps sp) (hr : Room (k + 1) X.A) (hN : X.N[i]? = some x) (hv : Vis X.env.scope x) (hb : KBn X.K fd ps (n + 1) ks g gV) (hx : Passes CX X E) (ha : PA X (e :: es) t) (hkw : PK X kws tk)
    (hall : (backToKw pos (keywordEach kws X.env)).all (·.1.isSome) = true := by rfl) (hks : (backToKw pos (keywordEach kws X.env)).filterMap (·.1) = ks := by rfl) (hdb : (x == ("__debug__" : Str)) = false := by decide) (hcd : (x == ("__classdict__" : Str)) = false := by decide)
    (he : starEach (e :: es) X.env = (false, eval e X.env) :: starEach es X.env := by rfl) (hpl : ((backTo pos (starEach (e :: es) X.env)).any (·.1) || (backToKw pos (keywordEach kws X.env)).any (·.1.isNone)) = false := by rfl) :
    PE X (.Call (.Name x p) (e :: es) kws pos) (tMakeLK i C n ks.length sp gV E t tk) := by
  refine ⟨fun pins s σ H Q I h => ?_⟩
  obtain ⟨hs, h⟩ := h
  refine wpAny_Call_Name_kw (thn ((pe_var (pos := p) hN hv hdb hcd).run pins s σ H (fun v H1 => v = .ref C ∧ H1 = H) I ⟨.ref C, hs, rfl, rfl⟩) fun u s1 ⟨v, H1, I1, r1, q1⟩ => ?_)
  obtain ⟨rfl, rfl⟩ := q1
  cases r1
  refine PySem.W.callWith_KW (h₀ := X.base) I.ok.mod.kin M.kp hall (thn (ha.run pos pins s1 σ _ _ I1 h) fun us s2 ⟨vs, H2, I2, r, q⟩ => ?_) hpl he
  refine thn (hkw.run pos pins s2 σ H2 _ I2 q) fun ws s3 ⟨zs, H3, I3, rz, l1, l2, q2⟩ => ⟨I3.kIn, ?_⟩
  rw [hks]
  exact run_makeK M F hr hb hx I3 r rz l1 l2 q2
end
/-- a def with keywords, as a classmethod's def -/
theorem fnS_of {P : Program} {w : World} {K : PySem.W.Frag} {mg : Str → Option Value} {base : Heap} {CX : CXT} {k n : Nat} {f : Addr} {fd : FuncData} {ps ks : List Str} {sp : Sp} {g : List Value → List Value → List Value} {gV : List V → List V → List V} (F : FnOk P w K mg base CX k f fd ps sp) (hb : KBn K fd ps n ks g gV) :
    FnS P w K mg base CX k f ks (fun vs zs H Q E => vs.length = n ∧ zs.length = ks.length ∧ sp (gV vs zs) H Q E) := by
  intro A outer s H us ws vs zs Q E hr e0 r rz h
  obtain ⟨l1, l2, h⟩ := h
  have KX : K.In s.heap := e0.mod.kin.keeps fun b o e => (e0.bs b o e).1
  exact F.run A outer s H ⟨us, ks.zip ws⟩ (g us ws) (gV vs zs) Q E hr e0 (hb.to s us ws KX (r.length.symm.trans l1) (rz.length.symm.trans l2)) (hb.rel r rz) h
end L2

set_option maxRecDepth 100000
set_option maxHeartbeats 4000000
/-! # max(xs, default=d), min(xs, default=d) of a list of numbers -/
namespace L2
open PySem PySem.W PySem.Spec PyProof.Rows
section
variable {prog : Program} {w : World} {A : Around} {E : Value → Shared → Prop} {s : Shared} {l : Addr} {its : List Value} {ns : List Int} {d : Value} {Q : Value → Shared → Prop}
theorem maxD_raw (hh : A.handled = none) (hl : s.heap.IsList l its.toArray) (hi : IntsAre its ns)
    (h0 : ns = [] → ∀ h' tk, (∀ b o, s.heap.get? b = some o → h'.get? b = some o) → Q d { s with heap := h', toks := tk })
    (h : ∀ h' tk M t', (∀ b o, s.heap.get? b = some o → h'.get? b = some o) → M ∈ ns → (∀ a, a ∈ ns → a ≤ M) → Q (.int M t') { s with heap := h', toks := tk }) :
    wpAny (model prog w) A (call (.builtin "max") [.ref l] [(Str.ofString "default", d)]) Q E s := by
  obtain ⟨xs, e⟩ := hi.allInts.items
  have hn : numsOf (intItems xs).toList = ns := by rw [← e]; exact hi.numsOf
  rw [nums_intItems] at hn
  subst hn
  rw [e] at hl
  refine call_max_walkD (iter_listW (A := A.in1) hh hl fun s₂ e2 W st hfp hw hk => ?_)
  refine ⟨_, _, _, _, _, _, _, s.heap, fun i j => decide (numAt xs i > numAt xs j), rfl, W, st, hfp, hw, hk, fun hz s' m => ?_, fun hp => ⟨fun i j vi vj s Q E _ a b c => CmpOf.ints_gt (prog := prog) (w := w) (A := A.in1) (P := fun i v => (intItems xs)[i]? = some v) (numAt xs) (fun _ _ => intItems_at) i j vi vj s Q E a b c, fun v s' hP m => ?_⟩⟩
  · obtain ⟨h', tk, rfl, hk'⟩ := moved_old e2 rfl m
    have z : xs.size = 0 := by simpa [intItems] using hz
    exact h0 (by rw [List.map_eq_nil_iff]; exact List.eq_nil_of_length_eq_zero (by rw [Array.length_toList]; exact z)) h' tk hk'
  · obtain ⟨h', tk, rfl, hk'⟩ := moved_old e2 rfl m
    have hsz : 0 < xs.size := by simpa [intItems] using hp
    have hP' : (intItems xs)[argBest (fun i j => decide (numAt xs i > numAt xs j)) (xs.size - 1)]? = some v := by simpa [intItems] using hP
    obtain ⟨t, rfl⟩ := intItems_at hP'
    obtain ⟨h1, h2⟩ := argBest_gt (numAt xs) (xs.size - 1)
    refine h h' tk _ t hk' ?_ fun a ha => ?_
    · rw [numAt_eq]; exact PySem.getD_mem (by rw [List.length_map, Array.length_toList]; omega)
    · obtain ⟨j, hj, rfl⟩ := mem_getD ha
      rw [List.length_map, Array.length_toList] at hj
      rw [← numAt_eq]; exact h2 j (by omega)
end
section
variable {X : Cx}
def rMaxD0 (K : PySem.W.Frag) : List V → List V → Hp → VK → Prop := fun vs zs H Q => ∃ (a : Addr) (ns : List Int) (d : Int), vs = [V.ref a] ∧ zs = [V.int d] ∧ SqL K H a (ns.map V.int) ∧ ∀ m, (ns = [] ∧ m = d) ∨ (m ∈ ns ∧ ∀ y, y ∈ ns → y ≤ m) → Q (.int m) H
/-- max(xs, default=d) of a list of ints -/
theorem cr_maxD0 (hc : X.calm = true) : CallRK X (.builtin "max") [Str.ofString "default"] (rMaxD0 X.K) := by
  intro pins s σ H vs zs us ws Q I r rz h
  obtain ⟨a, ns, d, rfl, rfl, hs, q⟩ := h
  obtain ⟨its, rv, hl, _⟩ := I.list hs
  obtain rfl := Vals.ref1 r
  obtain ⟨w1, rfl, e1⟩ := vals1 rz
  refine maxD_raw (I.ok.hd hc) hl.isList rv.ints (fun z h' tk hk => ⟨.int d, H, I.kept hk, e1, q d (.inl ⟨z, rfl⟩)⟩) fun h' tk m t' hk h1 h2 => ⟨.int _, H, I.kept hk, ⟨_, rfl⟩, q m (.inr ⟨h1, h2⟩)⟩
end
end L2

set_option maxRecDepth 100000
set_option maxHeartbeats 4000000
/-! # isinstance(e, (C, D, ..)) in a suite, e an error with a dict -/
namespace L2
open PySem PySem.Spec PyProof.Rows
def rIsDT (K : PySem.W.Frag) (D a : Addr) (d : Option Addr) : List V → Hp → VK → Prop := fun xs H Q => ∃ (tp : Addr) (cs : List V) (ws : List Value) (b : Bool) (dd : Addr) (fs : List (Str × V)), xs = [.ref a, .ref tp] ∧ H tp = some (.tup cs) ∧ Paired ClsV cs ws ∧ d = some dd ∧ H dd = some (.xd fs) ∧ PySem.W.kitAny K (.ref D) ws = some b ∧ Q (.bl b) H
theorem call_isDT {X : Cx} {a D : Addr} {d : Option Addr} {oe : Obj} {pn : List (Addr × Obj)} {cls : Value} (C : ExcC X.K D) (hz : Zc cls d oe) (hf : ∃ vs, oe.data = .fields vs) :
    CallR (X.suite a ((a, oe) :: pn)) (.builtin "isinstance") (fun xs H Q => cls = .ref D ∧ rIsDT X.K D a d xs H Q) := by
  intro pins s σ H xs us Q I r h
  obtain ⟨rfl, tp, cs, ws, b, dd, fs, rfl, hT, k, rfl, ea, e, q⟩ := h
  obtain ⟨u1, u2, rfl, r1, r2⟩ := vals2 r
  cases (show u2 = Value.ref tp from r2)
  cases (show u1 = Value.ref a from r1)
  obtain ⟨_, its, rv, o, h1, h2, n, h3⟩ := (show ObjOk X.prog X.w H s.heap tp (.tup cs) from I.hok tp _ hT)
  have e3 := ClsV.all k rv
  subst e3
  obtain ⟨oc, ot, dt, sl⟩ := o
  simp only at h2 h3
  subst h2 h3
  obtain ⟨hget, _⟩ := I.pin (a, oe) (List.mem_append.mpr (.inl List.mem_cons_self))
  obtain ⟨vs, hv⟩ := hf
  obtain ⟨mA, hns, hr⟩ := (show ObjOk X.prog X.w H s.heap dd (.xd fs) from I.hok dd _ ea)
  obtain ⟨od, ho, _⟩ := lookIn_ns hns
  have J : PySem.W.InstAt s.heap a oe D (some od) := ⟨hget, hz.1, by unfold PySem.W.notCls; rw [hv] <;> rfl, by rw [hz.2]; exact ho⟩
  exact PySem.W.kia_tup (EI.kit_exc C) I.kIn J h1 e (fun z => nomatch z) fun tk => ⟨.bl b, H, I.kept (t' := tk) fun _ _ z => z, rfl, q⟩
theorem kn_nil {K : PySem.W.Frag} {t : Value} : PySem.W.kitAny K t [] = some false := rfl
theorem kn_cons {K : PySem.W.Frag} {t c : Value} {cs : List Value} (h : PySem.W.kitOne K t c = some false) (r : PySem.W.kitAny K t cs = some false) : PySem.W.kitAny K t (c :: cs) = some false := by
  rw [PySem.W.kitAny, h]
  exact r
end L2

set_option maxRecDepth 100000
set_option maxHeartbeats 0
namespace K34
open PySem PySem.W PySem.Spec PySem.Calls PyProof.Rows L2 He He5 HX
/-! ### the text by its places -/
abbrev PG : Program := PySem.Challenge.pw_nightsoff_k34_row_allows
def topS (i : Nat) : Stmt := PG.main.body.getD i (.Pass ⟨0, 0, 0, 0⟩)
abbrev s_wall : Stmt := topS 0
abbrev s_check_count : Stmt := topS 10
abbrev s_check_number : Stmt := topS 11
abbrev s_check_numbers : Stmt := topS 12
abbrev s_check_not_negative : Stmt := topS 13
abbrev s_Telling_init : Stmt := inClass (topS 16) 0
abbrev s_Telling_len : Stmt := inClass (topS 16) 1
abbrev s_Telling_iter : Stmt := inClass (topS 16) 2
abbrev s_Telling_getitem : Stmt := inClass (topS 16) 3
abbrev s_Telling_eq : Stmt := inClass (topS 16) 4
abbrev s_Telling_lt : Stmt := inClass (topS 16) 5
abbrev s_Telling_add : Stmt := inClass (topS 16) 6
abbrev s_Telling_mul : Stmt := inClass (topS 16) 7
abbrev s_Telling_rmul : Stmt := inClass (topS 16) 8
abbrev s_Telling_xor : Stmt := inClass (topS 16) 9
abbrev s_Telling_abs : Stmt := inClass (topS 16) 10
abbrev s_Telling_no_steeper : Stmt := inClass (topS 16) 11
abbrev s_Telling_moved : Stmt := inClass (topS 16) 12
abbrev s_Telling_check_place : Stmt := inClass (topS 16) 13
abbrev s_Telling_check_alike : Stmt := inClass (topS 16) 14
abbrev s_greatest_first : Stmt := topS 17
abbrev s_row_allows : Stmt := topS 19
abbrev s_row_witness : Stmt := topS 20
abbrev s_check_row : Stmt := topS 21
abbrev s_law_pool : Stmt := topS 23
abbrev s_law_draw : Stmt := topS 24
abbrev s_law_row : Stmt := topS 25
abbrev s_law_numbers : Stmt := topS 26
abbrev s_law_bent_row : Stmt := topS 27
abbrev s_law_bent_numbers : Stmt := topS 28
abbrev s_law_int : Stmt := topS 29
abbrev s_law_same : Stmt := topS 30
abbrev s_law_fault : Stmt := topS 31
abbrev s_law_try_asked : Stmt := topS 32
abbrev s_law_greatest_first : Stmt := topS 33
abbrev s_law_due : Stmt := topS 34
abbrev s_law_asked_right : Stmt := topS 35
abbrev s_law : Stmt := topS 36
abbrev e_NoPerson : Stmt := inClass (topS 3) 0
abbrev e_BadNumber : Stmt := inClass (topS 4) 0
abbrev e_TooLong : Stmt := inClass (topS 5) 0
abbrev e_WrongLength : Stmt := inClass (topS 6) 0
abbrev e_NotFalling : Stmt := inClass (topS 7) 0
/-! ### the errors: what their __init__ says -/
theorem tx_NoPerson : InitTx PG e_NoPerson "NoPerson.__init__" ["person"] [("person", "person")] where
  txt := ⟨_, _, _, _, _, _, _, _, _, rfl, .cons (.nil), fun env h => (by rw [show interactive env = (env.scope.kind == ScopeKind.module && env.scope.more.any fun (n, _) => n == ("interactive" : Str)) from rfl, h]; rfl), fun env h => ⟨_, by obtain ⟨⟩ := env; cases h; rfl⟩⟩
  par := ⟨_, rfl, rfl⟩
  sc := ⟨⟨rfl, rfl, rfl⟩, by decide +kernel, rfl, rfl, rfl⟩
  loc := by decide +kernel
  nod := by decide +kernel
  bind := fun s e fd us hl h1 h2 h3 => (match us, hl with | [_], _ => .of_eq (by obtain ⟨⟩ := fd; cases h1; cases h2; cases h3; rfl))
  top := by decide +kernel
  few := by decide
theorem tx_BadNumber : InitTx PG e_BadNumber "BadNumber.__init__" ["place", "number"] [("place", "place"), ("number", "number")] where
  txt := ⟨_, _, _, _, _, _, _, _, _, rfl, .cons (.cons (.nil)), fun env h => (by rw [show interactive env = (env.scope.kind == ScopeKind.module && env.scope.more.any fun (n, _) => n == ("interactive" : Str)) from rfl, h]; rfl), fun env h => ⟨_, by obtain ⟨⟩ := env; cases h; rfl⟩⟩
  par := ⟨_, rfl, rfl⟩
  sc := ⟨⟨rfl, rfl, rfl⟩, by decide +kernel, rfl, rfl, rfl⟩
  loc := by decide +kernel
  nod := by decide +kernel
  bind := fun s e fd us hl h1 h2 h3 => (match us, hl with | [_, _], _ => .of_eq (by obtain ⟨⟩ := fd; cases h1; cases h2; cases h3; rfl))
  top := by decide +kernel
  few := by decide
theorem tx_TooLong : InitTx PG e_TooLong "TooLong.__init__" ["count"] [("count", "count")] where
  txt := ⟨_, _, _, _, _, _, _, _, _, rfl, .cons (.nil), fun env h => (by rw [show interactive env = (env.scope.kind == ScopeKind.module && env.scope.more.any fun (n, _) => n == ("interactive" : Str)) from rfl, h]; rfl), fun env h => ⟨_, by obtain ⟨⟩ := env; cases h; rfl⟩⟩
  par := ⟨_, rfl, rfl⟩
  sc := ⟨⟨rfl, rfl, rfl⟩, by decide +kernel, rfl, rfl, rfl⟩
  loc := by decide +kernel
  nod := by decide +kernel
  bind := fun s e fd us hl h1 h2 h3 => (match us, hl with | [_], _ => .of_eq (by obtain ⟨⟩ := fd; cases h1; cases h2; cases h3; rfl))
  top := by decide +kernel
  few := by decide
theorem tx_WrongLength : InitTx PG e_WrongLength "WrongLength.__init__" ["found", "wanted"] [("found", "found"), ("wanted", "wanted")] where
  txt := ⟨_, _, _, _, _, _, _, _, _, rfl, .cons (.cons (.nil)), fun env h => (by rw [show interactive env = (env.scope.kind == ScopeKind.module && env.scope.more.any fun (n, _) => n == ("interactive" : Str)) from rfl, h]; rfl), fun env h => ⟨_, by obtain ⟨⟩ := env; cases h; rfl⟩⟩
  par := ⟨_, rfl, rfl⟩
  sc := ⟨⟨rfl, rfl, rfl⟩, by decide +kernel, rfl, rfl, rfl⟩
  loc := by decide +kernel
  nod := by decide +kernel
  bind := fun s e fd us hl h1 h2 h3 => (match us, hl with | [_, _], _ => .of_eq (by obtain ⟨⟩ := fd; cases h1; cases h2; cases h3; rfl))
  top := by decide +kernel
  few := by decide
theorem tx_NotFalling : InitTx PG e_NotFalling "NotFalling.__init__" ["place"] [("place", "place")] where
  txt := ⟨_, _, _, _, _, _, _, _, _, rfl, .cons (.nil), fun env h => (by rw [show interactive env = (env.scope.kind == ScopeKind.module && env.scope.more.any fun (n, _) => n == ("interactive" : Str)) from rfl, h]; rfl), fun env h => ⟨_, by obtain ⟨⟩ := env; cases h; rfl⟩⟩
  par := ⟨_, rfl, rfl⟩
  sc := ⟨⟨rfl, rfl, rfl⟩, by decide +kernel, rfl, rfl, rfl⟩
  loc := by decide +kernel
  nod := by decide +kernel
  bind := fun s e fd us hl h1 h2 h3 => (match us, hl with | [_], _ => .of_eq (by obtain ⟨⟩ := fd; cases h1; cases h2; cases h3; rfl))
  top := by decide +kernel
  few := by decide
/-! ### facts -/
def fn : List DefA := [
  { at_ := fun K => ga K "_wall", name := "_wall", qual := "_wall", params := defArgs s_wall, body := defBody s_wall, scope := defScope s_wall },
  { at_ := fun K => ga K "check_count", name := "check_count", qual := "check_count", params := defArgs s_check_count, body := defBody s_check_count, scope := defScope s_check_count },
  { at_ := fun K => ga K "check_number", name := "check_number", qual := "check_number", params := defArgs s_check_number, body := defBody s_check_number, scope := defScope s_check_number },
  { at_ := fun K => ga K "check_numbers", name := "check_numbers", qual := "check_numbers", params := defArgs s_check_numbers, body := defBody s_check_numbers, scope := defScope s_check_numbers },
  { at_ := fun K => ga K "check_not_negative", name := "check_not_negative", qual := "check_not_negative", params := defArgs s_check_not_negative, body := defBody s_check_not_negative, scope := defScope s_check_not_negative },
  { at_ := fun K => ma K (ga K "Telling") "__init__", name := "__init__", qual := "Telling.__init__", params := defArgs s_Telling_init, body := defBody s_Telling_init, scope := defScope s_Telling_init },
  { at_ := fun K => ma K (ga K "Telling") "__len__", name := "__len__", qual := "Telling.__len__", params := defArgs s_Telling_len, body := defBody s_Telling_len, scope := defScope s_Telling_len },
  { at_ := fun K => ma K (ga K "Telling") "__iter__", name := "__iter__", qual := "Telling.__iter__", params := defArgs s_Telling_iter, body := defBody s_Telling_iter, scope := defScope s_Telling_iter },
  { at_ := fun K => ma K (ga K "Telling") "__getitem__", name := "__getitem__", qual := "Telling.__getitem__", params := defArgs s_Telling_getitem, body := defBody s_Telling_getitem, scope := defScope s_Telling_getitem },
  { at_ := fun K => ma K (ga K "Telling") "__eq__", name := "__eq__", qual := "Telling.__eq__", params := defArgs s_Telling_eq, body := defBody s_Telling_eq, scope := defScope s_Telling_eq },
  { at_ := fun K => ma K (ga K "Telling") "__lt__", name := "__lt__", qual := "Telling.__lt__", params := defArgs s_Telling_lt, body := defBody s_Telling_lt, scope := defScope s_Telling_lt },
  { at_ := fun K => ma K (ga K "Telling") "__add__", name := "__add__", qual := "Telling.__add__", params := defArgs s_Telling_add, body := defBody s_Telling_add, scope := defScope s_Telling_add },
  { at_ := fun K => ma K (ga K "Telling") "__mul__", name := "__mul__", qual := "Telling.__mul__", params := defArgs s_Telling_mul, body := defBody s_Telling_mul, scope := defScope s_Telling_mul },
  { at_ := fun K => ma K (ga K "Telling") "__rmul__", name := "__rmul__", qual := "Telling.__rmul__", params := defArgs s_Telling_rmul, body := defBody s_Telling_rmul, scope := defScope s_Telling_rmul },
  { at_ := fun K => ma K (ga K "Telling") "__xor__", name := "__xor__", qual := "Telling.__xor__", params := defArgs s_Telling_xor, body := defBody s_Telling_xor, scope := defScope s_Telling_xor },
  { at_ := fun K => ma K (ga K "Telling") "__abs__", name := "__abs__", qual := "Telling.__abs__", params := defArgs s_Telling_abs, body := defBody s_Telling_abs, scope := defScope s_Telling_abs },
  { at_ := fun K => ma K (ga K "Telling") "no_steeper", name := "no_steeper", qual := "Telling.no_steeper", params := defArgs s_Telling_no_steeper, body := defBody s_Telling_no_steeper, scope := defScope s_Telling_no_steeper },
  { at_ := fun K => ma K (ga K "Telling") "moved", name := "moved", qual := "Telling.moved", params := defArgs s_Telling_moved, body := defBody s_Telling_moved, scope := defScope s_Telling_moved, dfl := [.int 1] },
  { at_ := fun K => ma K (ga K "Telling") "_check_place", name := "_check_place", qual := "Telling._check_place", params := defArgs s_Telling_check_place, body := defBody s_Telling_check_place, scope := defScope s_Telling_check_place },
  { at_ := fun K => ma K (ga K "Telling") "_check_alike", name := "_check_alike", qual := "Telling._check_alike", params := defArgs s_Telling_check_alike, body := defBody s_Telling_check_alike, scope := defScope s_Telling_check_alike },
  { at_ := fun K => ga K "greatest_first", name := "greatest_first", qual := "greatest_first", params := defArgs s_greatest_first, body := defBody s_greatest_first, scope := defScope s_greatest_first },
  { at_ := fun K => ga K "row_allows", name := "row_allows", qual := "row_allows", params := defArgs s_row_allows, body := defBody s_row_allows, scope := defScope s_row_allows },
  { at_ := fun K => ga K "row_witness", name := "row_witness", qual := "row_witness", params := defArgs s_row_witness, body := defBody s_row_witness, scope := defScope s_row_witness },
  { at_ := fun K => ga K "check_row", name := "check_row", qual := "check_row", params := defArgs s_check_row, body := defBody s_check_row, scope := defScope s_check_row },
  { at_ := fun K => ga K "_law_pool", name := "_law_pool", qual := "_law_pool", params := defArgs s_law_pool, body := defBody s_law_pool, scope := defScope s_law_pool },
  { at_ := fun K => ga K "_law_draw", name := "_law_draw", qual := "_law_draw", params := defArgs s_law_draw, body := defBody s_law_draw, scope := defScope s_law_draw },
  { at_ := fun K => ga K "_law_row", name := "_law_row", qual := "_law_row", params := defArgs s_law_row, body := defBody s_law_row, scope := defScope s_law_row },
  { at_ := fun K => ga K "_law_numbers", name := "_law_numbers", qual := "_law_numbers", params := defArgs s_law_numbers, body := defBody s_law_numbers, scope := defScope s_law_numbers },
  { at_ := fun K => ga K "_law_bent_row", name := "_law_bent_row", qual := "_law_bent_row", params := defArgs s_law_bent_row, body := defBody s_law_bent_row, scope := defScope s_law_bent_row },
  { at_ := fun K => ga K "_law_bent_numbers", name := "_law_bent_numbers", qual := "_law_bent_numbers", params := defArgs s_law_bent_numbers, body := defBody s_law_bent_numbers, scope := defScope s_law_bent_numbers },
  { at_ := fun K => ga K "_law_int", name := "_law_int", qual := "_law_int", params := defArgs s_law_int, body := defBody s_law_int, scope := defScope s_law_int },
  { at_ := fun K => ga K "_law_same", name := "_law_same", qual := "_law_same", params := defArgs s_law_same, body := defBody s_law_same, scope := defScope s_law_same },
  { at_ := fun K => ga K "_law_fault", name := "_law_fault", qual := "_law_fault", params := defArgs s_law_fault, body := defBody s_law_fault, scope := defScope s_law_fault },
  { at_ := fun K => ga K "_law_try_asked", name := "_law_try_asked", qual := "_law_try_asked", params := defArgs s_law_try_asked, body := defBody s_law_try_asked, scope := defScope s_law_try_asked },
  { at_ := fun K => ga K "_law_greatest_first", name := "_law_greatest_first", qual := "_law_greatest_first", params := defArgs s_law_greatest_first, body := defBody s_law_greatest_first, scope := defScope s_law_greatest_first },
  { at_ := fun K => ga K "_law_due", name := "_law_due", qual := "_law_due", params := defArgs s_law_due, body := defBody s_law_due, scope := defScope s_law_due },
  { at_ := fun K => ga K "_law_asked_right", name := "_law_asked_right", qual := "_law_asked_right", params := defArgs s_law_asked_right, body := defBody s_law_asked_right, scope := defScope s_law_asked_right },
  { at_ := fun K => ga K "law", name := "law", qual := "law", params := defArgs s_law, body := defBody s_law, scope := defScope s_law }]
def er : List ErrD := [⟨"NoPerson", e_NoPerson, "NoPerson.__init__", ["person"]⟩, ⟨"BadNumber", e_BadNumber, "BadNumber.__init__", ["place", "number"]⟩, ⟨"TooLong", e_TooLong, "TooLong.__init__", ["count"]⟩, ⟨"WrongLength", e_WrongLength, "WrongLength.__init__", ["found", "wanted"]⟩, ⟨"NotFalling", e_NotFalling, "NotFalling.__init__", ["place"]⟩]
def bl (K : Frag) : List Bool := [
  (Fa.free "super").ok K,
  eqO (nsIn K cStatics "thirdparty.any") (some none),
  (Fa.free "len").ok K,
  (Fa.free "enumerate").ok K,
  (Fa.free "tuple").ok K,
  (Fa.free "iter").ok K,
  (Fa.free "sum").ok K,
  (Fa.free "abs").ok K,
  (Fa.free "int").ok K,
  (Fa.free "range").ok K,
  (Fa.free "isinstance").ok K,
  (Fa.free "bool").ok K,
  (Fa.free "str").ok K,
  (Fa.free "list").ok K,
  (Fa.free "zip").ok K,
  (Fa.free "sorted").ok K,
  (Fa.free "ValueError").ok K,
  (Fa.free "max").ok K,
  (Fa.free "min").ok K,
  (Fa.glo "_wall").ok K,
  (Fa.glo "check_count").ok K,
  (Fa.glo "check_number").ok K,
  (Fa.glo "check_numbers").ok K,
  (Fa.glo "check_not_negative").ok K,
  (Fa.glo "greatest_first").ok K,
  (Fa.glo "row_allows").ok K,
  (Fa.glo "row_witness").ok K,
  (Fa.glo "check_row").ok K,
  (Fa.glo "_law_pool").ok K,
  (Fa.glo "_law_draw").ok K,
  (Fa.glo "_law_row").ok K,
  (Fa.glo "_law_numbers").ok K,
  (Fa.glo "_law_bent_row").ok K,
  (Fa.glo "_law_bent_numbers").ok K,
  (Fa.glo "_law_int").ok K,
  (Fa.glo "_law_same").ok K,
  (Fa.glo "_law_fault").ok K,
  (Fa.glo "_law_try_asked").ok K,
  (Fa.glo "_law_greatest_first").ok K,
  (Fa.glo "_law_due").ok K,
  (Fa.glo "_law_asked_right").ok K,
  (Fa.glo "law").ok K,
  (Fa.cls "Telling").ok K,
  (Fa.glo "Telling").ok K,
  EF.clsB K (ga K "Telling"),
  (Fa.mkr "Telling").ok K,
  (Fa.noat "Telling" "entries").ok K,
  (Fa.int "MOST_PEOPLE" 30).ok K,
  (Fa.int "LIMIT" 1000000000000000000000000000000).ok K,
  FB.spB K (ga K "Telling") "__len__" (ma K (ga K "Telling") "__len__"),
  FB.spB K (ga K "Telling") "__iter__" (ma K (ga K "Telling") "__iter__"),
  FB.spB K (ga K "Telling") "__getitem__" (ma K (ga K "Telling") "__getitem__"),
  (Fa.meth "Telling" "_check_place").ok K,
  FC.ixB K (ga K "Telling") (ma K (ga K "Telling") "__getitem__"),
  (Fa.glo "NightsError").ok K,
  EF.excB K (ga K "NoPerson"),
  (Fa.noat "NoPerson" "person").ok K,
  EF.excB K (ga K "NotFalling"),
  (Fa.noat "NotFalling" "place").ok K,
  EF.excB K (ga K "TooLong"),
  (Fa.noat "TooLong" "count").ok K,
  EF.excB K (ga K "BadNumber"),
  (Fa.noat "BadNumber" "place").ok K,
  (Fa.noat "BadNumber" "number").ok K,
  (Fa.exm "NotFalling" "NotFalling" true).ok K,
  (Fa.exm "NotFalling" "TooLong" false).ok K,
  (Fa.exm "NotFalling" "BadNumber" false).ok K,
  decide (kitOne K (.ref (ga K "NotFalling")) (.ref (ga K "TooLong")) = some false),
  decide (kitOne K (.ref (ga K "NotFalling")) (.ref (ga K "BadNumber")) = some false),
  decide (kitOne K (.ref (ga K "NotFalling")) (.ref (ga K "NightsError")) = some true),
  decide (kitOne K (.ref (ga K "NotFalling")) (.type "ValueError") = some true),
  (Fa.exm "TooLong" "NotFalling" false).ok K,
  (Fa.exm "TooLong" "TooLong" true).ok K,
  (Fa.exm "TooLong" "BadNumber" false).ok K,
  decide (kitOne K (.ref (ga K "TooLong")) (.ref (ga K "NotFalling")) = some false),
  decide (kitOne K (.ref (ga K "TooLong")) (.ref (ga K "BadNumber")) = some false),
  decide (kitOne K (.ref (ga K "TooLong")) (.ref (ga K "NightsError")) = some true),
  decide (kitOne K (.ref (ga K "TooLong")) (.type "ValueError") = some true),
  (Fa.exm "BadNumber" "NotFalling" false).ok K,
  (Fa.exm "BadNumber" "TooLong" false).ok K,
  (Fa.exm "BadNumber" "BadNumber" true).ok K,
  decide (kitOne K (.ref (ga K "BadNumber")) (.ref (ga K "NotFalling")) = some false),
  decide (kitOne K (.ref (ga K "BadNumber")) (.ref (ga K "TooLong")) = some false),
  decide (kitOne K (.ref (ga K "BadNumber")) (.ref (ga K "NightsError")) = some true),
  decide (kitOne K (.ref (ga K "BadNumber")) (.type "ValueError") = some true)]
def bx (K : Frag) : Bool := (bl K).all fun b => b
abbrev R : OpenRow := OpenLaw.row PySem.Challenge.rw_nightsoff_k34_row_allows
abbrev hk : Hook := hookX 6 bx fn er "/claim/cut.py"
def ob (s : SharedT) : AlX := obsXG 6 bx fn er "/claim/cut.py" (HandSHeadRun.getT s)
theorem ob_eq (s : SharedT) : ob s = hk.obs s.abs := obsXG_eq (HandSHeadRun.getT_eq s)
def nm0 : List Str := ["_wall", "NightsError", "NoPerson", "BadNumber", "TooLong", "WrongLength", "NotFalling", "MOST_PEOPLE", "check_count", "check_number", "check_numbers", "check_not_negative", "LIMIT", "Telling", "greatest_first", "row_allows", "row_witness", "check_row", "_law_pool", "_law_draw", "_law_row", "_law_numbers", "_law_bent_row", "_law_bent_numbers", "_law_int", "_law_same", "_law_fault", "_law_try_asked", "_law_greatest_first", "_law_due"]
def nm1 : List Str := ["_law_asked_right"]
def names : List Str := nm0 ++ nm1
theorem run (w : World) : HandSHeadRun.RunEq R (view R.prog [36]) hk ob 20000 names w := by
  intro os
  kernel_rfl
theorem fact {K : Frag} (c : SaysX bx fn er "/claim/cut.py" K) (i : Nat) {b : Bool} (h : (bl K)[i]? = some b := by rfl) : b = true := List.all_eq_true.mp (SaysX.bool c) b (List.mem_of_getElem? h)
/-! ### where the defs stand, their names, their facts in one bundle -/
abbrev c_NightsError (K : Frag) : Addr := ga K "NightsError"
abbrev c_NoPerson (K : Frag) : Addr := ga K "NoPerson"
abbrev c_BadNumber (K : Frag) : Addr := ga K "BadNumber"
abbrev c_TooLong (K : Frag) : Addr := ga K "TooLong"
abbrev c_WrongLength (K : Frag) : Addr := ga K "WrongLength"
abbrev c_NotFalling (K : Frag) : Addr := ga K "NotFalling"
abbrev c_Telling (K : Frag) : Addr := ga K "Telling"
abbrev a_wall (K : Frag) : Addr := (fun K => ga K "_wall") K
abbrev a_check_count (K : Frag) : Addr := (fun K => ga K "check_count") K
abbrev a_check_number (K : Frag) : Addr := (fun K => ga K "check_number") K
abbrev a_check_numbers (K : Frag) : Addr := (fun K => ga K "check_numbers") K
abbrev a_check_not_negative (K : Frag) : Addr := (fun K => ga K "check_not_negative") K
abbrev a_Telling_init (K : Frag) : Addr := (fun K => ma K (ga K "Telling") "__init__") K
abbrev a_Telling_len (K : Frag) : Addr := (fun K => ma K (ga K "Telling") "__len__") K
abbrev a_Telling_iter (K : Frag) : Addr := (fun K => ma K (ga K "Telling") "__iter__") K
abbrev a_Telling_getitem (K : Frag) : Addr := (fun K => ma K (ga K "Telling") "__getitem__") K
abbrev a_Telling_eq (K : Frag) : Addr := (fun K => ma K (ga K "Telling") "__eq__") K
abbrev a_Telling_lt (K : Frag) : Addr := (fun K => ma K (ga K "Telling") "__lt__") K
abbrev a_Telling_add (K : Frag) : Addr := (fun K => ma K (ga K "Telling") "__add__") K
abbrev a_Telling_mul (K : Frag) : Addr := (fun K => ma K (ga K "Telling") "__mul__") K
abbrev a_Telling_rmul (K : Frag) : Addr := (fun K => ma K (ga K "Telling") "__rmul__") K
abbrev a_Telling_xor (K : Frag) : Addr := (fun K => ma K (ga K "Telling") "__xor__") K
abbrev a_Telling_abs (K : Frag) : Addr := (fun K => ma K (ga K "Telling") "__abs__") K
abbrev a_Telling_no_steeper (K : Frag) : Addr := (fun K => ma K (ga K "Telling") "no_steeper") K
abbrev a_Telling_moved (K : Frag) : Addr := (fun K => ma K (ga K "Telling") "moved") K
abbrev a_Telling_check_place (K : Frag) : Addr := (fun K => ma K (ga K "Telling") "_check_place") K
abbrev a_Telling_check_alike (K : Frag) : Addr := (fun K => ma K (ga K "Telling") "_check_alike") K
abbrev a_greatest_first (K : Frag) : Addr := (fun K => ga K "greatest_first") K
abbrev a_row_allows (K : Frag) : Addr := (fun K => ga K "row_allows") K
abbrev a_row_witness (K : Frag) : Addr := (fun K => ga K "row_witness") K
abbrev a_check_row (K : Frag) : Addr := (fun K => ga K "check_row") K
abbrev a_law_pool (K : Frag) : Addr := (fun K => ga K "_law_pool") K
abbrev a_law_draw (K : Frag) : Addr := (fun K => ga K "_law_draw") K
abbrev a_law_row (K : Frag) : Addr := (fun K => ga K "_law_row") K
abbrev a_law_numbers (K : Frag) : Addr := (fun K => ga K "_law_numbers") K
abbrev a_law_bent_row (K : Frag) : Addr := (fun K => ga K "_law_bent_row") K
abbrev a_law_bent_numbers (K : Frag) : Addr := (fun K => ga K "_law_bent_numbers") K
abbrev a_law_int (K : Frag) : Addr := (fun K => ga K "_law_int") K
abbrev a_law_same (K : Frag) : Addr := (fun K => ga K "_law_same") K
abbrev a_law_fault (K : Frag) : Addr := (fun K => ga K "_law_fault") K
abbrev a_law_try_asked (K : Frag) : Addr := (fun K => ga K "_law_try_asked") K
abbrev a_law_greatest_first (K : Frag) : Addr := (fun K => ga K "_law_greatest_first") K
abbrev a_law_due (K : Frag) : Addr := (fun K => ga K "_law_due") K
abbrev a_law_asked_right (K : Frag) : Addr := (fun K => ga K "_law_asked_right") K
abbrev a_law (K : Frag) : Addr := (fun K => ga K "law") K
abbrev i_NoPerson (K : Frag) : Addr := ma K (ga K "NoPerson") "__init__"
abbrev i_BadNumber (K : Frag) : Addr := ma K (ga K "BadNumber") "__init__"
abbrev i_TooLong (K : Frag) : Addr := ma K (ga K "TooLong") "__init__"
abbrev i_WrongLength (K : Frag) : Addr := ma K (ga K "WrongLength") "__init__"
abbrev i_NotFalling (K : Frag) : Addr := ma K (ga K "NotFalling") "__init__"
abbrev n_wall : List Str := ["k"]
abbrev p_wall : List Str := ["k"]
theorem sc_wall : FnScope n_wall p_wall (defScope s_wall) := ⟨rfl, rfl, rfl, by decide +kernel, rfl, by decide +kernel, by decide +kernel⟩
abbrev n_check_count : List Str := ["count", "most"]
abbrev p_check_count : List Str := ["count", "most"]
theorem sc_check_count : FnScope n_check_count p_check_count (defScope s_check_count) := ⟨rfl, rfl, rfl, by decide +kernel, rfl, by decide +kernel, by decide +kernel⟩
abbrev n_check_number : List Str := ["place", "number", "greatest"]
abbrev p_check_number : List Str := ["place", "number", "greatest"]
theorem sc_check_number : FnScope n_check_number p_check_number (defScope s_check_number) := ⟨rfl, rfl, rfl, by decide +kernel, rfl, by decide +kernel, by decide +kernel⟩
abbrev n_check_numbers : List Str := ["numbers", "greatest", "index", "number"]
abbrev p_check_numbers : List Str := ["numbers", "greatest"]
theorem sc_check_numbers : FnScope n_check_numbers p_check_numbers (defScope s_check_numbers) := ⟨rfl, rfl, rfl, by decide +kernel, rfl, by decide +kernel, by decide +kernel⟩
abbrev n_check_not_negative : List Str := ["number"]
abbrev p_check_not_negative : List Str := ["number"]
theorem sc_check_not_negative : FnScope n_check_not_negative p_check_not_negative (defScope s_check_not_negative) := ⟨rfl, rfl, rfl, by decide +kernel, rfl, by decide +kernel, by decide +kernel⟩
abbrev n_Telling_init : List Str := ["self", "entries"]
abbrev p_Telling_init : List Str := ["self", "entries"]
theorem sc_Telling_init : FnScope n_Telling_init p_Telling_init (defScope s_Telling_init) := ⟨rfl, rfl, rfl, by decide +kernel, rfl, by decide +kernel, by decide +kernel⟩
abbrev n_Telling_len : List Str := ["self"]
abbrev p_Telling_len : List Str := ["self"]
theorem sc_Telling_len : FnScope n_Telling_len p_Telling_len (defScope s_Telling_len) := ⟨rfl, rfl, rfl, by decide +kernel, rfl, by decide +kernel, by decide +kernel⟩
abbrev n_Telling_iter : List Str := ["self"]
abbrev p_Telling_iter : List Str := ["self"]
theorem sc_Telling_iter : FnScope n_Telling_iter p_Telling_iter (defScope s_Telling_iter) := ⟨rfl, rfl, rfl, by decide +kernel, rfl, by decide +kernel, by decide +kernel⟩
abbrev n_Telling_getitem : List Str := ["self", "at"]
abbrev p_Telling_getitem : List Str := ["self", "at"]
theorem sc_Telling_getitem : FnScope n_Telling_getitem p_Telling_getitem (defScope s_Telling_getitem) := ⟨rfl, rfl, rfl, by decide +kernel, rfl, by decide +kernel, by decide +kernel⟩
abbrev n_Telling_eq : List Str := ["self", "other"]
abbrev p_Telling_eq : List Str := ["self", "other"]
theorem sc_Telling_eq : FnScope n_Telling_eq p_Telling_eq (defScope s_Telling_eq) := ⟨rfl, rfl, rfl, by decide +kernel, rfl, by decide +kernel, by decide +kernel⟩
abbrev n_Telling_lt : List Str := ["self", "other"]
abbrev p_Telling_lt : List Str := ["self", "other"]
theorem sc_Telling_lt : FnScope n_Telling_lt p_Telling_lt (defScope s_Telling_lt) := ⟨rfl, rfl, rfl, by decide +kernel, rfl, by decide +kernel, by decide +kernel⟩
abbrev n_Telling_add : List Str := ["self", "other", "one", "two"]
abbrev p_Telling_add : List Str := ["self", "other"]
theorem sc_Telling_add : FnScope n_Telling_add p_Telling_add (defScope s_Telling_add) := ⟨rfl, rfl, rfl, by decide +kernel, rfl, by decide +kernel, by decide +kernel⟩
abbrev n_Telling_mul : List Str := ["self", "other", "entry"]
abbrev p_Telling_mul : List Str := ["self", "other"]
theorem sc_Telling_mul : FnScope n_Telling_mul p_Telling_mul (defScope s_Telling_mul) := ⟨rfl, rfl, rfl, by decide +kernel, rfl, by decide +kernel, by decide +kernel⟩
abbrev n_Telling_rmul : List Str := ["self", "other"]
abbrev p_Telling_rmul : List Str := ["self", "other"]
theorem sc_Telling_rmul : FnScope n_Telling_rmul p_Telling_rmul (defScope s_Telling_rmul) := ⟨rfl, rfl, rfl, by decide +kernel, rfl, by decide +kernel, by decide +kernel⟩
abbrev n_Telling_xor : List Str := ["self", "other", "one", "two"]
abbrev p_Telling_xor : List Str := ["self", "other"]
theorem sc_Telling_xor : FnScope n_Telling_xor p_Telling_xor (defScope s_Telling_xor) := ⟨rfl, rfl, rfl, by decide +kernel, rfl, by decide +kernel, by decide +kernel⟩
abbrev n_Telling_abs : List Str := ["self"]
abbrev p_Telling_abs : List Str := ["self"]
theorem sc_Telling_abs : FnScope n_Telling_abs p_Telling_abs (defScope s_Telling_abs) := ⟨rfl, rfl, rfl, by decide +kernel, rfl, by decide +kernel, by decide +kernel⟩
abbrev n_Telling_no_steeper : List Str := ["self", "other"]
abbrev p_Telling_no_steeper : List Str := ["self", "other"]
theorem sc_Telling_no_steeper : FnScope n_Telling_no_steeper p_Telling_no_steeper (defScope s_Telling_no_steeper) := ⟨rfl, rfl, rfl, by decide +kernel, rfl, by decide +kernel, by decide +kernel⟩
abbrev n_Telling_moved : List Str := ["self", "giver", "taker", "count"]
abbrev p_Telling_moved : List Str := ["self", "giver", "taker", "count"]
theorem sc_Telling_moved : FnScope n_Telling_moved p_Telling_moved (defScope s_Telling_moved) := ⟨rfl, rfl, rfl, by decide +kernel, rfl, by decide +kernel, by decide +kernel⟩
abbrev n_Telling_check_place : List Str := ["self", "person"]
abbrev p_Telling_check_place : List Str := ["self", "person"]
theorem sc_Telling_check_place : FnScope n_Telling_check_place p_Telling_check_place (defScope s_Telling_check_place) := ⟨rfl, rfl, rfl, by decide +kernel, rfl, by decide +kernel, by decide +kernel⟩
abbrev n_Telling_check_alike : List Str := ["self", "other"]
abbrev p_Telling_check_alike : List Str := ["self", "other"]
theorem sc_Telling_check_alike : FnScope n_Telling_check_alike p_Telling_check_alike (defScope s_Telling_check_alike) := ⟨rfl, rfl, rfl, by decide +kernel, rfl, by decide +kernel, by decide +kernel⟩
abbrev n_greatest_first : List Str := ["numbers", "person", "number", "_"]
abbrev p_greatest_first : List Str := ["numbers"]
theorem sc_greatest_first : FnScope n_greatest_first p_greatest_first (defScope s_greatest_first) := ⟨rfl, rfl, rfl, by decide +kernel, rfl, by decide +kernel, by decide +kernel⟩
abbrev n_row_allows : List Str := ["row", "numbers"]
abbrev p_row_allows : List Str := ["row", "numbers"]
theorem sc_row_allows : FnScope n_row_allows p_row_allows (defScope s_row_allows) := ⟨rfl, rfl, rfl, by decide +kernel, rfl, by decide +kernel, by decide +kernel⟩
abbrev n_row_witness : List Str := ["row", "numbers", "order", "count", "persons", "person"]
abbrev p_row_witness : List Str := ["row", "numbers"]
theorem sc_row_witness : FnScope n_row_witness p_row_witness (defScope s_row_witness) := ⟨rfl, rfl, rfl, by decide +kernel, rfl, by decide +kernel, by decide +kernel⟩
abbrev n_check_row : List Str := ["row", "place", "number"]
abbrev p_check_row : List Str := ["row"]
theorem sc_check_row : FnScope n_check_row p_check_row (defScope s_check_row) := ⟨rfl, rfl, rfl, by decide +kernel, rfl, by decide +kernel, by decide +kernel⟩
abbrev n_law_pool : List Str := ["script", "at", "cell"]
abbrev p_law_pool : List Str := ["script", "at"]
theorem sc_law_pool : FnScope n_law_pool p_law_pool (defScope s_law_pool) := ⟨rfl, rfl, rfl, by decide +kernel, rfl, by decide +kernel, by decide +kernel⟩
abbrev n_law_draw : List Str := ["pool", "many", "value", "mixed"]
abbrev p_law_draw : List Str := ["pool", "many"]
theorem sc_law_draw : FnScope n_law_draw p_law_draw (defScope s_law_draw) := ⟨rfl, rfl, rfl, by decide +kernel, rfl, by decide +kernel, by decide +kernel⟩
abbrev n_law_row : List Str := ["pool", "drawn", "place", "left", "most", "row", "turn", "number"]
abbrev p_law_row : List Str := ["pool"]
theorem sc_law_row : FnScope n_law_row p_law_row (defScope s_law_row) := ⟨rfl, rfl, rfl, by decide +kernel, rfl, by decide +kernel, by decide +kernel⟩
abbrev n_law_numbers : List Str := ["pool", "row", "people", "most", "person", "numbers", "place", "turn", "giver", "taker", "other", "kept"]
abbrev p_law_numbers : List Str := ["pool", "row"]
theorem sc_law_numbers : FnScope n_law_numbers p_law_numbers (defScope s_law_numbers) := ⟨rfl, rfl, rfl, by decide +kernel, rfl, by decide +kernel, by decide +kernel⟩
abbrev n_law_bent_row : List Str := ["pool", "row", "bent", "way", "place"]
abbrev p_law_bent_row : List Str := ["pool", "row"]
theorem sc_law_bent_row : FnScope n_law_bent_row p_law_bent_row (defScope s_law_bent_row) := ⟨rfl, rfl, rfl, by decide +kernel, rfl, by decide +kernel, by decide +kernel⟩
abbrev n_law_bent_numbers : List Str := ["pool", "numbers", "bent", "way", "place"]
abbrev p_law_bent_numbers : List Str := ["pool", "numbers"]
theorem sc_law_bent_numbers : FnScope n_law_bent_numbers p_law_bent_numbers (defScope s_law_bent_numbers) := ⟨rfl, rfl, rfl, by decide +kernel, rfl, by decide +kernel, by decide +kernel⟩
abbrev n_law_int : List Str := ["x"]
abbrev p_law_int : List Str := ["x"]
theorem sc_law_int : FnScope n_law_int p_law_int (defScope s_law_int) := ⟨rfl, rfl, rfl, by decide +kernel, rfl, by decide +kernel, by decide +kernel⟩
abbrev n_law_same : List Str := ["got", "due", "place"]
abbrev p_law_same : List Str := ["got", "due"]
theorem sc_law_same : FnScope n_law_same p_law_same (defScope s_law_same) := ⟨rfl, rfl, rfl, by decide +kernel, rfl, by decide +kernel, by decide +kernel⟩
abbrev n_law_fault : List Str := ["row", "numbers", "place"]
abbrev p_law_fault : List Str := ["row", "numbers"]
theorem sc_law_fault : FnScope n_law_fault p_law_fault (defScope s_law_fault) := ⟨rfl, rfl, rfl, by decide +kernel, rfl, by decide +kernel, by decide +kernel⟩
abbrev n_law_try_asked : List Str := ["way", "row", "numbers", "word", "e"]
abbrev p_law_try_asked : List Str := ["way", "row", "numbers"]
theorem sc_law_try_asked : FnScope n_law_try_asked p_law_try_asked (defScope s_law_try_asked) := ⟨rfl, rfl, rfl, by decide +kernel, rfl, by decide +kernel, by decide +kernel⟩
abbrev n_law_greatest_first : List Str := ["numbers", "order", "person", "ahead", "other"]
abbrev p_law_greatest_first : List Str := ["numbers"]
theorem sc_law_greatest_first : FnScope n_law_greatest_first p_law_greatest_first (defScope s_law_greatest_first) := ⟨rfl, rfl, rfl, by decide +kernel, rfl, by decide +kernel, by decide +kernel⟩
abbrev n_law_due : List Str := ["row", "numbers", "order", "together", "size", "person"]
abbrev p_law_due : List Str := ["row", "numbers"]
theorem sc_law_due : FnScope n_law_due p_law_due (defScope s_law_due) := ⟨rfl, rfl, rfl, by decide +kernel, rfl, by decide +kernel, by decide +kernel⟩
abbrev n_law_asked_right : List Str := ["row", "numbers", "due", "one", "two", "turn", "told"]
abbrev p_law_asked_right : List Str := ["row", "numbers"]
theorem sc_law_asked_right : FnScope n_law_asked_right p_law_asked_right (defScope s_law_asked_right) := ⟨rfl, rfl, rfl, by decide +kernel, rfl, by decide +kernel, by decide +kernel⟩
abbrev n_law : List Str := ["script", "pool", "row", "numbers", "bent_row", "bent", "fault"]
abbrev p_law : List Str := ["script"]
theorem sc_law : FnScope n_law p_law (defScope s_law) := ⟨rfl, rfl, rfl, by decide +kernel, rfl, by decide +kernel, by decide +kernel⟩
theorem bi_wall {K : Frag} {fd : FuncData} (F : FunD K "_wall" "_wall" (defArgs s_wall) (defBody s_wall) (defScope s_wall) [] [] (a_wall K) fd) : Binds K fd p_wall [] := F.bindsN fun _ _ _ _ _ _ us hl => (match us, hl with | [_], _ => rfl)
theorem bi_check_count {K : Frag} {fd : FuncData} (F : FunD K "check_count" "check_count" (defArgs s_check_count) (defBody s_check_count) (defScope s_check_count) [] [] (a_check_count K) fd) : Binds K fd p_check_count [] := F.bindsN fun _ _ _ _ _ _ us hl => (match us, hl with | [_, _], _ => rfl)
theorem bi_check_number {K : Frag} {fd : FuncData} (F : FunD K "check_number" "check_number" (defArgs s_check_number) (defBody s_check_number) (defScope s_check_number) [] [] (a_check_number K) fd) : Binds K fd p_check_number [] := F.bindsN fun _ _ _ _ _ _ us hl => (match us, hl with | [_, _, _], _ => rfl)
theorem bi_check_numbers {K : Frag} {fd : FuncData} (F : FunD K "check_numbers" "check_numbers" (defArgs s_check_numbers) (defBody s_check_numbers) (defScope s_check_numbers) [] [] (a_check_numbers K) fd) : Binds K fd p_check_numbers [] := F.bindsN fun _ _ _ _ _ _ us hl => (match us, hl with | [_, _], _ => rfl)
theorem bi_check_not_negative {K : Frag} {fd : FuncData} (F : FunD K "check_not_negative" "check_not_negative" (defArgs s_check_not_negative) (defBody s_check_not_negative) (defScope s_check_not_negative) [] [] (a_check_not_negative K) fd) : Binds K fd p_check_not_negative [] := F.bindsN fun _ _ _ _ _ _ us hl => (match us, hl with | [_], _ => rfl)
theorem bi_Telling_init {K : Frag} {fd : FuncData} (F : FunD K "__init__" "Telling.__init__" (defArgs s_Telling_init) (defBody s_Telling_init) (defScope s_Telling_init) [] [] (a_Telling_init K) fd) : Binds K fd p_Telling_init [] := F.bindsN fun _ _ _ _ _ _ us hl => (match us, hl with | [_, _], _ => rfl)
theorem bi_Telling_len {K : Frag} {fd : FuncData} (F : FunD K "__len__" "Telling.__len__" (defArgs s_Telling_len) (defBody s_Telling_len) (defScope s_Telling_len) [] [] (a_Telling_len K) fd) : Binds K fd p_Telling_len [] := F.bindsN fun _ _ _ _ _ _ us hl => (match us, hl with | [_], _ => rfl)
theorem bi_Telling_iter {K : Frag} {fd : FuncData} (F : FunD K "__iter__" "Telling.__iter__" (defArgs s_Telling_iter) (defBody s_Telling_iter) (defScope s_Telling_iter) [] [] (a_Telling_iter K) fd) : Binds K fd p_Telling_iter [] := F.bindsN fun _ _ _ _ _ _ us hl => (match us, hl with | [_], _ => rfl)
theorem bi_Telling_getitem {K : Frag} {fd : FuncData} (F : FunD K "__getitem__" "Telling.__getitem__" (defArgs s_Telling_getitem) (defBody s_Telling_getitem) (defScope s_Telling_getitem) [] [] (a_Telling_getitem K) fd) : Binds K fd p_Telling_getitem [] := F.bindsN fun _ _ _ _ _ _ us hl => (match us, hl with | [_, _], _ => rfl)
theorem bi_Telling_eq {K : Frag} {fd : FuncData} (F : FunD K "__eq__" "Telling.__eq__" (defArgs s_Telling_eq) (defBody s_Telling_eq) (defScope s_Telling_eq) [] [] (a_Telling_eq K) fd) : Binds K fd p_Telling_eq [] := F.bindsN fun _ _ _ _ _ _ us hl => (match us, hl with | [_, _], _ => rfl)
theorem bi_Telling_lt {K : Frag} {fd : FuncData} (F : FunD K "__lt__" "Telling.__lt__" (defArgs s_Telling_lt) (defBody s_Telling_lt) (defScope s_Telling_lt) [] [] (a_Telling_lt K) fd) : Binds K fd p_Telling_lt [] := F.bindsN fun _ _ _ _ _ _ us hl => (match us, hl with | [_, _], _ => rfl)
theorem bi_Telling_add {K : Frag} {fd : FuncData} (F : FunD K "__add__" "Telling.__add__" (defArgs s_Telling_add) (defBody s_Telling_add) (defScope s_Telling_add) [] [] (a_Telling_add K) fd) : Binds K fd p_Telling_add [] := F.bindsN fun _ _ _ _ _ _ us hl => (match us, hl with | [_, _], _ => rfl)
theorem bi_Telling_mul {K : Frag} {fd : FuncData} (F : FunD K "__mul__" "Telling.__mul__" (defArgs s_Telling_mul) (defBody s_Telling_mul) (defScope s_Telling_mul) [] [] (a_Telling_mul K) fd) : Binds K fd p_Telling_mul [] := F.bindsN fun _ _ _ _ _ _ us hl => (match us, hl with | [_, _], _ => rfl)
theorem bi_Telling_rmul {K : Frag} {fd : FuncData} (F : FunD K "__rmul__" "Telling.__rmul__" (defArgs s_Telling_rmul) (defBody s_Telling_rmul) (defScope s_Telling_rmul) [] [] (a_Telling_rmul K) fd) : Binds K fd p_Telling_rmul [] := F.bindsN fun _ _ _ _ _ _ us hl => (match us, hl with | [_, _], _ => rfl)
theorem bi_Telling_xor {K : Frag} {fd : FuncData} (F : FunD K "__xor__" "Telling.__xor__" (defArgs s_Telling_xor) (defBody s_Telling_xor) (defScope s_Telling_xor) [] [] (a_Telling_xor K) fd) : Binds K fd p_Telling_xor [] := F.bindsN fun _ _ _ _ _ _ us hl => (match us, hl with | [_, _], _ => rfl)
theorem bi_Telling_abs {K : Frag} {fd : FuncData} (F : FunD K "__abs__" "Telling.__abs__" (defArgs s_Telling_abs) (defBody s_Telling_abs) (defScope s_Telling_abs) [] [] (a_Telling_abs K) fd) : Binds K fd p_Telling_abs [] := F.bindsN fun _ _ _ _ _ _ us hl => (match us, hl with | [_], _ => rfl)
theorem bi_Telling_no_steeper {K : Frag} {fd : FuncData} (F : FunD K "no_steeper" "Telling.no_steeper" (defArgs s_Telling_no_steeper) (defBody s_Telling_no_steeper) (defScope s_Telling_no_steeper) [] [] (a_Telling_no_steeper K) fd) : Binds K fd p_Telling_no_steeper [] := F.bindsN fun _ _ _ _ _ _ us hl => (match us, hl with | [_, _], _ => rfl)
theorem bi_Telling_check_place {K : Frag} {fd : FuncData} (F : FunD K "_check_place" "Telling._check_place" (defArgs s_Telling_check_place) (defBody s_Telling_check_place) (defScope s_Telling_check_place) [] [] (a_Telling_check_place K) fd) : Binds K fd p_Telling_check_place [] := F.bindsN fun _ _ _ _ _ _ us hl => (match us, hl with | [_, _], _ => rfl)
theorem bi_Telling_check_alike {K : Frag} {fd : FuncData} (F : FunD K "_check_alike" "Telling._check_alike" (defArgs s_Telling_check_alike) (defBody s_Telling_check_alike) (defScope s_Telling_check_alike) [] [] (a_Telling_check_alike K) fd) : Binds K fd p_Telling_check_alike [] := F.bindsN fun _ _ _ _ _ _ us hl => (match us, hl with | [_, _], _ => rfl)
theorem bi_greatest_first {K : Frag} {fd : FuncData} (F : FunD K "greatest_first" "greatest_first" (defArgs s_greatest_first) (defBody s_greatest_first) (defScope s_greatest_first) [] [] (a_greatest_first K) fd) : Binds K fd p_greatest_first [] := F.bindsN fun _ _ _ _ _ _ us hl => (match us, hl with | [_], _ => rfl)
theorem bi_row_allows {K : Frag} {fd : FuncData} (F : FunD K "row_allows" "row_allows" (defArgs s_row_allows) (defBody s_row_allows) (defScope s_row_allows) [] [] (a_row_allows K) fd) : Binds K fd p_row_allows [] := F.bindsN fun _ _ _ _ _ _ us hl => (match us, hl with | [_, _], _ => rfl)
theorem bi_row_witness {K : Frag} {fd : FuncData} (F : FunD K "row_witness" "row_witness" (defArgs s_row_witness) (defBody s_row_witness) (defScope s_row_witness) [] [] (a_row_witness K) fd) : Binds K fd p_row_witness [] := F.bindsN fun _ _ _ _ _ _ us hl => (match us, hl with | [_, _], _ => rfl)
theorem bi_check_row {K : Frag} {fd : FuncData} (F : FunD K "check_row" "check_row" (defArgs s_check_row) (defBody s_check_row) (defScope s_check_row) [] [] (a_check_row K) fd) : Binds K fd p_check_row [] := F.bindsN fun _ _ _ _ _ _ us hl => (match us, hl with | [_], _ => rfl)
theorem bi_law_pool {K : Frag} {fd : FuncData} (F : FunD K "_law_pool" "_law_pool" (defArgs s_law_pool) (defBody s_law_pool) (defScope s_law_pool) [] [] (a_law_pool K) fd) : Binds K fd p_law_pool [] := F.bindsN fun _ _ _ _ _ _ us hl => (match us, hl with | [_, _], _ => rfl)
theorem bi_law_draw {K : Frag} {fd : FuncData} (F : FunD K "_law_draw" "_law_draw" (defArgs s_law_draw) (defBody s_law_draw) (defScope s_law_draw) [] [] (a_law_draw K) fd) : Binds K fd p_law_draw [] := F.bindsN fun _ _ _ _ _ _ us hl => (match us, hl with | [_, _], _ => rfl)
theorem bi_law_row {K : Frag} {fd : FuncData} (F : FunD K "_law_row" "_law_row" (defArgs s_law_row) (defBody s_law_row) (defScope s_law_row) [] [] (a_law_row K) fd) : Binds K fd p_law_row [] := F.bindsN fun _ _ _ _ _ _ us hl => (match us, hl with | [_], _ => rfl)
theorem bi_law_numbers {K : Frag} {fd : FuncData} (F : FunD K "_law_numbers" "_law_numbers" (defArgs s_law_numbers) (defBody s_law_numbers) (defScope s_law_numbers) [] [] (a_law_numbers K) fd) : Binds K fd p_law_numbers [] := F.bindsN fun _ _ _ _ _ _ us hl => (match us, hl with | [_, _], _ => rfl)
theorem bi_law_bent_row {K : Frag} {fd : FuncData} (F : FunD K "_law_bent_row" "_law_bent_row" (defArgs s_law_bent_row) (defBody s_law_bent_row) (defScope s_law_bent_row) [] [] (a_law_bent_row K) fd) : Binds K fd p_law_bent_row [] := F.bindsN fun _ _ _ _ _ _ us hl => (match us, hl with | [_, _], _ => rfl)
theorem bi_law_bent_numbers {K : Frag} {fd : FuncData} (F : FunD K "_law_bent_numbers" "_law_bent_numbers" (defArgs s_law_bent_numbers) (defBody s_law_bent_numbers) (defScope s_law_bent_numbers) [] [] (a_law_bent_numbers K) fd) : Binds K fd p_law_bent_numbers [] := F.bindsN fun _ _ _ _ _ _ us hl => (match us, hl with | [_, _], _ => rfl)
theorem bi_law_int {K : Frag} {fd : FuncData} (F : FunD K "_law_int" "_law_int" (defArgs s_law_int) (defBody s_law_int) (defScope s_law_int) [] [] (a_law_int K) fd) : Binds K fd p_law_int [] := F.bindsN fun _ _ _ _ _ _ us hl => (match us, hl with | [_], _ => rfl)
theorem bi_law_same {K : Frag} {fd : FuncData} (F : FunD K "_law_same" "_law_same" (defArgs s_law_same) (defBody s_law_same) (defScope s_law_same) [] [] (a_law_same K) fd) : Binds K fd p_law_same [] := F.bindsN fun _ _ _ _ _ _ us hl => (match us, hl with | [_, _], _ => rfl)
theorem bi_law_fault {K : Frag} {fd : FuncData} (F : FunD K "_law_fault" "_law_fault" (defArgs s_law_fault) (defBody s_law_fault) (defScope s_law_fault) [] [] (a_law_fault K) fd) : Binds K fd p_law_fault [] := F.bindsN fun _ _ _ _ _ _ us hl => (match us, hl with | [_, _], _ => rfl)
theorem bi_law_try_asked {K : Frag} {fd : FuncData} (F : FunD K "_law_try_asked" "_law_try_asked" (defArgs s_law_try_asked) (defBody s_law_try_asked) (defScope s_law_try_asked) [] [] (a_law_try_asked K) fd) : Binds K fd p_law_try_asked [] := F.bindsN fun _ _ _ _ _ _ us hl => (match us, hl with | [_, _, _], _ => rfl)
theorem bi_law_greatest_first {K : Frag} {fd : FuncData} (F : FunD K "_law_greatest_first" "_law_greatest_first" (defArgs s_law_greatest_first) (defBody s_law_greatest_first) (defScope s_law_greatest_first) [] [] (a_law_greatest_first K) fd) : Binds K fd p_law_greatest_first [] := F.bindsN fun _ _ _ _ _ _ us hl => (match us, hl with | [_], _ => rfl)
theorem bi_law_due {K : Frag} {fd : FuncData} (F : FunD K "_law_due" "_law_due" (defArgs s_law_due) (defBody s_law_due) (defScope s_law_due) [] [] (a_law_due K) fd) : Binds K fd p_law_due [] := F.bindsN fun _ _ _ _ _ _ us hl => (match us, hl with | [_, _], _ => rfl)
theorem bi_law_asked_right {K : Frag} {fd : FuncData} (F : FunD K "_law_asked_right" "_law_asked_right" (defArgs s_law_asked_right) (defBody s_law_asked_right) (defScope s_law_asked_right) [] [] (a_law_asked_right K) fd) : Binds K fd p_law_asked_right [] := F.bindsN fun _ _ _ _ _ _ us hl => (match us, hl with | [_, _], _ => rfl)
theorem bi_law {K : Frag} {fd : FuncData} (F : FunD K "law" "law" (defArgs s_law) (defBody s_law) (defScope s_law) [] [] (a_law K) fd) : Binds K fd p_law [] := F.bindsN fun _ _ _ _ _ _ us hl => (match us, hl with | [_], _ => rfl)
structure Tx (K : Frag) (mg : Str → Option Value) : Prop where
  any : nsIn K cStatics "thirdparty.any" = some none
  m_super : mg "super" = none
  m_len : mg "len" = none
  m_enumerate : mg "enumerate" = none
  m_tuple : mg "tuple" = none
  m_iter : mg "iter" = none
  m_sum : mg "sum" = none
  m_abs : mg "abs" = none
  m_int : mg "int" = none
  m_range : mg "range" = none
  m_isinstance : mg "isinstance" = none
  m_bool : mg "bool" = none
  m_str : mg "str" = none
  m_list : mg "list" = none
  m_zip : mg "zip" = none
  m_sorted : mg "sorted" = none
  m_ValueError : mg "ValueError" = none
  m_max : mg "max" = none
  m_min : mg "min" = none
  g_wall : mg "_wall" = some (.ref (a_wall K))
  g_check_count : mg "check_count" = some (.ref (a_check_count K))
  g_check_number : mg "check_number" = some (.ref (a_check_number K))
  g_check_numbers : mg "check_numbers" = some (.ref (a_check_numbers K))
  g_check_not_negative : mg "check_not_negative" = some (.ref (a_check_not_negative K))
  g_greatest_first : mg "greatest_first" = some (.ref (a_greatest_first K))
  g_row_allows : mg "row_allows" = some (.ref (a_row_allows K))
  g_row_witness : mg "row_witness" = some (.ref (a_row_witness K))
  g_check_row : mg "check_row" = some (.ref (a_check_row K))
  g_law_pool : mg "_law_pool" = some (.ref (a_law_pool K))
  g_law_draw : mg "_law_draw" = some (.ref (a_law_draw K))
  g_law_row : mg "_law_row" = some (.ref (a_law_row K))
  g_law_numbers : mg "_law_numbers" = some (.ref (a_law_numbers K))
  g_law_bent_row : mg "_law_bent_row" = some (.ref (a_law_bent_row K))
  g_law_bent_numbers : mg "_law_bent_numbers" = some (.ref (a_law_bent_numbers K))
  g_law_int : mg "_law_int" = some (.ref (a_law_int K))
  g_law_same : mg "_law_same" = some (.ref (a_law_same K))
  g_law_fault : mg "_law_fault" = some (.ref (a_law_fault K))
  g_law_try_asked : mg "_law_try_asked" = some (.ref (a_law_try_asked K))
  g_law_greatest_first : mg "_law_greatest_first" = some (.ref (a_law_greatest_first K))
  g_law_due : mg "_law_due" = some (.ref (a_law_due K))
  g_law_asked_right : mg "_law_asked_right" = some (.ref (a_law_asked_right K))
  g_law : mg "law" = some (.ref (a_law K))
  f_wall : ∃ fd, FunD K "_wall" "_wall" (defArgs s_wall) (defBody s_wall) (defScope s_wall) [] [] (a_wall K) fd
  f_check_count : ∃ fd, FunD K "check_count" "check_count" (defArgs s_check_count) (defBody s_check_count) (defScope s_check_count) [] [] (a_check_count K) fd
  f_check_number : ∃ fd, FunD K "check_number" "check_number" (defArgs s_check_number) (defBody s_check_number) (defScope s_check_number) [] [] (a_check_number K) fd
  f_check_numbers : ∃ fd, FunD K "check_numbers" "check_numbers" (defArgs s_check_numbers) (defBody s_check_numbers) (defScope s_check_numbers) [] [] (a_check_numbers K) fd
  f_check_not_negative : ∃ fd, FunD K "check_not_negative" "check_not_negative" (defArgs s_check_not_negative) (defBody s_check_not_negative) (defScope s_check_not_negative) [] [] (a_check_not_negative K) fd
  f_Telling_init : ∃ fd, FunD K "__init__" "Telling.__init__" (defArgs s_Telling_init) (defBody s_Telling_init) (defScope s_Telling_init) [] [] (a_Telling_init K) fd
  f_Telling_len : ∃ fd, FunD K "__len__" "Telling.__len__" (defArgs s_Telling_len) (defBody s_Telling_len) (defScope s_Telling_len) [] [] (a_Telling_len K) fd
  f_Telling_iter : ∃ fd, FunD K "__iter__" "Telling.__iter__" (defArgs s_Telling_iter) (defBody s_Telling_iter) (defScope s_Telling_iter) [] [] (a_Telling_iter K) fd
  f_Telling_getitem : ∃ fd, FunD K "__getitem__" "Telling.__getitem__" (defArgs s_Telling_getitem) (defBody s_Telling_getitem) (defScope s_Telling_getitem) [] [] (a_Telling_getitem K) fd
  f_Telling_eq : ∃ fd, FunD K "__eq__" "Telling.__eq__" (defArgs s_Telling_eq) (defBody s_Telling_eq) (defScope s_Telling_eq) [] [] (a_Telling_eq K) fd
  f_Telling_lt : ∃ fd, FunD K "__lt__" "Telling.__lt__" (defArgs s_Telling_lt) (defBody s_Telling_lt) (defScope s_Telling_lt) [] [] (a_Telling_lt K) fd
  f_Telling_add : ∃ fd, FunD K "__add__" "Telling.__add__" (defArgs s_Telling_add) (defBody s_Telling_add) (defScope s_Telling_add) [] [] (a_Telling_add K) fd
  f_Telling_mul : ∃ fd, FunD K "__mul__" "Telling.__mul__" (defArgs s_Telling_mul) (defBody s_Telling_mul) (defScope s_Telling_mul) [] [] (a_Telling_mul K) fd
  f_Telling_rmul : ∃ fd, FunD K "__rmul__" "Telling.__rmul__" (defArgs s_Telling_rmul) (defBody s_Telling_rmul) (defScope s_Telling_rmul) [] [] (a_Telling_rmul K) fd
  f_Telling_xor : ∃ fd, FunD K "__xor__" "Telling.__xor__" (defArgs s_Telling_xor) (defBody s_Telling_xor) (defScope s_Telling_xor) [] [] (a_Telling_xor K) fd
  f_Telling_abs : ∃ fd, FunD K "__abs__" "Telling.__abs__" (defArgs s_Telling_abs) (defBody s_Telling_abs) (defScope s_Telling_abs) [] [] (a_Telling_abs K) fd
  f_Telling_no_steeper : ∃ fd, FunD K "no_steeper" "Telling.no_steeper" (defArgs s_Telling_no_steeper) (defBody s_Telling_no_steeper) (defScope s_Telling_no_steeper) [] [] (a_Telling_no_steeper K) fd
  f_Telling_moved : ∃ fd, FunD K "moved" "Telling.moved" (defArgs s_Telling_moved) (defBody s_Telling_moved) (defScope s_Telling_moved) [.int (1)] [] (a_Telling_moved K) fd
  f_Telling_check_place : ∃ fd, FunD K "_check_place" "Telling._check_place" (defArgs s_Telling_check_place) (defBody s_Telling_check_place) (defScope s_Telling_check_place) [] [] (a_Telling_check_place K) fd
  f_Telling_check_alike : ∃ fd, FunD K "_check_alike" "Telling._check_alike" (defArgs s_Telling_check_alike) (defBody s_Telling_check_alike) (defScope s_Telling_check_alike) [] [] (a_Telling_check_alike K) fd
  f_greatest_first : ∃ fd, FunD K "greatest_first" "greatest_first" (defArgs s_greatest_first) (defBody s_greatest_first) (defScope s_greatest_first) [] [] (a_greatest_first K) fd
  f_row_allows : ∃ fd, FunD K "row_allows" "row_allows" (defArgs s_row_allows) (defBody s_row_allows) (defScope s_row_allows) [] [] (a_row_allows K) fd
  f_row_witness : ∃ fd, FunD K "row_witness" "row_witness" (defArgs s_row_witness) (defBody s_row_witness) (defScope s_row_witness) [] [] (a_row_witness K) fd
  f_check_row : ∃ fd, FunD K "check_row" "check_row" (defArgs s_check_row) (defBody s_check_row) (defScope s_check_row) [] [] (a_check_row K) fd
  f_law_pool : ∃ fd, FunD K "_law_pool" "_law_pool" (defArgs s_law_pool) (defBody s_law_pool) (defScope s_law_pool) [] [] (a_law_pool K) fd
  f_law_draw : ∃ fd, FunD K "_law_draw" "_law_draw" (defArgs s_law_draw) (defBody s_law_draw) (defScope s_law_draw) [] [] (a_law_draw K) fd
  f_law_row : ∃ fd, FunD K "_law_row" "_law_row" (defArgs s_law_row) (defBody s_law_row) (defScope s_law_row) [] [] (a_law_row K) fd
  f_law_numbers : ∃ fd, FunD K "_law_numbers" "_law_numbers" (defArgs s_law_numbers) (defBody s_law_numbers) (defScope s_law_numbers) [] [] (a_law_numbers K) fd
  f_law_bent_row : ∃ fd, FunD K "_law_bent_row" "_law_bent_row" (defArgs s_law_bent_row) (defBody s_law_bent_row) (defScope s_law_bent_row) [] [] (a_law_bent_row K) fd
  f_law_bent_numbers : ∃ fd, FunD K "_law_bent_numbers" "_law_bent_numbers" (defArgs s_law_bent_numbers) (defBody s_law_bent_numbers) (defScope s_law_bent_numbers) [] [] (a_law_bent_numbers K) fd
  f_law_int : ∃ fd, FunD K "_law_int" "_law_int" (defArgs s_law_int) (defBody s_law_int) (defScope s_law_int) [] [] (a_law_int K) fd
  f_law_same : ∃ fd, FunD K "_law_same" "_law_same" (defArgs s_law_same) (defBody s_law_same) (defScope s_law_same) [] [] (a_law_same K) fd
  f_law_fault : ∃ fd, FunD K "_law_fault" "_law_fault" (defArgs s_law_fault) (defBody s_law_fault) (defScope s_law_fault) [] [] (a_law_fault K) fd
  f_law_try_asked : ∃ fd, FunD K "_law_try_asked" "_law_try_asked" (defArgs s_law_try_asked) (defBody s_law_try_asked) (defScope s_law_try_asked) [] [] (a_law_try_asked K) fd
  f_law_greatest_first : ∃ fd, FunD K "_law_greatest_first" "_law_greatest_first" (defArgs s_law_greatest_first) (defBody s_law_greatest_first) (defScope s_law_greatest_first) [] [] (a_law_greatest_first K) fd
  f_law_due : ∃ fd, FunD K "_law_due" "_law_due" (defArgs s_law_due) (defBody s_law_due) (defScope s_law_due) [] [] (a_law_due K) fd
  f_law_asked_right : ∃ fd, FunD K "_law_asked_right" "_law_asked_right" (defArgs s_law_asked_right) (defBody s_law_asked_right) (defScope s_law_asked_right) [] [] (a_law_asked_right K) fd
  f_law : ∃ fd, FunD K "law" "law" (defArgs s_law) (defBody s_law) (defScope s_law) [] [] (a_law K) fd
  e_NoPerson : Exn PG K mg "NoPerson" (c_NoPerson K) (i_NoPerson K) ["person"] [("person", "person")]
  e_BadNumber : Exn PG K mg "BadNumber" (c_BadNumber K) (i_BadNumber K) ["place", "number"] [("place", "place"), ("number", "number")]
  e_TooLong : Exn PG K mg "TooLong" (c_TooLong K) (i_TooLong K) ["count"] [("count", "count")]
  e_WrongLength : Exn PG K mg "WrongLength" (c_WrongLength K) (i_WrongLength K) ["found", "wanted"] [("found", "found"), ("wanted", "wanted")]
  e_NotFalling : Exn PG K mg "NotFalling" (c_NotFalling K) (i_NotFalling K) ["place"] [("place", "place")]
  cTelling : Cls K (c_Telling K)
  gTelling : mg "Telling" = some (.ref (c_Telling K))
  tTelling : EF.ClsT K (c_Telling K)
  kTelling : Mk K (c_Telling K) (a_Telling_init K)
  nTelling_entries : NoAttr K (c_Telling K) "entries"
  v_MOST_PEOPLE : ∃ t, mg "MOST_PEOPLE" = some (.int 30 t)
  v_LIMIT : ∃ t, mg "LIMIT" = some (.int 1000000000000000000000000000000 t)
  wTelling_len : findIn K (.ref (c_Telling K)) "__len__" = some (some (.ref (a_Telling_len K))) ∧ isFn K (.ref (a_Telling_len K)) = true
  wTelling_iter : findIn K (.ref (c_Telling K)) "__iter__" = some (some (.ref (a_Telling_iter K))) ∧ isFn K (.ref (a_Telling_iter K)) = true
  wTelling_getitem : findIn K (.ref (c_Telling K)) "__getitem__" = some (some (.ref (a_Telling_getitem K))) ∧ isFn K (.ref (a_Telling_getitem K)) = true
  wTelling_check_place : Meth K (c_Telling K) "_check_place" (a_Telling_check_place K)
  iTelling_getitem : OwnIx K (c_Telling K) (a_Telling_getitem K)
  gNightsError : mg "NightsError" = some (.ref (c_NightsError K))
  xNoPerson : XfC K (c_NoPerson K) ∧ ExcC K (c_NoPerson K)
  nNoPerson_person : findIn K (.ref (c_NoPerson K)) "person" = some none
  xNotFalling : XfC K (c_NotFalling K) ∧ ExcC K (c_NotFalling K)
  nNotFalling_place : findIn K (.ref (c_NotFalling K)) "place" = some none
  xTooLong : XfC K (c_TooLong K) ∧ ExcC K (c_TooLong K)
  nTooLong_count : findIn K (.ref (c_TooLong K)) "count" = some none
  xBadNumber : XfC K (c_BadNumber K) ∧ ExcC K (c_BadNumber K)
  nBadNumber_place : findIn K (.ref (c_BadNumber K)) "place" = some none
  nBadNumber_number : findIn K (.ref (c_BadNumber K)) "number" = some none
  mNotFalling_NotFalling : exmOne K (.ref (c_NotFalling K)) (.ref (c_NotFalling K)) = some true
  mNotFalling_TooLong : exmOne K (.ref (c_NotFalling K)) (.ref (c_TooLong K)) = some false
  mNotFalling_BadNumber : exmOne K (.ref (c_NotFalling K)) (.ref (c_BadNumber K)) = some false
  kNotFalling_TooLong : kitOne K (.ref (c_NotFalling K)) (.ref (c_TooLong K)) = some false
  kNotFalling_BadNumber : kitOne K (.ref (c_NotFalling K)) (.ref (c_BadNumber K)) = some false
  kNotFalling_NightsError : kitOne K (.ref (c_NotFalling K)) (.ref (c_NightsError K)) = some true
  kNotFalling_ValueError : kitOne K (.ref (c_NotFalling K)) (.type "ValueError") = some true
  mTooLong_NotFalling : exmOne K (.ref (c_TooLong K)) (.ref (c_NotFalling K)) = some false
  mTooLong_TooLong : exmOne K (.ref (c_TooLong K)) (.ref (c_TooLong K)) = some true
  mTooLong_BadNumber : exmOne K (.ref (c_TooLong K)) (.ref (c_BadNumber K)) = some false
  kTooLong_NotFalling : kitOne K (.ref (c_TooLong K)) (.ref (c_NotFalling K)) = some false
  kTooLong_BadNumber : kitOne K (.ref (c_TooLong K)) (.ref (c_BadNumber K)) = some false
  kTooLong_NightsError : kitOne K (.ref (c_TooLong K)) (.ref (c_NightsError K)) = some true
  kTooLong_ValueError : kitOne K (.ref (c_TooLong K)) (.type "ValueError") = some true
  mBadNumber_NotFalling : exmOne K (.ref (c_BadNumber K)) (.ref (c_NotFalling K)) = some false
  mBadNumber_TooLong : exmOne K (.ref (c_BadNumber K)) (.ref (c_TooLong K)) = some false
  mBadNumber_BadNumber : exmOne K (.ref (c_BadNumber K)) (.ref (c_BadNumber K)) = some true
  kBadNumber_NotFalling : kitOne K (.ref (c_BadNumber K)) (.ref (c_NotFalling K)) = some false
  kBadNumber_TooLong : kitOne K (.ref (c_BadNumber K)) (.ref (c_TooLong K)) = some false
  kBadNumber_NightsError : kitOne K (.ref (c_BadNumber K)) (.ref (c_NightsError K)) = some true
  kBadNumber_ValueError : kitOne K (.ref (c_BadNumber K)) (.type "ValueError") = some true
theorem tx_of {K : Frag} {h : Heap} {mg : Str → Option Value} (c : SaysX bx fn er "/claim/cut.py" K) (X : K.In h) (G : h.Ns mainGlobals mg) : Tx K mg where
  any := eqO_ok (fact c 1)
  m_super := free_ok X G (x := "super") (fact c 0)
  m_len := free_ok X G (x := "len") (fact c 2)
  m_enumerate := free_ok X G (x := "enumerate") (fact c 3)
  m_tuple := free_ok X G (x := "tuple") (fact c 4)
  m_iter := free_ok X G (x := "iter") (fact c 5)
  m_sum := free_ok X G (x := "sum") (fact c 6)
  m_abs := free_ok X G (x := "abs") (fact c 7)
  m_int := free_ok X G (x := "int") (fact c 8)
  m_range := free_ok X G (x := "range") (fact c 9)
  m_isinstance := free_ok X G (x := "isinstance") (fact c 10)
  m_bool := free_ok X G (x := "bool") (fact c 11)
  m_str := free_ok X G (x := "str") (fact c 12)
  m_list := free_ok X G (x := "list") (fact c 13)
  m_zip := free_ok X G (x := "zip") (fact c 14)
  m_sorted := free_ok X G (x := "sorted") (fact c 15)
  m_ValueError := free_ok X G (x := "ValueError") (fact c 16)
  m_max := free_ok X G (x := "max") (fact c 17)
  m_min := free_ok X G (x := "min") (fact c 18)
  g_wall := glo_ok X G (x := "_wall") (fact c 19)
  g_check_count := glo_ok X G (x := "check_count") (fact c 20)
  g_check_number := glo_ok X G (x := "check_number") (fact c 21)
  g_check_numbers := glo_ok X G (x := "check_numbers") (fact c 22)
  g_check_not_negative := glo_ok X G (x := "check_not_negative") (fact c 23)
  g_greatest_first := glo_ok X G (x := "greatest_first") (fact c 24)
  g_row_allows := glo_ok X G (x := "row_allows") (fact c 25)
  g_row_witness := glo_ok X G (x := "row_witness") (fact c 26)
  g_check_row := glo_ok X G (x := "check_row") (fact c 27)
  g_law_pool := glo_ok X G (x := "_law_pool") (fact c 28)
  g_law_draw := glo_ok X G (x := "_law_draw") (fact c 29)
  g_law_row := glo_ok X G (x := "_law_row") (fact c 30)
  g_law_numbers := glo_ok X G (x := "_law_numbers") (fact c 31)
  g_law_bent_row := glo_ok X G (x := "_law_bent_row") (fact c 32)
  g_law_bent_numbers := glo_ok X G (x := "_law_bent_numbers") (fact c 33)
  g_law_int := glo_ok X G (x := "_law_int") (fact c 34)
  g_law_same := glo_ok X G (x := "_law_same") (fact c 35)
  g_law_fault := glo_ok X G (x := "_law_fault") (fact c 36)
  g_law_try_asked := glo_ok X G (x := "_law_try_asked") (fact c 37)
  g_law_greatest_first := glo_ok X G (x := "_law_greatest_first") (fact c 38)
  g_law_due := glo_ok X G (x := "_law_due") (fact c 39)
  g_law_asked_right := glo_ok X G (x := "_law_asked_right") (fact c 40)
  g_law := glo_ok X G (x := "law") (fact c 41)
  f_wall := c.def_ 0
  f_check_count := c.def_ 1
  f_check_number := c.def_ 2
  f_check_numbers := c.def_ 3
  f_check_not_negative := c.def_ 4
  f_Telling_init := c.def_ 5
  f_Telling_len := c.def_ 6
  f_Telling_iter := c.def_ 7
  f_Telling_getitem := c.def_ 8
  f_Telling_eq := c.def_ 9
  f_Telling_lt := c.def_ 10
  f_Telling_add := c.def_ 11
  f_Telling_mul := c.def_ 12
  f_Telling_rmul := c.def_ 13
  f_Telling_xor := c.def_ 14
  f_Telling_abs := c.def_ 15
  f_Telling_no_steeper := c.def_ 16
  f_Telling_moved := c.def_ 17
  f_Telling_check_place := c.def_ 18
  f_Telling_check_alike := c.def_ 19
  f_greatest_first := c.def_ 20
  f_row_allows := c.def_ 21
  f_row_witness := c.def_ 22
  f_check_row := c.def_ 23
  f_law_pool := c.def_ 24
  f_law_draw := c.def_ 25
  f_law_row := c.def_ 26
  f_law_numbers := c.def_ 27
  f_law_bent_row := c.def_ 28
  f_law_bent_numbers := c.def_ 29
  f_law_int := c.def_ 30
  f_law_same := c.def_ 31
  f_law_fault := c.def_ 32
  f_law_try_asked := c.def_ 33
  f_law_greatest_first := c.def_ 34
  f_law_due := c.def_ 35
  f_law_asked_right := c.def_ 36
  f_law := c.def_ 37
  e_NoPerson := errD_ok (d := ⟨"NoPerson", e_NoPerson, "NoPerson.__init__", ["person"]⟩) X G tx_NoPerson rfl (free_ok X G (x := "super") (fact c 0)) (eqO_ok (fact c 1)) (c.err_ (d := ⟨"NoPerson", e_NoPerson, "NoPerson.__init__", ["person"]⟩) 0).1 (c.err_ (d := ⟨"NoPerson", e_NoPerson, "NoPerson.__init__", ["person"]⟩) 0).2
  e_BadNumber := errD_ok (d := ⟨"BadNumber", e_BadNumber, "BadNumber.__init__", ["place", "number"]⟩) X G tx_BadNumber rfl (free_ok X G (x := "super") (fact c 0)) (eqO_ok (fact c 1)) (c.err_ (d := ⟨"BadNumber", e_BadNumber, "BadNumber.__init__", ["place", "number"]⟩) 1).1 (c.err_ (d := ⟨"BadNumber", e_BadNumber, "BadNumber.__init__", ["place", "number"]⟩) 1).2
  e_TooLong := errD_ok (d := ⟨"TooLong", e_TooLong, "TooLong.__init__", ["count"]⟩) X G tx_TooLong rfl (free_ok X G (x := "super") (fact c 0)) (eqO_ok (fact c 1)) (c.err_ (d := ⟨"TooLong", e_TooLong, "TooLong.__init__", ["count"]⟩) 2).1 (c.err_ (d := ⟨"TooLong", e_TooLong, "TooLong.__init__", ["count"]⟩) 2).2
  e_WrongLength := errD_ok (d := ⟨"WrongLength", e_WrongLength, "WrongLength.__init__", ["found", "wanted"]⟩) X G tx_WrongLength rfl (free_ok X G (x := "super") (fact c 0)) (eqO_ok (fact c 1)) (c.err_ (d := ⟨"WrongLength", e_WrongLength, "WrongLength.__init__", ["found", "wanted"]⟩) 3).1 (c.err_ (d := ⟨"WrongLength", e_WrongLength, "WrongLength.__init__", ["found", "wanted"]⟩) 3).2
  e_NotFalling := errD_ok (d := ⟨"NotFalling", e_NotFalling, "NotFalling.__init__", ["place"]⟩) X G tx_NotFalling rfl (free_ok X G (x := "super") (fact c 0)) (eqO_ok (fact c 1)) (c.err_ (d := ⟨"NotFalling", e_NotFalling, "NotFalling.__init__", ["place"]⟩) 4).1 (c.err_ (d := ⟨"NotFalling", e_NotFalling, "NotFalling.__init__", ["place"]⟩) 4).2
  cTelling := cls_ok (fact c 42)
  gTelling := glo_ok X G (x := "Telling") (fact c 43)
  tTelling := EF.cls_ok (fact c 44)
  kTelling := mkr_ok (fact c 45)
  nTelling_entries := noat_ok (x := "Telling") (f := "entries") (fact c 46)
  v_MOST_PEOPLE := int_ok X G (x := "MOST_PEOPLE") (i := 30) (fact c 47)
  v_LIMIT := int_ok X G (x := "LIMIT") (i := 1000000000000000000000000000000) (fact c 48)
  wTelling_len := FB.sp_ok (fact c 49)
  wTelling_iter := FB.sp_ok (fact c 50)
  wTelling_getitem := FB.sp_ok (fact c 51)
  wTelling_check_place := meth_ok (x := "Telling") (m := "_check_place") (fact c 52)
  iTelling_getitem := FC.ix_ok (fact c 53)
  gNightsError := glo_ok X G (x := "NightsError") (fact c 54)
  xNoPerson := EF.exc_ok (fact c 55)
  nNoPerson_person := noat_ok (x := "NoPerson") (f := "person") (fact c 56)
  xNotFalling := EF.exc_ok (fact c 57)
  nNotFalling_place := noat_ok (x := "NotFalling") (f := "place") (fact c 58)
  xTooLong := EF.exc_ok (fact c 59)
  nTooLong_count := noat_ok (x := "TooLong") (f := "count") (fact c 60)
  xBadNumber := EF.exc_ok (fact c 61)
  nBadNumber_place := noat_ok (x := "BadNumber") (f := "place") (fact c 62)
  nBadNumber_number := noat_ok (x := "BadNumber") (f := "number") (fact c 63)
  mNotFalling_NotFalling := of_decide_eq_true (fact c 64)
  mNotFalling_TooLong := of_decide_eq_true (fact c 65)
  mNotFalling_BadNumber := of_decide_eq_true (fact c 66)
  kNotFalling_TooLong := of_decide_eq_true (fact c 67)
  kNotFalling_BadNumber := of_decide_eq_true (fact c 68)
  kNotFalling_NightsError := of_decide_eq_true (fact c 69)
  kNotFalling_ValueError := of_decide_eq_true (fact c 70)
  mTooLong_NotFalling := of_decide_eq_true (fact c 71)
  mTooLong_TooLong := of_decide_eq_true (fact c 72)
  mTooLong_BadNumber := of_decide_eq_true (fact c 73)
  kTooLong_NotFalling := of_decide_eq_true (fact c 74)
  kTooLong_BadNumber := of_decide_eq_true (fact c 75)
  kTooLong_NightsError := of_decide_eq_true (fact c 76)
  kTooLong_ValueError := of_decide_eq_true (fact c 77)
  mBadNumber_NotFalling := of_decide_eq_true (fact c 78)
  mBadNumber_TooLong := of_decide_eq_true (fact c 79)
  mBadNumber_BadNumber := of_decide_eq_true (fact c 80)
  kBadNumber_NotFalling := of_decide_eq_true (fact c 81)
  kBadNumber_TooLong := of_decide_eq_true (fact c 82)
  kBadNumber_NightsError := of_decide_eq_true (fact c 83)
  kBadNumber_ValueError := of_decide_eq_true (fact c 84)
end K34

set_option maxRecDepth 100000
set_option maxHeartbeats 4000000
namespace K34
open PySem PySem.Spec PyProof.Rows L2
section
variable {w : World} {K : PySem.W.Frag} {mg : Str → Option Value} {base : Heap}
/-! ### the law's draws -/
def spPool (K : PySem.W.Frag) : Sp := fun vs H Q _ => ∃ (a : Addr) (ns : List Int) (i : Nat), vs = [.ref a, .int (i : Nat)] ∧ SqL K H a (ns.map V.int) ∧ ∀ l st, H l = none → PoolOk st → Q (.ref l) (upd H l (.lst st))
theorem ok_law_pool (T : Tx K mg) : Ok PG w K mg base CX0 2 (a_law_pool K) p_law_pool (spPool K) := by
  refine Ok.of 1 T.f_law_pool sc_law_pool bi_law_pool (by decide) (fun vs H Q E h => ?_) (fun cdv A outer s H vs Q E hr h => ?_)
  · obtain ⟨_, _, _, rfl, _⟩ := h
    rfl
  · obtain ⟨a, ns, i, rfl, hs, q⟩ := h
    have nd := sc_law_pool.nd
    refine ⟨_, pss_cons (ps_set (i := 2) nd rfl (.inl rfl) pe_int)
      (pss_cons (ps_if (pt_cmpR op_lt (pv 1) (pe_callB call_len_seq (by rfl) T.m_len PySem.boot_len (pa_cons (pv 0) pa_nil)) (nomark _)) (pss_one (ps_set (i := 2) nd rfl (.inl rfl) (pe_callB call_abs (by rfl) T.m_abs (by decide +kernel) (pa_cons (pe_ix ix_list (pv 0) (pv 1) (fun _ _ => rfl)) pa_nil)))) pss_nil)
      (pss_cons (ps_if (pt_cmpR op_ge (pv 2) (pe_op op_pow pe_int pe_int) (nomark _)) (pss_one (ps_ret (pe_lst (pa_cons (pe_op op_sub (pv 2) (pe_op op_pow pe_int pe_int)) (pa_cons pe_int (pa_cons pe_int pa_nil)))))) pss_nil)
      (pss_one (ps_ret (pe_lst (pa_cons (pe_un un_neg pe_int) (pa_cons (pe_op op_modN (pe_callTy call_int1 (by rfl) T.m_int (by decide +kernel) (pa_cons (pv 2) pa_nil)) pe_int) (pa_cons (pe_op op_add (pv 1) pe_int) pa_nil)))))))), ?_⟩
    refine ⟨_, rfl, _, rfl, a, _, rfl, .inl hs, _, _, rfl, rfl, _, rfl, ?_⟩
    refine ite2 (fun c => ?_) (fun c => ?_)
    · have hi : i < ns.length := by
        have := of_decide_eq_true c
        rw [List.length_map] at this
        omega
      refine ⟨_, rfl, _, rfl, a, _, _, .int ns[i], rfl, rfl, hs, atI_nat (by rw [List.getElem?_map, List.getElem?_eq_getElem hi]; rfl), _, rfl, ?_⟩
      generalize (if ns[i] < 0 then -ns[i] else ns[i]) = z
      refine ⟨_, rfl, _, _, rfl, rfl, ⟨by decide, by decide, by decide⟩, _, _, rfl, rfl, _, rfl, ?_⟩
      refine ite2 (fun c => ?_) (fun c => ?_)
      · exact ⟨_, rfl, _, _, rfl, rfl, ⟨by decide, by decide, by decide⟩, _, _, rfl, rfl, by show 3 ≤ sizeLine; decide, fun l hl => q l _ hl ⟨_, _, _, rfl, by decide, by decide⟩⟩
      · exact ⟨_, rfl, _, rfl, .inl ⟨_, rfl, _, _, rfl, rfl, (by show (2147483399 : Int) ≠ 0; decide), _, rfl, _, _, rfl, rfl, by show 3 ≤ sizeLine; decide, fun l hl => q l _ hl ⟨_, _, _, rfl, (mod_lt (by decide)).1, Int.lt_trans (mod_lt (by decide)).2 (by decide)⟩⟩⟩
    · refine ⟨_, rfl, _, _, rfl, rfl, ⟨by decide, by decide, by decide⟩, _, _, rfl, rfl, _, rfl, ?_⟩
      refine ite2 (fun c => ?_) (fun c => ?_)
      · exact ⟨_, rfl, _, _, rfl, rfl, ⟨by decide, by decide, by decide⟩, _, _, rfl, rfl, by show 3 ≤ sizeLine; decide, fun l hl => q l _ hl ⟨_, _, _, rfl, by decide, by decide⟩⟩
      · exact ⟨_, rfl, _, rfl, .inl ⟨_, rfl, _, _, rfl, rfl, (by show (2147483399 : Int) ≠ 0; decide), _, rfl, _, _, rfl, rfl, by show 3 ≤ sizeLine; decide, fun l hl => q l _ hl ⟨_, _, _, rfl, (mod_lt (by decide)).1, Int.lt_trans (mod_lt (by decide)).2 (by decide)⟩⟩⟩
def spDraw (_K : PySem.W.Frag) : Sp := fun vs H Q _ => ∃ (p : Addr) (st : List V) (m : Int), vs = [.ref p, .int m] ∧ 0 < m ∧ m.natAbs < 2 ^ 200 ∧ H p = some (.lst st) ∧ PoolOk st ∧ ∀ v st', 0 ≤ v → v < m → PoolOk st' → Q (.int v) (upd H p (.lst st'))
theorem ok_law_draw (T : Tx K mg) : Ok PG w K mg base CX0 2 (a_law_draw K) p_law_draw (spDraw K) := by
  refine Ok.of 1 T.f_law_draw sc_law_draw bi_law_draw (by decide) (fun vs H Q E h => ?_) (fun cdv A outer s H vs Q E hr h => ?_)
  · obtain ⟨_, _, _, rfl, _⟩ := h
    rfl
  · obtain ⟨p, st, m, rfl, m0, mw, hp, ⟨a, b, c, rfl, b0, b1⟩, q⟩ := h
    have nd := sc_law_draw.nd
    refine ⟨_, pss_cons (ps_if (pt_cmpR op_ge (pe_ix ix_list (pv 0) pe_int (fun _ _ => rfl)) pe_int (nomark _)) (pss_cons (ps_set (i := 2) nd rfl (.inl rfl) (pe_op op_modN (pe_callTy call_int1 (by rfl) T.m_int (by decide +kernel) (pa_cons (pe_ix ix_list (pv 0) pe_int (fun _ _ => rfl)) pa_nil)) (pv 1)))
        (pss_cons (ps_asg (pe_op op_fdivW (pe_ix ix_list (pv 0) pe_int (fun _ _ => rfl)) (pv 1)) (pg_sub (pv 0) pe_int set_list)) (pss_one (ps_ret (pv 2))))) pss_nil)
      (pss_cons (ps_asg (pe_op op_add (pe_ix ix_list (pv 0) pe_int (fun _ _ => rfl)) pe_int) (pg_sub (pv 0) pe_int set_list))
      (pss_cons (ps_set (i := 3) nd rfl (.inl rfl) (pe_ix ix_list (pv 0) pe_int (fun _ _ => rfl)))
      (pss_cons (ps_set (i := 3) nd rfl (.inl rfl) (pe_op op_modN (pe_callTy call_int1 (by rfl) T.m_int (by decide +kernel) (pa_cons (pe_op op_add (pe_op op_add (pe_op op_mul (pv 3) (pv 3)) (pe_op op_mul (pe_ix ix_list (pv 0) pe_int (fun _ _ => rfl)) pe_int)) pe_int) pa_nil)) pe_int))
      (pss_cons (ps_set (i := 3) nd rfl (.inl rfl) (pe_op op_modN (pe_callTy call_int1 (by rfl) T.m_int (by decide +kernel) (pa_cons (pe_op op_add (pe_op op_mul (pv 3) (pv 3)) (pe_op op_fdiv (pv 3) pe_int)) pa_nil)) pe_int))
      (pss_cons (ps_asg (pv 3) (pg_sub (pv 0) pe_int set_list))
      (pss_one (ps_ret (pe_op op_modN (pe_callTy call_int1 (by rfl) T.m_int (by decide +kernel) (pa_cons (pe_op op_fdiv (pv 3) pe_int) pa_nil)) (pv 1))))))))), ?_⟩
    have at0 : ∀ x y z : V, atI [x, y, z] (0 : Int) = some x := fun _ _ _ => rfl
    have at1 : ∀ x y z : V, atI [x, y, z] (1 : Int) = some y := fun _ _ _ => rfl
    have at2 : ∀ x y z : V, atI [x, y, z] (2 : Int) = some z := fun _ _ _ => rfl
    refine ⟨_, rfl, p, _, _, _, rfl, rfl, SqL.of hp, at0 _ _ _, _, _, rfl, rfl, _, rfl, ?_⟩
    refine ite2 (fun ca => ?_) (fun ca => ?_)
    · refine ⟨_, rfl, p, _, _, _, rfl, rfl, SqL.of hp, at0 _ _ _, .inl ⟨_, rfl, _, rfl, _, _, rfl, rfl, by omega, ?_⟩⟩
      refine ⟨_, rfl, p, _, _, _, rfl, rfl, SqL.of hp, at0 _ _ _, _, rfl, _, _, rfl, rfl, wide_div m0 mw (by decide) (by decide), ?_⟩
      refine ⟨_, rfl, p, _, _, 0, rfl, rfl, hp, rfl, _, rfl, ?_⟩
      exact q _ _ (mod_lt m0).1 (mod_lt m0).2 ⟨_, _, _, rfl, b0, b1⟩
    · refine ⟨_, rfl, p, _, _, _, rfl, rfl, SqL.of hp, at2 _ _ _, _, _, rfl, rfl, ?_⟩
      refine ⟨_, rfl, p, _, _, 2, rfl, rfl, hp, rfl, ?_⟩
      refine ⟨_, rfl, p, _, _, _, rfl, rfl, SqL.of upd_same, at1 _ _ _, ?_⟩
      refine ⟨_, rfl, _, rfl, _, _, rfl, rfl, .inl ⟨by omega, by omega⟩, ?_⟩
      refine ⟨_, rfl, p, _, _, _, rfl, rfl, SqL.of upd_same, at2 _ _ _, _, _, rfl, rfl, .inr ⟨by decide, by decide⟩, ?_⟩
      refine ⟨_, _, rfl, rfl, _, _, rfl, rfl, .inl ⟨_, rfl, _, _, rfl, rfl, (by show (2147483399 : Int) ≠ 0; decide), ?_⟩⟩
      have x1 := mod_lt (a := (b * b + (c + 1) * 3571 + 40692 : Int)) (m := 2147483399) (by decide)
      refine ⟨_, rfl, _, rfl, _, _, rfl, rfl, .inl ⟨Int.lt_of_lt_of_le (by decide : -(2 ^ 64 : Int) < 0) x1.1, Int.lt_trans x1.2 (by decide)⟩, _, rfl, _, _, rfl, rfl, ⟨by decide, by decide⟩, _, _, rfl, rfl, .inl ⟨_, rfl, _, _, rfl, rfl, (by show (2147483629 : Int) ≠ 0; decide), ?_⟩⟩
      refine ⟨_, rfl, _, rfl, p, _, _, 1, rfl, rfl, upd_same, rfl, ?_⟩
      refine ⟨_, rfl, _, _, rfl, rfl, ⟨by decide, by decide⟩, .inl ⟨_, rfl, _, rfl, _, _, rfl, rfl, by omega, ?_⟩⟩
      rw [upd_upd]
      exact q _ _ (mod_lt m0).1 (mod_lt m0).2 ⟨_, _, _, rfl, (mod_lt (m := 2147483629) (by decide)).1, Int.lt_trans (mod_lt (m := 2147483629) (by decide)).2 (by decide)⟩
end
end K34
namespace K34
open PySem PySem.Spec PyProof.Rows L2
section
variable {w : World} {K : PySem.W.Frag} {mg : Str → Option Value} {base : Heap}
def spInt : Sp := fun vs H Q _ => ∃ (n : Int), vs = [.int n] ∧ Q (.bl true) H
theorem ok_law_int (T : Tx K mg) : Ok PG w K mg base CX0 2 (a_law_int K) p_law_int spInt := by
  refine Ok.of 1 T.f_law_int sc_law_int bi_law_int (by decide) (fun vs H Q E h => ?_) (fun cdv A outer s H vs Q E hr h => ?_)
  · obtain ⟨_, rfl, _⟩ := h
    rfl
  · obtain ⟨n, rfl, q⟩ := h
    refine ⟨_, pss_one (ps_ret (pe_and (pe_callB call_isi (by rfl) T.m_isinstance (by decide +kernel) (pa_cons (pv 0) (pa_cons (pe_bltn (v := .ty "int") (by rfl) T.m_int (by decide +kernel) rfl) pa_nil)))
      (pe_one (pe_not (pe_callB call_isi (by rfl) T.m_isinstance (by decide +kernel) (pa_cons (pv 0) (pa_cons (pe_bltn (v := .ty "bool") (by rfl) T.m_bool (by decide +kernel) rfl) pa_nil))))))), ?_⟩
    refine ⟨_, rfl, _, _, _, _, true, rfl, .ty _, .base (.int n), kit_ty (by decide +kernel), _, rfl, yep rfl ?_⟩
    exact ⟨_, rfl, _, _, _, _, false, rfl, .ty _, .base (.int n), kit_ty (by decide +kernel), _, rfl, q⟩
def spSame (K : PySem.W.Frag) (n : Nat) : Sp := fun vs H Q _ => ∃ (x y : V), vs = [x, y] ∧ Eqd K n H x y ∧ Q (.bl true) H
def spLow (K : PySem.W.Frag) : Nat → Sp
  | 0 => fun _ _ _ _ => False
  | n + 1 => spSame K n
theorem same_at (T : Tx K mg) (n k : Nat) (R0 : Ok PG w K mg base CX0 k (a_law_same K) p_law_same (spLow K n)) (hk : 2 ≤ k) : Ok PG w K mg base CX0 (k + 1) (a_law_same K) p_law_same (spSame K n) := by
  refine Ok.of k T.f_law_same sc_law_same bi_law_same (Nat.le_refl _) (fun vs H Q E h => ?_) (fun cdv A outer s H vs Q E hr h => ?_)
  · obtain ⟨_, _, rfl, _⟩ := h
    rfl
  · obtain ⟨x, y, rfl, hd, q⟩ := h
    have nd := sc_law_same.nd
    refine ⟨_, pss_cons (ps_if (pt_cmpR op_isN (pv 1) pe_non (nomark _)) (pss_one (ps_ret (pe_cmpR op_isN (pv 0) pe_non (nomark _)))) pss_nil)
      (pss_cons (ps_if (pt_cmpR op_isTF (pv 1) pe_bl (nomark _)) (pss_one (ps_ret (pe_cmpR op_isTF (pv 0) pe_bl (nomark _)))) pss_nil)
      (pss_cons (ps_if (pt_cmpR op_isTF (pv 1) pe_bl (nomark _)) (pss_one (ps_ret (pe_cmpR op_isTF (pv 0) pe_bl (nomark _)))) pss_nil)
      (pss_cons (ps_if (pt_val (pe_callB call_isi (by rfl) T.m_isinstance (by decide +kernel) (pa_cons (pv 1) (pa_cons (pe_bltn (v := .ty "int") (by rfl) T.m_int (by decide +kernel) rfl) pa_nil)))) (pss_one (ps_ret (pe_and (pc (ok_law_int T) (hr.mono hk) T.g_law_int pass0 (pa_cons (pv 0) pa_nil)) (pe_one (pe_cmpR op_eq (pv 0) (pv 1) (nomark _)))))) pss_nil)
      (pss_cons (ps_if (pt_val (pe_callB call_isi (by rfl) T.m_isinstance (by decide +kernel) (pa_cons (pv 1) (pa_cons (pe_bltn (v := .ty "str") (by rfl) T.m_str (by decide +kernel) rfl) pa_nil)))) (pss_one (ps_ret (pe_and (pe_callB call_isi (by rfl) T.m_isinstance (by decide +kernel) (pa_cons (pv 0) (pa_cons (pe_bltn (v := .ty "str") (by rfl) T.m_str (by decide +kernel) rfl) pa_nil))) (pe_one (pe_cmpR op_eq (pv 0) (pv 1) (nomark _)))))) pss_nil)
      (pss_cons (ps_if (pt_val (pe_callB call_isi (by rfl) T.m_isinstance (by decide +kernel) (pa_cons (pv 1) (pa_cons (pe_bltn (v := .ty "tuple") (by rfl) T.m_tuple (by decide +kernel) rfl) pa_nil))))
        (pss_one (ps_if (PW.pt (pw_or (pt_not (pt_val (pe_callB call_isi (by rfl) T.m_isinstance (by decide +kernel) (pa_cons (pv 0) (pa_cons (pe_bltn (v := .ty "tuple") (by rfl) T.m_tuple (by decide +kernel) rfl) pa_nil))))) (pw_or1 (pt_cmpR op_ne (pe_callB call_len_seq (by rfl) T.m_len PySem.boot_len (pa_cons (pv 0) pa_nil)) (pe_callB call_len_seq (by rfl) T.m_len PySem.boot_len (pa_cons (pv 1) pa_nil)) (nomark _))))) (pss_one (ps_ret pe_bl)) pss_nil))
        (pss_one (ps_if (PW.pt (pw_or (pt_not (pt_val (pe_callB call_isi (by rfl) T.m_isinstance (by decide +kernel) (pa_cons (pv 0) (pa_cons (pe_bltn (v := .ty "list") (by rfl) T.m_list (by decide +kernel) rfl) pa_nil))))) (pw_or1 (pt_cmpR op_ne (pe_callB call_len_seq (by rfl) T.m_len PySem.boot_len (pa_cons (pv 0) pa_nil)) (pe_callB call_len_seq (by rfl) T.m_len PySem.boot_len (pa_cons (pv 1) pa_nil)) (nomark _))))) (pss_one (ps_ret pe_bl)) pss_nil)))
      (pss_cons (ps_for (passX rfl) rfl (pi_range1 rfl T.m_range (pa_cons (pe_callB call_len_seq (by rfl) T.m_len PySem.boot_len (pa_cons (pv 1) pa_nil)) pa_nil)) (pg_name (i := 2) nd rfl (.inl rfl))
        (pss_one (ps_if (pt_not (pt_val (pc R0 hr T.g_law_same pass0 (pa_cons (pe_ix ix_seq (pv 0) (pv 2) (fun _ _ => rfl)) (pa_cons (pe_ix ix_seq (pv 1) (pv 2) (fun _ _ => rfl)) pa_nil))))) (pss_one (ps_ret pe_bl)) pss_nil)))
      (pss_one (ps_ret pe_bl)))))))), ?_⟩
    have hd2 : (x = y ∧ Atom x) ∨ ∃ m, n = m + 1 ∧ ∃ a b xs ys, x = .ref a ∧ y = .ref b ∧ ((SqT K H a xs ∧ SqT K H b ys) ∨ (SqL K H a xs ∧ SqL K H b ys)) ∧ xs.length = ys.length ∧ xs.length ≤ sizeLine ∧ ∀ (i : Nat) (u v : V), xs[i]? = some u → ys[i]? = some v → Eqd K m H u v := by
      cases n with
      | zero => exact .inl hd
      | succ m => exact hd.imp id fun z => ⟨m, rfl, z⟩
    rcases hd2 with ⟨rfl, ha⟩ | ⟨m, rfl, a, b, xs, ys, rfl, rfl, hs, hl, hz, hi⟩
    · cases ha with
      | non =>
        refine ⟨_, rfl, rfl, _, rfl, yep (by simp) ?_⟩
        exact ⟨_, rfl, rfl, by simpa using q⟩
      | bl b =>
        refine ⟨_, rfl, rfl, _, rfl, nope (by simp) ?_⟩
        cases b with
        | true =>
          refine ⟨_, rfl, _, rfl, _, rfl, yep (by simp) ?_⟩
          exact ⟨_, rfl, _, rfl, by simpa using q⟩
        | false =>
          refine ⟨_, rfl, _, rfl, _, rfl, nope (by simp) ?_⟩
          refine ⟨_, rfl, _, rfl, _, rfl, yep (by simp) ?_⟩
          exact ⟨_, rfl, _, rfl, by simpa using q⟩
      | int i =>
        refine ⟨_, rfl, rfl, _, rfl, nope (by simp) ?_⟩
        refine ⟨_, rfl, _, rfl, _, rfl, nope (by simp) ?_⟩
        refine ⟨_, rfl, _, rfl, _, rfl, nope (by simp) ?_⟩
        refine ⟨_, rfl, _, _, _, _, true, rfl, .ty _, .base (.int i), kit_ty (by decide +kernel), _, rfl, yep rfl ?_⟩
        refine ⟨_, rfl, i, rfl, _, rfl, yep rfl ?_⟩
        exact ⟨_, rfl, _, rfl, rfl, by simpa using q⟩
      | str z =>
        refine ⟨_, rfl, rfl, _, rfl, nope (by simp) ?_⟩
        refine ⟨_, rfl, _, rfl, _, rfl, nope (by simp) ?_⟩
        refine ⟨_, rfl, _, rfl, _, rfl, nope (by simp) ?_⟩
        refine ⟨_, rfl, _, _, _, _, false, rfl, .ty _, .base (.str z), kit_ty (by decide +kernel), _, rfl, nope rfl ?_⟩
        refine ⟨_, rfl, _, _, _, _, true, rfl, .ty _, .base (.str z), kit_ty (by decide +kernel), _, rfl, yep rfl ?_⟩
        refine ⟨_, rfl, _, _, _, _, true, rfl, .ty _, .base (.str z), kit_ty (by decide +kernel), _, rfl, yep rfl ?_⟩
        exact ⟨_, rfl, _, rfl, rfl, by simpa using q⟩
    · refine ⟨_, rfl, rfl, _, rfl, nope (by simp) ?_⟩
      refine ⟨_, rfl, _, rfl, _, rfl, nope (by simp) ?_⟩
      refine ⟨_, rfl, _, rfl, _, rfl, nope (by simp) ?_⟩
      have hsz : ys.length < 2 ^ 62 := by rw [← hl]; rw [sizeLine_eq] at hz; omega
      rcases hs with ⟨h1, h2⟩ | ⟨h1, h2⟩
      · refine ⟨_, rfl, _, _, _, _, false, rfl, .ty _, h2.ty, kit_ty (by decide +kernel), _, rfl, nope rfl ?_⟩
        refine ⟨_, rfl, _, _, _, _, false, rfl, .ty _, h2.ty, kit_ty (by decide +kernel), _, rfl, nope rfl ?_⟩
        refine ⟨_, rfl, _, _, _, _, true, rfl, .ty _, h2.ty, kit_ty (by decide +kernel), _, rfl, yep rfl ?_⟩
        refine ⟨_, rfl, _, _, _, _, true, rfl, .ty _, h1.ty, kit_ty (by decide +kernel), _, rfl, nope rfl ?_⟩
        refine ⟨_, rfl, a, xs, rfl, .inr h1, _, rfl, b, ys, rfl, .inr h2, rfl, _, rfl, nope (by simp [hl]) ?_⟩
        refine ⟨_, rfl, b, ys, rfl, .inr h2, _, rfl, by omega, by omega, ?_⟩
        refine for_range (lo := 0) (n := ys.length) (fun i σ H' => H' = H ∧ σ.length = 3 ∧ σ[0]? = some (some (.ref a)) ∧ σ[1]? = some (some (.ref b))) ⟨rfl, rfl, rfl, rfl⟩ ?_ ?_
        · rintro i σ H' hi' ⟨rfl, hl3, z0, z1⟩
          have hx : xs[i]? = some xs[i] := List.getElem?_eq_getElem (by omega)
          have hy : ys[i]? = some ys[i] := List.getElem?_eq_getElem hi'
          have w0 : (σ.set 2 (some (.int (0 + (i : Nat)))))[0]? = some (some (.ref a)) := by rw [List.getElem?_set_ne (by decide)]; exact z0
          have w1 : (σ.set 2 (some (.int (0 + (i : Nat)))))[1]? = some (some (.ref b)) := by rw [List.getElem?_set_ne (by decide)]; exact z1
          have w2 : (σ.set 2 (some (.int (0 + (i : Nat)))))[2]? = some (some (.int (i : Nat))) := by rw [List.getElem?_set_self (by omega), Int.zero_add]
          refine ⟨_, w0, _, w2, .inr (.inl ⟨a, xs, _, _, rfl, rfl, h1, atI_nat hx, _, w1, _, w2, .inr (.inl ⟨b, ys, _, _, rfl, rfl, h2, atI_nat hy, ?_⟩)⟩)⟩
          exact ⟨_, _, rfl, hi i _ _ hx hy, _, rfl, nope rfl ⟨rfl, by simp [hl3], w0, w1⟩⟩
        · rintro σ H' ⟨rfl, _⟩
          exact q
      · refine ⟨_, rfl, _, _, _, _, false, rfl, .ty _, h2.ty, kit_ty (by decide +kernel), _, rfl, nope rfl ?_⟩
        refine ⟨_, rfl, _, _, _, _, false, rfl, .ty _, h2.ty, kit_ty (by decide +kernel), _, rfl, nope rfl ?_⟩
        refine ⟨_, rfl, _, _, _, _, false, rfl, .ty _, h2.ty, kit_ty (by decide +kernel), _, rfl, nope rfl ?_⟩
        refine ⟨_, rfl, _, _, _, _, true, rfl, .ty _, h1.ty, kit_ty (by decide +kernel), _, rfl, nope rfl ?_⟩
        refine ⟨_, rfl, a, xs, rfl, .inl h1, _, rfl, b, ys, rfl, .inl h2, rfl, _, rfl, nope (by simp [hl]) ?_⟩
        refine ⟨_, rfl, b, ys, rfl, .inl h2, _, rfl, by omega, by omega, ?_⟩
        refine for_range (lo := 0) (n := ys.length) (fun i σ H' => H' = H ∧ σ.length = 3 ∧ σ[0]? = some (some (.ref a)) ∧ σ[1]? = some (some (.ref b))) ⟨rfl, rfl, rfl, rfl⟩ ?_ ?_
        · rintro i σ H' hi' ⟨rfl, hl3, z0, z1⟩
          have hx : xs[i]? = some xs[i] := List.getElem?_eq_getElem (by omega)
          have hy : ys[i]? = some ys[i] := List.getElem?_eq_getElem hi'
          have w0 : (σ.set 2 (some (.int (0 + (i : Nat)))))[0]? = some (some (.ref a)) := by rw [List.getElem?_set_ne (by decide)]; exact z0
          have w1 : (σ.set 2 (some (.int (0 + (i : Nat)))))[1]? = some (some (.ref b)) := by rw [List.getElem?_set_ne (by decide)]; exact z1
          have w2 : (σ.set 2 (some (.int (0 + (i : Nat)))))[2]? = some (some (.int (i : Nat))) := by rw [List.getElem?_set_self (by omega), Int.zero_add]
          refine ⟨_, w0, _, w2, .inl ⟨a, xs, _, _, rfl, rfl, h1, atI_nat hx, _, w1, _, w2, .inl ⟨b, ys, _, _, rfl, rfl, h2, atI_nat hy, ?_⟩⟩⟩
          exact ⟨_, _, rfl, hi i _ _ hx hy, _, rfl, nope rfl ⟨rfl, by simp [hl3], w0, w1⟩⟩
        · rintro σ H' ⟨rfl, _⟩
          exact q
theorem ok_law_same (T : Tx K mg) : ∀ n, Ok PG w K mg base CX0 (3 + n) (a_law_same K) p_law_same (spSame K n)
  | 0 => same_at T 0 2 (by
      obtain ⟨fd, F⟩ := T.f_law_same
      exact ⟨fd, ⟨fun _ _ _ _ h => h.elim, fun _ _ _ _ _ _ _ _ _ _ _ _ _ h => h.elim⟩, bi_law_same F, F.kp⟩) (Nat.le_refl _)
  | n + 1 => same_at T (n + 1) (3 + n) (ok_law_same T n) (by omega)
end
end K34
namespace K34
open PySem PySem.Spec PyProof.Rows L2
section
variable {w : World} {K : PySem.W.Frag} {mg : Str → Option Value} {base : Heap}
abbrev xT (n : Int) : HO := .xd [("count", .int n)]
abbrev xB (i n : Int) : HO := .xd [("number", .int n), ("place", .int i)]
def spCount (K : PySem.W.Frag) : Sp := fun vs H Q E => ∃ (n m : Int), vs = [.int n, .int m] ∧ (n > m → Rs (c_TooLong K) (xT n) H E) ∧ (¬ n > m → Q .non H)
theorem ok_check_count (T : Tx K mg) : Ok PG w K mg base (L2.CX PG w) 3 (a_check_count K) p_check_count (spCount K) := by
  refine Ok.of 2 T.f_check_count sc_check_count bi_check_count (by decide) (fun vs H Q E h => ?_) (fun cdv A outer s H vs Q E hr h => ?_)
  · obtain ⟨n, m, rfl, _⟩ := h
    rfl
  · obtain ⟨n, m, rfl, h1, h2⟩ := h
    refine ⟨_, pss_one (ps_if (pt_cmpR op_gt (pv 0) (pv 1) (nomark _)) (pss_one (ps_raiseX rfl T.e_TooLong (by decide) (by decide) hr (takes_of rfl rfl rfl rfl) rfl (pa_cons (pv 0) pa_nil))) pss_nil), ?_⟩
    refine ⟨_, rfl, _, rfl, _, _, rfl, rfl, _, rfl, ?_⟩
    refine ite2 (fun c => ?_) (fun c => ?_)
    · refine ⟨_, rfl, rfl, fun d hd => (h1 (of_decide_eq_true c)).now d hd⟩
    · exact h2 (of_decide_eq_false (by simpa using c))
def spNeg (K : PySem.W.Frag) : Sp := fun vs H Q E => ∃ (n : Int), vs = [.int n] ∧ (n < 0 → Rs (c_BadNumber K) (xB 0 n) H E) ∧ (¬ n < 0 → Q .non H)
theorem ok_check_not_negative (T : Tx K mg) : Ok PG w K mg base (L2.CX PG w) 3 (a_check_not_negative K) p_check_not_negative (spNeg K) := by
  refine Ok.of 2 T.f_check_not_negative sc_check_not_negative bi_check_not_negative (by decide) (fun vs H Q E h => ?_) (fun cdv A outer s H vs Q E hr h => ?_)
  · obtain ⟨n, rfl, _⟩ := h
    rfl
  · obtain ⟨n, rfl, h1, h2⟩ := h
    refine ⟨_, pss_one (ps_if (pt_cmpR op_lt (pv 0) pe_int (nomark _)) (pss_one (ps_raiseX rfl T.e_BadNumber (by decide) (by decide) hr (takes_of rfl rfl rfl rfl) rfl (pa_cons pe_int (pa_cons (pv 0) pa_nil)))) pss_nil), ?_⟩
    refine ⟨_, rfl, _, _, rfl, rfl, _, rfl, ?_⟩
    refine ite2 (fun c => ?_) (fun c => ?_)
    · refine ⟨_, rfl, rfl, fun d hd => (h1 (of_decide_eq_true c)).now d hd⟩
    · exact h2 (of_decide_eq_false (by simpa using c))
/-- the first of ns that is not from 0 to g -/
def bad (g : Int) : Nat → List Int → Option (Nat × Int)
  | _, [] => none
  | i, n :: ns => if 0 ≤ n ∧ n ≤ g then bad g (i + 1) ns else some (i, n)
theorem bad_step {g : Int} : ∀ {k : Nat} {ns : List Int} {i : Nat}, bad g (k + i) (ns.drop i) = bad g k ns → ∀ {n : Int}, ns[i]? = some n → (0 ≤ n ∧ n ≤ g → bad g (k + (i + 1)) (ns.drop (i + 1)) = bad g k ns) ∧ (¬ (0 ≤ n ∧ n ≤ g) → bad g k ns = some (k + i, n)) := by
  intro k ns i h n hn
  obtain ⟨hi, e⟩ := List.getElem?_eq_some_iff.mp hn
  rw [List.drop_eq_getElem_cons hi, e] at h
  constructor
  · intro c
    rw [← h, bad, if_pos c]
    rfl
  · intro c
    rw [← h, bad, if_neg c]
theorem bad_end {g : Int} {k : Nat} {ns : List Int} (h : bad g (k + ns.length) (ns.drop ns.length) = bad g k ns) : bad g k ns = none := by
  rw [← h, List.drop_length]
  rfl
theorem bad_none {g : Int} : ∀ {k : Nat} {ns : List Int}, bad g k ns = none ↔ ∀ n ∈ ns, 0 ≤ n ∧ n ≤ g
  | _, [] => by simp [bad]
  | k, n :: ns => by
    rw [bad]
    split
    · rename_i c
      rw [bad_none (ns := ns)]
      simp [c]
    · rename_i c
      simp [c]
def spOneNum (K : PySem.W.Frag) : Sp := fun vs H Q E => ∃ (i n g : Int), vs = [.int i, .int n, .int g] ∧ (¬ (0 ≤ n ∧ n ≤ g) → Rs (c_BadNumber K) (xB i n) H E) ∧ (0 ≤ n ∧ n ≤ g → Q .non H)
theorem ok_check_number (T : Tx K mg) : Ok PG w K mg base (L2.CX PG w) 2 (a_check_number K) p_check_number (spOneNum K) := by
  refine Ok.of 1 T.f_check_number sc_check_number bi_check_number (by decide) (fun vs H Q E h => ?_) (fun cdv A outer s H vs Q E hr h => ?_)
  · obtain ⟨_, _, _, rfl, _⟩ := h
    rfl
  · obtain ⟨i, n, g, rfl, h1, h2⟩ := h
    refine ⟨_, pss_one (ps_if (pt_not (pt_chain op_le op_le pe_int (pv 1) (pv 2))) (pss_one (ps_raiseX rfl T.e_BadNumber (by decide) (by decide) hr (takes_of rfl rfl rfl rfl) rfl (pa_cons (pv 0) (pa_cons (pv 1) pa_nil)))) pss_nil), ?_⟩
    refine ⟨_, rfl, _, _, rfl, rfl, _, rfl, ite2 (fun c => ?_) (fun c => ?_)⟩
    · refine ⟨_, rfl, _, _, rfl, rfl, _, rfl, ite2 (fun d => ?_) (fun d => ?_)⟩
      · exact ⟨_, rfl, _, rfl, rfl, fun z hz => (h1 (fun y => by simp [y.2] at d)).now z hz⟩
      · exact h2 ⟨of_decide_eq_true c, by simpa using d⟩
    · refine ⟨_, rfl, iteT ?_⟩
      exact ⟨_, rfl, _, rfl, rfl, fun z hz => (h1 (fun y => c (decide_eq_true y.1))).now z hz⟩
def spNums (K : PySem.W.Frag) : Sp := fun vs H Q E => ∃ (a : Addr) (ns : List Int) (g : Int), vs = [.ref a, .int g] ∧ SqA K H a (ns.map V.int) ∧
  (∀ i n, bad g 0 ns = some (i, n) → Rs (c_BadNumber K) (xB (i : Nat) n) H E) ∧ (bad g 0 ns = none → ∀ H', Same H H' → Q .non H')
theorem ok_check_numbers (T : Tx K mg) : Ok PG w K mg base (L2.CX PG w) 3 (a_check_numbers K) p_check_numbers (spNums K) := by
  refine Ok.of 2 T.f_check_numbers sc_check_numbers bi_check_numbers (by decide) (fun vs H Q E h => ?_) (fun cdv A outer s H vs Q E hr h => ?_)
  · obtain ⟨n, m, _, rfl, _⟩ := h
    rfl
  · obtain ⟨a, ns, g, rfl, hs, h1, h2⟩ := h
    have nd := sc_check_numbers.nd
    refine ⟨_, pss_one (ps_for (passX rfl) rfl (pi_enumW (by rfl) T.m_enumerate (pa_cons (pv 0) pa_nil)) (pg_tup rfl (pgs_cons (pg_name (i := 2) nd rfl (.inl rfl)) (pgs_cons (pg_name (i := 3) nd rfl (.inl rfl)) pgs_nil)))
      (pss_one (ps_expr (pc (ok_check_number T) hr T.g_check_number px (pa_cons (pv 2) (pa_cons (pv 3) (pa_cons (pv 1) pa_nil))))))), ?_⟩
    refine ⟨_, rfl, a, ns.map V.int, rfl, hs, fun J G hG wk => ?_⟩
    refine for_it wk (fun i σ H' => Same H H' ∧ bad g (0 + i) (ns.drop i) = bad g 0 ns ∧ σ.length = 4 ∧ σ[1]? = some (some (.int g))) ⟨.refl _, rfl, rfl, rfl⟩ (fun i σ H' _ p => hG H' p.1) (fun i x σ H0 H1 hi p y => ?_) (fun σ H' p => ?_)
    · obtain ⟨sm, hb, hl, hg⟩ := p
      obtain ⟨T', x', y', rfl, hT, rfl, e1, e2⟩ := y
      obtain ⟨n, hn, rfl⟩ := map_get e2
      cases e1
      have sm' : Same H (upd H0 T' (.tup [.int (i : Nat), .int n])) := sm.new' hT
      obtain ⟨b1, b2⟩ := bad_step hb hn
      have z2 : ((σ.set 2 (some (V.int (i : Nat)))).set 3 (some (V.int n)))[2]? = some (some (.int (i : Nat))) := by
        rw [List.getElem?_set_ne (by decide), List.getElem?_set_self (by omega)]
      have z3 : ((σ.set 2 (some (V.int (i : Nat)))).set 3 (some (V.int n)))[3]? = some (some (.int n)) := by
        rw [List.getElem?_set_self (by rw [List.length_set]; omega)]
      have z1 : ((σ.set 2 (some (V.int (i : Nat)))).set 3 (some (V.int n)))[1]? = some (some (.int g)) := by
        rw [List.getElem?_set_ne (by decide), List.getElem?_set_ne (by decide)]; exact hg
      refine ⟨T', _, rfl, SqT.of upd_same, rfl, _, _, rfl, _, _, rfl, rfl, ?_⟩
      exact ⟨_, z2, _, z3, _, z1, (i : Nat), n, g, rfl, fun c d H2 s2 hd => h1 i n (by have := b2 c; rwa [Nat.zero_add] at this) _ _ (sm'.trans s2) hd, fun c => ⟨sm', b1 c, by simp [hl], z1⟩⟩
    · refine h2 (bad_end (k := 0) ?_) H' p.1
      have := p.2.1
      rwa [List.length_map] at this
end
end K34

set_option maxRecDepth 100000
set_option maxHeartbeats 4000000
/-! # zip(t, u), two tuples -/
namespace L2
open PySem PySem.Spec PyProof.Rows
def ItzT (K : PySem.W.Frag) (a b : Addr) : It :=
  ⟨fun i H => ∃ xs ys : List V, SqT K H a xs ∧ SqT K H b ys ∧ i < xs.length ∧ i < ys.length,
   fun i H v H' => ∃ T x y, v = .ref T ∧ H T = none ∧ H' = upd H T (.tup [x, y]) ∧ (∀ xs, SqT K H a xs → xs[i]? = some x) ∧ ∀ ys, SqT K H b ys → ys[i]? = some y,
   fun i H => ∃ xs ys : List V, SqT K H a xs ∧ SqT K H b ys ∧ min xs.length ys.length = i⟩
/-- what the five cells of the walk look like at turn i -/
def ZipAt (z TI TO i1 i2 a b : Addr) (i : Nat) (h : Heap) : Prop := IsZip h z TI TO .none ∧ IsTupOf2 h TI (.ref i1) (.ref i2) ∧ (∃ a1 a2, IsTupOf2 h TO a1 a2) ∧ h.IsTupleIter i1 a i ∧ h.IsTupleIter i2 b i
theorem turn_zipT {P : Program} {w : World} {K : PySem.W.Frag} {elts : List Expr} {kk : Nat} {tpos : Pos} {a b z TI TO i1 i2 : Addr} (S : ZipSep2 z TI TO i1 i2 [i1, a] [i2, b]) :
    Turn P w K (.Tuple elts kk tpos) (ItzT K a b) [z, TI, TO, i1, i2] z (ZipAt z TI TO i1 i2 a b) where
  mem := by simp
  obj := fun i h st c hc => by
    obtain ⟨h1, h2, ⟨a1, a2, h3⟩, ⟨o4, h4, _, d4⟩, ⟨o5, h5, _, d5⟩⟩ := st
    have e' : c = z ∨ c = TI ∨ c = TO ∨ c = i1 ∨ c = i2 := by simpa using hc
    rcases e' with q | q | q | q | q <;> subst q
    · exact ⟨_, h1, fun v q => nomatch q⟩
    · exact ⟨_, h2, fun v q => nomatch q⟩
    · exact ⟨_, h3, fun v q => nomatch q⟩
    · exact ⟨o4, h4, fun v q => by rw [d4] at q; cases q⟩
    · exact ⟨o5, h5, fun v q => by rw [d5] at q; cases q⟩
  keep := fun i h h' st k => by
    obtain ⟨h1, h2, ⟨a1, a2, h3⟩, h4, h5⟩ := st
    exact ⟨k z (by simp) _ h1, k TI (by simp) _ h2, ⟨a1, a2, k TO (by simp) _ h3⟩, h4.at fun o q => k i1 (by simp) o q, h5.at fun o q => k i2 (by simp) o q⟩
  item := by
    intro X hP hw hK hc i pins s σ H E I hf st hg
    subst hP hw hK
    obtain ⟨h1, h2, h3, h4, h5⟩ := st
    obtain ⟨xs, ys, hx, hy, lx, ly⟩ := hg
    obtain ⟨its, rv, p, _⟩ := I.tuple hx
    obtain ⟨its2, rv2, p2, _⟩ := I.tuple hy
    have dif : ∀ {t u : Addr} {j : Nat} {js : Array Value}, s.heap.IsTupleIter t u j → ∀ {c : Addr}, s.heap.IsTuple c js → c ≠ t := fun {t u j js} hi {c} ht e => by
      obtain ⟨o, ho, hcls, _⟩ := ht
      obtain ⟨o2, ho2, hc2, _⟩ := hi
      rw [e, ho2] at ho
      cases ho
      rw [hc2] at hcls
      exact absurd hcls (by decide)
    have W := GoesN.zip2 (prog := X.prog) (w := X.w) (A := X.A) (elts := elts) (x1 := kk) (pos := tpos) S (Draws.tuple (prog := X.prog) (w := X.w) (A := X.A.in1) (I.ok.hd hc) i1 a (dif h4 p) its.toArray) (Draws.tuple (prog := X.prog) (w := X.w) (A := X.A.in1) (I.ok.hd hc) i2 b (dif h5 p2) its2.toArray)
    have n1 : i < min its.toArray.size its2.toArray.size := by
      rw [List.size_toArray, List.size_toArray, ← rv.length, ← rv2.length]
      omega
    refine wpAny_mono (W.goes i s _ E n1 ⟨h1, h2, h3, ⟨h4, p⟩, h5, p2⟩ fun v h' tk hY st' hk htk => ?_) (fun r s1 hr => hr) fun _ _ q => q
    obtain ⟨T, u1, u2, rfl, hT, e1, e2, hTup⟩ := hY
    obtain ⟨g1, g2, g3, ⟨g4, _⟩, g5, _⟩ := st'
    have hxi : xs[i]? = some xs[i] := List.getElem?_eq_getElem lx
    have hyi : ys[i]? = some ys[i] := List.getElem?_eq_getElem ly
    obtain ⟨v1, hv1, r1⟩ := rv.get hxi
    obtain ⟨v2, hv2, r2⟩ := rv2.get hyi
    have q1 : u1 = v1 := by
      have : its[i]? = some u1 := by simpa using e1
      rw [hv1] at this; exact (Option.some.inj this).symm
    have q2 : u2 = v2 := by
      have : its2[i]? = some u2 := by simpa using e2
      rw [hv2] at this; exact (Option.some.inj this).symm
    subst q1 q2
    have I1 : Inv X pins σ (upd H T (.tup [xs[i], ys[i]])) { s with heap := h', toks := tk } :=
      I.turnedNew (ch := [z, TI, TO, i1, i2]) (fun c o hb q => hk c o (fun m => hb (by
        have e' : c = z ∨ c = TO ∨ c = i1 ∨ c = i2 := by simpa using m
        rcases e' with q | q | q | q <;> simp [q])) q) hf hT ⟨by show 2 ≤ sizeLine; decide, [u1, u2], .cons r1 (.cons r2 .nil), hTup⟩
    refine ⟨.ref T, _, I1, rfl, ⟨T, _, _, rfl, I.hok.fresh hT, rfl, fun l hl => by rw [I.tuple_inj hl hx]; exact hxi, fun l hl => by rw [I.tuple_inj hl hy]; exact hyi⟩, ⟨g1, g2, g3, g4, g5⟩, fun c hc' => ?_⟩
    have lt : c < s.heap.objs.size := by
      have e' : c = z ∨ c = TI ∨ c = TO ∨ c = i1 ∨ c = i2 := by simpa using hc'
      obtain ⟨_, _, g3'⟩ := h3
      obtain ⟨_, w4, _⟩ := h4
      obtain ⟨_, w5, _⟩ := h5
      rcases e' with q | q | q | q | q <;> rw [q]
      · exact Heap.lt_size h1
      · exact Heap.lt_size h2
      · exact Heap.lt_size g3'
      · exact Heap.lt_size w4
      · exact Heap.lt_size w5
    rw [upd_ne (Nat.ne_of_lt (Nat.lt_of_lt_of_le lt hT))]
    exact (hf c hc').1
  done := by
    intro X hP hw hK hc i pins s σ H E I hf st hg
    subst hP hw hK
    obtain ⟨h1, h2, h3, h4, h5⟩ := st
    obtain ⟨xs, ys, hx, hy, hend⟩ := hg
    obtain ⟨its, rv, p, _⟩ := I.tuple hx
    obtain ⟨its2, rv2, p2, _⟩ := I.tuple hy
    have dif : ∀ {t u : Addr} {j : Nat} {js : Array Value}, s.heap.IsTupleIter t u j → ∀ {c : Addr}, s.heap.IsTuple c js → c ≠ t := fun {t u j js} hi {c} ht e => by
      obtain ⟨o, ho, hcls, _⟩ := ht
      obtain ⟨o2, ho2, hc2, _⟩ := hi
      rw [e, ho2] at ho
      cases ho
      rw [hc2] at hcls
      exact absurd hcls (by decide)
    have W := GoesN.zip2 (prog := X.prog) (w := X.w) (A := X.A) (elts := elts) (x1 := kk) (pos := tpos) S (Draws.tuple (prog := X.prog) (w := X.w) (A := X.A.in1) (I.ok.hd hc) i1 a (dif h4 p) its.toArray) (Draws.tuple (prog := X.prog) (w := X.w) (A := X.A.in1) (I.ok.hd hc) i2 b (dif h5 p2) its2.toArray)
    have n1 : min its.toArray.size its2.toArray.size = i := by
      rw [List.size_toArray, List.size_toArray, ← rv.length, ← rv2.length]
      exact hend
    rw [n1] at W
    refine wpAny_mono (W.stops s (fun s1 => Inv X pins σ H s1) E ⟨h1, h2, h3, ⟨h4, p⟩, h5, p2⟩ fun h' tk hk htk => I.turnedL (t' := tk) (ch := [z, TI, TO, i1, i2]) (fun c o hb q => hk c o (fun m => hb ?_) q) hf) (fun r s1 hr => hr) fun _ _ q => q
    have e' : c = z ∨ c = TO ∨ c = i1 ∨ c = i2 := by simpa using m
    rcases e' with q | q | q | q <;> simp [q]
  self := fun A i s Q E st h => wpAny_pyIter_zip st.1 h
theorem walk_zipT {K : PySem.W.Frag} {a b : Addr} {xs ys : List V} : Walk (ItzT K a b) (min xs.length ys.length) (fun H => SqT K H a xs ∧ SqT K H b ys) (YPair (fun i => xs[i]?) (fun i => ys[i]?)) where
  goes := fun i H hi h => ⟨xs, ys, h.1, h.2, by omega, by omega⟩
  stops := fun H h => ⟨xs, ys, h.1, h.2, rfl⟩
  yields := fun i H v H' hi h y => by
    obtain ⟨T, x, y, rfl, hT, rfl, h1, h2⟩ := y
    exact ⟨T, x, y, rfl, hT, rfl, h1 xs h.1, h2 ys h.2⟩
/-- zip(t, u) -/
def iZipT (K : PySem.W.Frag) (ta : TA) : TI := fun σ H R => ta σ H fun vs H1 => ∃ a b xs ys, vs = [.ref a, .ref b] ∧ SqT K H1 a xs ∧ SqT K H1 b ys ∧ R (ItzT K a b) H1
theorem pi_zipT {X : Cx} {e e2 : Expr} {ta : TA} {p pos tpos : Pos} {elts : List Expr} {kk : Nat} (hm : X.mg "zip" = none) (ha : PA X [e, e2] ta) (hg : Gl X "zip" := by rfl)
    (hs : starEach [e, e2] X.env = (false, eval e X.env) :: starEach [e2] X.env := by rfl) (hpl : (backTo pos (starEach [e2] X.env)).any (·.1) = false := by rfl) :
    PI X (.Tuple elts kk tpos) (.Call (.Name "zip" p) [e, e2] [] pos) (iZipT X.K ta) := by
  refine ⟨fun pins s σ H R I h => Call_ (ld_blt I hg hm PyProof.Rows.boot_zip (PyProof.Rows.callWith_type1 (thn (ha.run pos pins s σ H _ I h) fun us s1 ⟨vs, H1, I1, r1, q1⟩ => ?_) hs hpl))⟩
  obtain ⟨a, b, xs, ys, ex, hx, hy, q⟩ := q1
  subst ex
  cases r1 with
  | cons r rr =>
  cases rr with
  | cons r' rr =>
  cases rr
  cases r
  cases r'
  obtain ⟨its, rv, p1, _⟩ := I1.tuple hx
  obtain ⟨its2, rv2, p2, _⟩ := I1.tuple hy
  have lt : ∀ {c : Addr} {js : Array Value}, IsTup s1.heap c js → c < s1.heap.objs.size := fun h => by obtain ⟨_, h, _⟩ := h; exact Heap.lt_size h
  refine zip_begins2 (begins_tuple a its.toArray) (begins_tuple b its2.toArray) p1 p2 fun h' hz hTI hTO h1 h2 hsz hk => wpAny_pyIter_zip hz ?_
  refine ⟨s1.heap.objs.size + 4, [s1.heap.objs.size + 4, s1.heap.objs.size + 2, s1.heap.objs.size + 3, s1.heap.objs.size, s1.heap.objs.size + 1], _, _, H1, rfl, I1.kept (t' := s1.toks) hk, turn_zipT (zip_sep2 (fp1 := [a]) (fp2 := [b]) (fun c m => by rw [List.mem_singleton.mp m]; exact lt p1) (fun c m => by rw [List.mem_singleton.mp m]; exact lt p2)), ⟨hz, hTI, ⟨_, _, hTO⟩, ⟨_, h1, rfl, rfl⟩, ⟨_, h2, rfl, rfl⟩⟩, fun c m => ?_, q⟩
  have le : s1.heap.objs.size ≤ c := by
    have e' : c = s1.heap.objs.size + 4 ∨ c = s1.heap.objs.size + 2 ∨ c = s1.heap.objs.size + 3 ∨ c = s1.heap.objs.size ∨ c = s1.heap.objs.size + 1 := by simpa using m
    rcases e' with z | z | z | z | z <;> rw [z]
    · exact Nat.le_add_right _ _
    · exact Nat.le_add_right _ _
    · exact Nat.le_add_right _ _
    · exact Nat.le_refl _
    · exact Nat.le_add_right _ _
  exact I1.fpOk le (I1.hok.fresh le)
end L2

set_option maxRecDepth 100000
set_option maxHeartbeats 4000000
namespace K34
open PySem PySem.Spec PyProof.Rows L2
section
variable {w : World} {K : PySem.W.Frag} {mg : Str → Option Value} {base : Heap}
abbrev top : Int := 1000000000000000000000000000000
/-- at p a Telling of ns -/
def IsW (K : PySem.W.Frag) (H : Hp) (p : Addr) (ns : List Int) : Prop := ∃ dx t, H p = some (.ins (c_Telling K) dx [("entries", .ref t)]) ∧ SqT K H t (ns.map V.int)
theorem IsW.same {H H' : Hp} {p : Addr} {ns : List Int} (h : IsW K H p ns) (s : Same H H') : IsW K H' p ns := let ⟨dx, t, a, b⟩ := h; ⟨dx, t, s _ _ a, s.seqT b⟩
structure Mkr (K : PySem.W.Frag) (ns : List Int) (H : Hp) (Q : VK) (E : XK) : Prop where
  long : 30 < ns.length → Rs (c_TooLong K) (xT ns.length) H E
  bad_ : ns.length ≤ 30 → ∀ i n, bad top 0 ns = some (i, n) → Rs (c_BadNumber K) (xB (i : Nat) n) H E
  good : ns.length ≤ 30 → bad top 0 ns = none → ∀ H' p, Same H H' → IsW K H' p ns → Q (.ref p) H'
theorem Mkr.same {ns : List Int} {H H' : Hp} {Q : VK} {E : XK} (h : Mkr K ns H Q E) (s : Same H H') : Mkr K ns H' Q E :=
  ⟨fun c => (h.long c).same s, fun c i n e => (h.bad_ c i n e).same s, fun c e H2 p s2 g => h.good c e H2 p (s.trans s2) g⟩
def spInit (K : PySem.W.Frag) : Sp := fun vs H Q E => ∃ (x a dx : Addr) (ns : List Int), vs = [.ref x, .ref a] ∧ H x = some (.ins (c_Telling K) dx []) ∧ SqA K H a (ns.map V.int) ∧
  (30 < ns.length → Rs (c_TooLong K) (xT ns.length) H E) ∧ (ns.length ≤ 30 → ∀ i n, bad top 0 ns = some (i, n) → Rs (c_BadNumber K) (xB (i : Nat) n) H E) ∧
  (ns.length ≤ 30 → bad top 0 ns = none → ∀ H' t, Same H H' → SqT K H' t (ns.map V.int) → Q .non (upd H' x (.ins (c_Telling K) dx [("entries", .ref t)])))
theorem ok_Telling_init (T : Tx K mg) : Ok PG w K mg base (L2.CX PG w) 4 (a_Telling_init K) p_Telling_init (spInit K) := by
  refine Ok.of 3 T.f_Telling_init sc_Telling_init bi_Telling_init (by decide) (fun vs H Q E h => ?_) (fun cdv A outer s H vs Q E hr h => ?_)
  · obtain ⟨n, m, _, _, rfl, _⟩ := h
    rfl
  · obtain ⟨x, a, dx, ns, rfl, hx, ha, h1, h2, h3⟩ := h
    have nd := sc_Telling_init.nd
    obtain ⟨u1, cv1⟩ := T.v_MOST_PEOPLE
    obtain ⟨u2, cv2⟩ := T.v_LIMIT
    refine ⟨_, pss_cons (ps_expr (pc (ok_check_count T) hr T.g_check_count px (pa_cons (pe_callB call_len_seq (by rfl) T.m_len PySem.boot_len (pa_cons (pv 1) pa_nil)) (pa_cons (pe_glob (v := .int 30) rfl cv1 ⟨_, rfl⟩) pa_nil))))
      (pss_cons (ps_expr (pc (ok_check_numbers T) hr T.g_check_numbers px (pa_cons (pv 1) (pa_cons (pe_glob (v := .int top) rfl cv2 ⟨_, rfl⟩) pa_nil))))
      (pss_one (ps_fld (pv 0) (pe_callTy call_tuple_of (by rfl) T.m_tuple (by decide +kernel) (pa_cons (pv 1) pa_nil)) rfl))), ?_⟩
    refine ⟨_, rfl, a, _, rfl, ha, _, _, rfl, fun c => ?_, fun c => ?_⟩
    · have := h1 (by rw [List.length_map] at c; omega)
      rw [List.length_map]
      exact this
    · have hl : ns.length ≤ 30 := by rw [List.length_map] at c; omega
      refine ⟨_, rfl, a, ns, top, rfl, ha, fun i n e => h2 hl i n e, fun e H' sm => ?_⟩
      have fin : ∀ t H2, Same H H2 → SqT K H2 t (ns.map V.int) → Q .non (upd H2 x (.ins (c_Telling K) dx [("entries", .ref t)])) := fun t H2 s2 ht => h3 hl e H2 t s2 ht
      rcases sm.seqA ha with ha' | ha'
      · refine ⟨_, rfl, a, _, rfl, .inl ⟨ha', fun l hl' => ?_⟩⟩
        have hx' : upd H' l (.tup (ns.map V.int)) x = some (.ins (c_Telling K) dx []) := (Same.new hl') _ _ (sm _ _ hx)
        exact ⟨_, rfl, x, c_Telling K, dx, _, rfl, hx', T.cTelling, T.nTelling_entries, by decide, fin l _ (sm.new' hl') (SqT.of upd_same)⟩
      · refine ⟨_, rfl, a, _, rfl, .inr ⟨ha', ?_⟩⟩
        exact ⟨_, rfl, x, c_Telling K, dx, _, rfl, sm _ _ hx, T.cTelling, T.nTelling_entries, by decide, fin a _ sm ha'⟩
theorem mk_tell {H : Hp} {a : Addr} {ns : List Int} {Q : VK} {E : XK} (ha : SqA K H a (ns.map V.int)) (h : Mkr K ns H Q E) : ∀ x dx, H x = none → H dx = none → dx ≠ x →
    spInit K ([.ref x, .ref a]) (upd (upd H dx (.own x)) x (.ins (c_Telling K) dx [])) (fun v H2 => v = .non ∧ Q (.ref x) H2) E := by
  intro x dx hx hdx hne
  have s1 : Same H (upd (upd H dx (.own x)) x (.ins (c_Telling K) dx [])) := (Same.new hdx).new' (by rw [upd_ne (Ne.symm hne)]; exact hx)
  refine ⟨x, a, dx, ns, rfl, upd_same, s1.seqA ha, fun c => (h.long c).same s1, fun c i n e => (h.bad_ c i n e).same s1, fun c e H' t s2 ht => ⟨rfl, ?_⟩⟩
  have hx' : H' x = some (.ins (c_Telling K) dx []) := s2 _ _ upd_same
  have ms : Same H (upd H' x (.ins (c_Telling K) dx [("entries", .ref t)])) := fun b o q => by
    have : b ≠ x := fun z => by rw [z, hx] at q; cases q
    rw [upd_ne this]
    exact s2 _ _ (s1 _ _ q)
  have ht' : SqT K (upd H' x (.ins (c_Telling K) dx [("entries", .ref t)])) t (ns.map V.int) := by
    rcases ht with (ht | ⟨o, ht⟩) | ht
    · exact .inl (.inl (by rw [upd_ne (fun z => by rw [z, hx'] at ht; cases ht)]; exact ht))
    · exact .inl (.inr ⟨o, by rw [upd_ne (fun z => by rw [z, hx'] at ht; cases ht)]; exact ht⟩)
    · exact .inr ht
  exact h.good c e _ x ms ⟨dx, t, upd_same, ht'⟩
def spLen (K : PySem.W.Frag) : Sp := fun vs H Q _ => ∃ (p : Addr) (ns : List Int), vs = [.ref p] ∧ IsW K H p ns ∧ Q (.int ns.length) H
theorem ok_Telling_len (T : Tx K mg) : Ok PG w K mg base CX0 2 (a_Telling_len K) p_Telling_len (spLen K) := by
  refine Ok.of 1 T.f_Telling_len sc_Telling_len bi_Telling_len (by decide) (fun vs H Q E h => ?_) (fun cdv A outer s H vs Q E hr h => ?_)
  · obtain ⟨_, _, rfl, _⟩ := h
    rfl
  · obtain ⟨p, ns, rfl, ⟨dx, t, h1, h2⟩, q⟩ := h
    refine ⟨_, pss_one (ps_ret (pe_callB call_len_seq (by rfl) T.m_len PySem.boot_len (pa_cons (pe_fld (pv 0) rfl) pa_nil))), ?_⟩
    refine ⟨_, rfl, p, _, dx, _, _, rfl, h1, T.cTelling, T.nTelling_entries, rfl, t, _, rfl, .inr h2, ?_⟩
    rw [List.length_map]
    exact q
abbrev xP (n : Int) : HO := .xd [("person", .int n)]
def spPlace (K : PySem.W.Frag) : Sp := fun vs H Q E => ∃ (p : Addr) (ns : List Int) (i : Int), vs = [.ref p, .int i] ∧ IsW K H p ns ∧ (¬ (0 ≤ i ∧ i < ns.length) → Rs (c_NoPerson K) (xP i) H E) ∧ (0 ≤ i ∧ i < ns.length → Q .non H)
theorem ok_Telling_check_place (T : Tx K mg) : Ok PG w K mg base (L2.CX PG w) 3 (a_Telling_check_place K) p_Telling_check_place (spPlace K) := by
  refine Ok.of 2 T.f_Telling_check_place sc_Telling_check_place bi_Telling_check_place (by decide) (fun vs H Q E h => ?_) (fun cdv A outer s H vs Q E hr h => ?_)
  · obtain ⟨_, _, _, rfl, _⟩ := h
    rfl
  · obtain ⟨p, ns, i, rfl, ⟨dx, t, h1, h2⟩, q1, q2⟩ := h
    refine ⟨_, pss_one (ps_if (pt_not (pt_chain op_le op_lt pe_int (pv 1) (pe_callB call_len_seq (by rfl) T.m_len PySem.boot_len (pa_cons (pe_fld (pv 0) rfl) pa_nil)))) (pss_one (ps_raiseX rfl T.e_NoPerson (by decide) (by decide) hr (takes_of rfl rfl rfl rfl) rfl (pa_cons (pv 1) pa_nil))) pss_nil), ?_⟩
    refine ⟨_, rfl, _, _, rfl, rfl, _, rfl, ite2 (fun c => ?_) (fun c => ?_)⟩
    · refine ⟨_, rfl, p, _, dx, _, _, rfl, h1, T.cTelling, T.nTelling_entries, rfl, t, _, rfl, .inr h2, _, _, rfl, rfl, _, rfl, ?_⟩
      rw [List.length_map]
      have c0 := of_decide_eq_true c
      refine ite2 (fun c' => ?_) (fun c' => ?_)
      · exact ⟨_, rfl, rfl, fun d hd => (q1 (fun z => by simp [z.2] at c')).now d hd⟩
      · exact q2 ⟨c0, by simpa using c'⟩
    · exact ⟨_, rfl, iteT ⟨_, rfl, rfl, fun d hd => (q1 (fun z => by simp [z.1] at c)).now d hd⟩⟩
end
end K34

set_option maxRecDepth 100000
set_option maxHeartbeats 4000000
namespace K34
open PySem PySem.Spec PyProof.Rows L2
section
variable {w : World} {K : PySem.W.Frag} {mg : Str → Option Value} {base : Heap}
theorem it_Telling (T : Tx K mg) : OwnIt K mg (c_Telling K) (a_Telling_iter K) "entries" := by
  obtain ⟨fd, F⟩ := T.f_Telling_iter
  exact ownIt_of T.cTelling T.nTelling_entries T.wTelling_iter.1 T.wTelling_iter.2 T.m_iter F ⟨_, _, _, _, _, rfl, fun env h => by obtain ⟨⟩ := env; cases h; rfl⟩ ⟨rfl, rfl, by decide +kernel, rfl, rfl, rfl⟩ fun s fd v h1 h2 h3 => .of_eq (by obtain ⟨⟩ := fd; cases h1; cases h2; cases h3; rfl)
def spAt (K : PySem.W.Frag) : Sp := fun vs H Q E => ∃ (p : Addr) (ns : List Int) (i : Int), vs = [.ref p, .int i] ∧ IsW K H p ns ∧ (¬ (0 ≤ i ∧ i < ns.length) → Rs (c_NoPerson K) (xP i) H E) ∧ (∀ j n, i = ((j : Nat) : Int) → ns[j]? = some n → Q (.int n) H)
theorem ok_Telling_getitem (T : Tx K mg) : Ok PG w K mg base (L2.CX PG w) 5 (a_Telling_getitem K) p_Telling_getitem (spAt K) := by
  refine Ok.of 4 T.f_Telling_getitem sc_Telling_getitem bi_Telling_getitem (by decide) (fun vs H Q E h => ?_) (fun cdv A outer s H vs Q E hr h => ?_)
  · obtain ⟨_, _, _, rfl, _⟩ := h
    rfl
  · obtain ⟨p, ns, i, rfl, hp, q1, q2⟩ := h
    obtain ⟨dx, t, h1, h2⟩ := id hp
    refine ⟨_, pss_cons (ps_expr (pmeth (ok_Telling_check_place T) (pv 0) T.cTelling T.wTelling_check_place (hr.mono (by decide)) px (pa_cons (pv 1) pa_nil)))
      (pss_one (ps_ret (pe_ix ix_tup (pe_fld (pv 0) rfl) (pv 1) (fun _ _ => rfl)))), ?_⟩
    refine ⟨_, rfl, p, dx, _, rfl, h1, rfl, _, rfl, p, ns, i, rfl, hp, q1, fun c => ?_⟩
    obtain ⟨j, rfl⟩ : ∃ j : Nat, i = (j : Nat) := ⟨i.toNat, by omega⟩
    have hj : j < ns.length := by omega
    exact ⟨_, rfl, p, _, dx, _, _, rfl, h1, T.cTelling, T.nTelling_entries, rfl, _, rfl, t, _, _, _, rfl, rfl, h2, atI_nat (by rw [List.getElem?_map, List.getElem?_eq_getElem hj]; rfl), q2 j _ rfl (List.getElem?_eq_getElem hj)⟩
end
end K34

/-! # falling rows, turned -/
namespace K34
/-- entry i leaves the row falling -/
def At (ns : List Int) (i : Nat) : Prop := ∀ n, ns[i]? = some n → 1 ≤ n ∧ ∀ j m, j + 1 = i → ns[j]? = some m → n ≤ m
def Fall (ns : List Int) : Prop := ∀ i, At ns i
def Wrong (ns : List Int) (i : Nat) : Prop := (∀ j, j < i → At ns j) ∧ ¬ At ns i
theorem Wrong.lt {ns : List Int} {i : Nat} (h : Wrong ns i) : i < ns.length := by
  rcases Nat.lt_or_ge i ns.length with z | z
  · exact z
  · exact absurd (fun n e => by rw [List.getElem?_eq_none z] at e; cases e) h.2
theorem fall_of {ns : List Int} (h : ∀ j, j < ns.length → At ns j) : Fall ns := fun i => by
  rcases Nat.lt_or_ge i ns.length with z | z
  · exact h i z
  · exact fun n e => by rw [List.getElem?_eq_none z] at e; cases e
theorem at_yes {ns : List Int} {i : Nat} {n : Int} (e : ns[i]? = some n) (h1 : 1 ≤ n) (h2 : ∀ j m, j + 1 = i → ns[j]? = some m → n ≤ m) : At ns i := fun k e' => by
  rw [e] at e'
  cases e'
  exact ⟨h1, h2⟩
theorem at_no1 {ns : List Int} {i : Nat} {n : Int} (e : ns[i]? = some n) (h1 : n < 1) : ¬ At ns i := fun z => by
  have := (z n e).1
  omega
theorem at_no2 {ns : List Int} {i : Nat} {n m : Int} (e : ns[i + 1]? = some n) (e2 : ns[i]? = some m) (h1 : n > m) : ¬ At ns (i + 1) := fun z => by
  have := (z n e).2 i m rfl e2
  omega
theorem Fall.tail {n : Int} {ns : List Int} (h : Fall (n :: ns)) : Fall ns := fun i k e => by
  have := h (i + 1) k (by rw [List.getElem?_cons_succ]; exact e)
  refine ⟨this.1, fun j m hj em => this.2 (j + 1) m (by omega) (by rw [List.getElem?_cons_succ]; exact em)⟩
theorem Fall.le {n : Int} : ∀ {ns : List Int}, Fall (n :: ns) → ∀ x ∈ ns, 1 ≤ x ∧ x ≤ n
  | [], _, x, hx => by cases hx
  | m :: ms, h, x, hx => by
    have hm := h 1 m rfl
    have h1 : m ≤ n := hm.2 0 n rfl rfl
    rcases List.mem_cons.mp hx with rfl | hx
    · exact ⟨hm.1, h1⟩
    · have := Fall.le h.tail x hx
      omega
theorem Fall.head {n : Int} {ns : List Int} (h : Fall (n :: ns)) : 1 ≤ n := (h 0 n rfl).1
theorem fall_cons {n : Int} {ns : List Int} (h : Fall ns) (h1 : 1 ≤ n) (h2 : ∀ m, ns.head? = some m → m ≤ n) : Fall (n :: ns) := fun i k e => by
  cases i with
  | zero => cases e; exact ⟨h1, fun j m hj _ => by omega⟩
  | succ i =>
    rw [List.getElem?_cons_succ] at e
    have := h i k e
    refine ⟨this.1, fun j m hj em => ?_⟩
    cases j with
    | zero =>
      cases em
      obtain rfl : i = 0 := by omega
      exact h2 k (by rw [List.head?_eq_getElem?]; exact e)
    | succ j => exact this.2 j m (by omega) (by rw [List.getElem?_cons_succ] at em; exact em)
/-- how many are at least k -/
def cnt (ns : List Int) (k : Int) : Nat := ns.countP fun x => decide (x ≥ k)
theorem cnt_cons {n : Int} {ns : List Int} {k : Int} : cnt (n :: ns) k = cnt ns k + (if n ≥ k then 1 else 0) := by
  unfold cnt
  rw [List.countP_cons]
  by_cases h : n ≥ k <;> simp [h]
theorem cnt_zero {ns : List Int} {k : Int} (h : ∀ x ∈ ns, x < k) : cnt ns k = 0 := by
  unfold cnt
  rw [List.countP_eq_zero]
  intro x hx
  have := h x hx
  simp
  omega
theorem cnt_lt : ∀ {ns : List Int}, Fall ns → ∀ {i : Nat} {n k : Int}, ns[i]? = some n → (i < cnt ns k ↔ k ≤ n)
  | [], _, i, n, k, e => by simp at e
  | x :: xs, h, i, n, k, e => by
    rw [cnt_cons]
    by_cases c : x ≥ k
    · rw [if_pos c]
      cases i with
      | zero => cases e; exact ⟨fun _ => c, fun _ => by omega⟩
      | succ i =>
        rw [List.getElem?_cons_succ] at e
        have := cnt_lt h.tail (k := k) e
        omega
    · rw [if_neg c, cnt_zero (fun y hy => by have := (h.le y hy).2; omega)]
      cases i with
      | zero => cases e; exact ⟨fun z => by omega, fun z => by omega⟩
      | succ i =>
        rw [List.getElem?_cons_succ] at e
        have := (h.le n (List.mem_of_getElem? e)).2
        omega
theorem cnt_len {ns : List Int} {k : Int} : cnt ns k ≤ ns.length := List.countP_le_length
theorem cnt_all {ns : List Int} {k : Int} (h : ∀ x ∈ ns, k ≤ x) : cnt ns k = ns.length := by
  unfold cnt
  rw [List.countP_eq_length]
  intro x hx
  exact decide_eq_true (h x hx)
theorem cnt_mono {ns : List Int} {k j : Int} (h : k ≤ j) : cnt ns j ≤ cnt ns k := by
  unfold cnt
  refine List.countP_mono_left fun x _ z => ?_
  have : x ≥ j := of_decide_eq_true z
  exact decide_eq_true (by omega)
/-- the turned row -/
def T (ns : List Int) : List Int := (List.range (ns.headD 0).toNat).map fun p => ((cnt ns ((p : Nat) + 1) : Nat) : Int)
theorem T_len {ns : List Int} : (T ns).length = (ns.headD 0).toNat := by
  unfold T
  rw [List.length_map, List.length_range]
theorem T_get {ns : List Int} {p : Nat} (h : p < (ns.headD 0).toNat) : (T ns)[p]? = some ((cnt ns ((p : Nat) + 1) : Nat) : Int) := by
  unfold T
  rw [List.getElem?_map, List.getElem?_range h]
  rfl
theorem T_fall {ns : List Int} (h : Fall ns) : Fall (T ns) := by
  refine fall_of fun p hp => ?_
  rw [T_len] at hp
  refine at_yes (T_get hp) ?_ fun j m hj e => ?_
  · cases ns with
    | nil => simp at hp
    | cons n ns =>
      have := (cnt_lt h (i := 0) (k := (p : Int) + 1) rfl).2 (by simp at hp; omega)
      omega
  · subst hj
    rw [T_get (by omega)] at e
    cases e
    have := cnt_mono (ns := ns) (k := (j : Int) + 1) (j := ((j + 1 : Nat) : Int) + 1) (by omega)
    omega
theorem range_cnt (h n : Nat) : ∀ (q : Nat → Bool), (∀ k, k < h → (q k = true ↔ k < n)) → (List.range h).countP q = min n h := by
  induction h with
  | zero => intro q _; simp
  | succ h ih =>
    intro q hq
    rw [List.range_succ, List.countP_append, ih q (fun k hk => hq k (by omega)), List.countP_singleton]
    have := hq h (by omega)
    by_cases c : q h = true
    · have := this.1 c
      rw [if_pos c]
      omega
    · have : ¬ h < n := fun z => c (this.2 z)
      rw [if_neg c]
      omega
theorem T_T {ns : List Int} (h : Fall ns) : T (T ns) = ns := by
  cases ns with
  | nil => rfl
  | cons n ns =>
    have h1 := h.head
    have hh : (T (n :: ns)).headD 0 = (((n :: ns).length : Nat) : Int) := by
      have e := T_get (ns := n :: ns) (p := 0) (by simp; omega)
      rw [List.headD_eq_head?_getD, List.head?_eq_getElem?, e]
      show ((cnt (n :: ns) _ : Nat) : Int) = _
      rw [cnt_all]
      intro x hx
      rcases List.mem_cons.mp hx with rfl | hx
      · simpa using h1
      · have := (h.le x hx).1
        simpa using this
    refine List.ext_getElem? fun i => ?_
    rcases Nat.lt_or_ge i (n :: ns).length with hi | hi
    · rw [T_get (by rw [hh]; omega), List.getElem?_eq_getElem hi]
      congr 1
      have e : (n :: ns)[i]? = some (n :: ns)[i] := List.getElem?_eq_getElem hi
      generalize (n :: ns)[i] = m at e
      have hm : 1 ≤ m ∧ m ≤ n := by
        have := List.mem_of_getElem? e
        rcases List.mem_cons.mp this with rfl | hx
        · exact ⟨h1, Int.le_refl _⟩
        · exact h.le m hx
      have : cnt (T (n :: ns)) ((i : Nat) + 1) = m.toNat := by
        unfold cnt T
        rw [List.countP_map, range_cnt (n := m.toNat)]
        · simp
          omega
        · intro k hk
          have := cnt_lt h (k := (k : Int) + 1) e
          simp only [Function.comp, decide_eq_true_eq]
          constructor
          · intro z
            have := this.1 (by omega)
            omega
          · intro z
            have := this.2 (by omega)
            omega
      rw [this]
      omega
    · rw [List.getElem?_eq_none hi, List.getElem?_eq_none]
      rw [T_len, hh]
      omega
/-- the heads of a row: its greatest number -/
theorem max_head {ns : List Int} (h : Fall ns) {m : Int} (hm : m ∈ ns) (hx : ∀ y ∈ ns, y ≤ m) : ns.headD 0 = m := by
  cases ns with
  | nil => cases hm
  | cons n ns =>
    have h1 := hx n (List.mem_cons_self ..)
    rcases List.mem_cons.mp hm with rfl | z
    · rfl
    · have := (h.le m z).2
      show n = m
      omega
theorem mem_head {ns : List Int} (h : Fall ns) {x : Int} (hm : x ∈ ns) : 1 ≤ x ∧ x ≤ ns.headD 0 := by
  cases ns with
  | nil => cases hm
  | cons n ns =>
    rcases List.mem_cons.mp hm with rfl | z
    · exact ⟨h.head, Int.le_refl _⟩
    · exact h.le x z
/-- one number more at place p -/
def row (h : Nat) (f : Nat → Int) : List Int := (List.range h).map f
theorem row_set {h : Nat} {f : Nat → Int} {p : Nat} {v : Int} : (row h f).set p v = row h (fun q => if q = p then v else f q) := by
  refine List.ext_getElem? fun i => ?_
  unfold row
  rw [List.getElem?_set, List.getElem?_map, List.getElem?_map, List.length_map, List.length_range]
  by_cases e : p = i
  · subst e
    by_cases l : p < h
    · rw [if_pos rfl, if_pos l, List.getElem?_range l]
      simp
    · rw [if_pos rfl, if_neg l, List.getElem?_eq_none (by simpa using l)]
      rfl
  · rw [if_neg e]
    by_cases l : i < h
    · rw [List.getElem?_range l]
      simp [Ne.symm e]
    · rw [List.getElem?_eq_none (by simpa using l)]
      rfl
theorem row_get {h : Nat} {f : Nat → Int} {p : Nat} (l : p < h) : (row h f)[p]? = some (f p) := by
  unfold row
  rw [List.getElem?_map, List.getElem?_range l]
  rfl
theorem row_ext {h : Nat} {f g : Nat → Int} (e : ∀ p, p < h → f p = g p) : row h f = row h g := List.map_congr_left fun p hp => e p (List.mem_range.mp hp)
end K34

set_option maxRecDepth 100000
set_option maxHeartbeats 4000000
namespace K34
open PySem PySem.Spec PyProof.Rows L2
section
variable {w : World} {K : PySem.W.Frag} {mg : Str → Option Value} {base : Heap}
theorem dno {p : Prop} [Decidable p] (c : ¬ decide p = true) : ¬ p := fun z => c (decide_eq_true z)
abbrev xN (i : Int) : HO := .xd [("place", .int i)]
def spCheck (K : PySem.W.Frag) : Sp := fun vs H Q E => ∃ (a : Addr) (ns : List Int), vs = [.ref a] ∧ SqL K H a (ns.map V.int) ∧
  (∀ i, Wrong ns i → Rs (c_NotFalling K) (xN (i : Nat)) H E) ∧ (Fall ns → ∀ H', Same H H' → Q .non H')
theorem ok_check_row (T : Tx K mg) : Ok PG w K mg base (L2.CX PG w) 3 (a_check_row K) p_check_row (spCheck K) := by
  refine Ok.of 2 T.f_check_row sc_check_row bi_check_row (by decide) (fun vs H Q E h => ?_) (fun cdv A outer s H vs Q E hr h => ?_)
  · obtain ⟨_, _, rfl, _⟩ := h
    rfl
  · obtain ⟨a, ns, rfl, hs, h1, h2⟩ := h
    have nd := sc_check_row.nd
    refine ⟨_, pss_one (ps_for (passX rfl) rfl (pi_enumW (by rfl) T.m_enumerate (pa_cons (pv 0) pa_nil)) (pg_tup rfl (pgs_cons (pg_name (i := 1) nd rfl (.inl rfl)) (pgs_cons (pg_name (i := 2) nd rfl (.inl rfl)) pgs_nil)))
      (pss_one (ps_if (PW.pt (pw_or (pt_cmpR op_lt (pv 2) pe_int (nomark _)) (pw_or1 (PW.pt (pw_and (pt_cmpR op_gt (pv 1) pe_int (nomark _)) (pw_and1 (pt_cmpR op_gt (pv 2) (pe_ix ix_list (pv 0) (pe_op op_sub (pv 1) pe_int) (fun _ _ => rfl)) (nomark _))))))))
        (pss_one (ps_raiseX rfl T.e_NotFalling (by decide) (by decide) hr (takes_of rfl rfl rfl rfl) rfl (pa_cons (pv 1) pa_nil))) pss_nil))), ?_⟩
    refine ⟨_, rfl, a, ns.map V.int, rfl, .inl hs, fun J G hG wk => ?_⟩
    refine for_it wk (fun i σ H' => Same H H' ∧ (∀ j, j < i → At ns j) ∧ σ.length = 3 ∧ σ[0]? = some (some (.ref a))) ⟨.refl _, fun j z => absurd z (Nat.not_lt_zero j), rfl, rfl⟩ (fun i σ H' _ p => hG H' p.1) (fun i x σ H0 H1 hi p y => ?_) (fun σ H' p => ?_)
    · obtain ⟨sm, hb, hl, hg⟩ := p
      obtain ⟨T', x', y', rfl, hT, rfl, e1, e2⟩ := y
      obtain ⟨n, hn, rfl⟩ := map_get e2
      cases e1
      have sm' : Same H (upd H0 T' (.tup [.int (i : Nat), .int n])) := sm.new' hT
      have z1 : ((σ.set 1 (some (V.int (i : Nat)))).set 2 (some (V.int n)))[1]? = some (some (.int (i : Nat))) := by
        rw [List.getElem?_set_ne (by decide), List.getElem?_set_self (by omega)]
      have z2 : ((σ.set 1 (some (V.int (i : Nat)))).set 2 (some (V.int n)))[2]? = some (some (.int n)) := by
        rw [List.getElem?_set_self (by rw [List.length_set]; omega)]
      have z0 : ((σ.set 1 (some (V.int (i : Nat)))).set 2 (some (V.int n)))[0]? = some (some (.ref a)) := by
        rw [List.getElem?_set_ne (by decide), List.getElem?_set_ne (by decide)]; exact hg
      have err : ¬ At ns i → ∀ d, upd H0 T' (.tup [.int (i : Nat), .int n]) d = none → E (.ref (c_NotFalling K)) (some d) (upd (upd H0 T' (.tup [.int (i : Nat), .int n])) d (xN (i : Nat))) := fun c d hd =>
        h1 i ⟨hb, c⟩ _ d sm' hd
      have go : At ns i → Same H (upd H0 T' (.tup [.int (i : Nat), .int n])) ∧ (∀ j, j < i + 1 → At ns j) ∧ ((σ.set 1 (some (V.int (i : Nat)))).set 2 (some (V.int n))).length = 3 ∧ ((σ.set 1 (some (V.int (i : Nat)))).set 2 (some (V.int n)))[0]? = some (some (.ref a)) := fun c =>
        ⟨sm', fun j hj => if z : j < i then hb j z else (show j = i by omega) ▸ c, by simp [hl], z0⟩
      refine ⟨T', _, rfl, SqT.of upd_same, rfl, _, _, rfl, _, _, rfl, rfl, ?_⟩
      refine ⟨_, z2, _, _, rfl, rfl, _, rfl, ?_⟩
      refine ite2 (fun c => ?_) (fun c => ?_)
      · exact ⟨_, z1, rfl, fun d hd => err (at_no1 hn (of_decide_eq_true c)) d hd⟩
      · have c0 : 1 ≤ n := by have := dno c; omega
        refine ⟨_, z1, _, _, rfl, rfl, _, rfl, ?_⟩
        refine ite2 (fun c' => ?_) (fun c' => ?_)
        · have ci : 0 < i := by have := of_decide_eq_true c'; omega
          obtain ⟨k, rfl⟩ : ∃ k, i = k + 1 := ⟨i - 1, by omega⟩
          have hkl : k < ns.length := by rw [List.length_map] at hi; omega
          have hk : ns[k]? = some ns[k] := List.getElem?_eq_getElem hkl
          refine ⟨_, z2, _, z0, _, z1, _, _, rfl, rfl, a, _, _, .int ns[k], rfl, rfl, sm'.seq hs, ?_, _, _, rfl, rfl, _, rfl, ?_⟩
          · have e : ((k + 1 : Nat) : Int) - 1 = ((k : Nat) : Int) := by omega
            rw [e]
            exact atI_nat (by rw [List.getElem?_map, hk]; rfl)
          · refine ite2 (fun c2 => ?_) (fun c2 => ?_)
            · exact ⟨_, z1, rfl, fun d hd => err (at_no2 hn hk (of_decide_eq_true c2)) d hd⟩
            · refine go (at_yes hn c0 fun j m hj em => ?_)
              obtain rfl : j = k := by omega
              rw [hk] at em
              cases em
              have := dno c2
              omega
        · refine go (at_yes hn c0 fun j m hj em => ?_)
          have := dno c'
          omega
    · refine h2 (fall_of fun j hj => p.2.1 j (by rw [List.length_map]; exact hj)) H' p.1
abbrev lcSc : Scope := { kind := .function, names := [(".0", .local), ("least", .cell), ("len", .globalImplicit), ("row", .cell)], isGenerator := false, isCoroutine := false }
end
end K34

set_option maxRecDepth 100000
set_option maxHeartbeats 4000000
/-! # zip(a, l): a an own instance whose __iter__ says: return iter(self.field), the field a tuple; l a list -/
namespace L2
open PySem PySem.Spec PyProof.Rows PySem.W
section
variable {X : Cx} {pins : List (Addr × Obj)} {σ : St} {H : Hp} {s : Shared} {a C dx f t : Addr} {fs : List (Str × V)} {fld : Str} {xs : List V} {k : Nat}
theorem own_iterA {A : Around} {E : Value → Shared → Prop} (O : OwnIt X.K X.mg C f fld) (hr : Room k A) (I : Inv X pins σ H s) (ha : H a = some (.ins C dx fs)) (hv : fs.lookup fld = some (.ref t)) (hT : SqT X.K H t xs) {Q : Value → Shared → Prop}
    (hq : ∀ h' tk it, (∀ b o, s.heap.get? b = some o → h'.get? b = some o) → s.heap.objs.size ≤ it → h'.get? it = some (tupIt t) → Q (.ref it) { s with heap := h', toks := tk }) :
    wpAny (model X.prog X.w) A (pyIter (.ref a)) Q E s := by
  obtain ⟨qual, params, scope, p1, p2, p3, p4, p5, ⟨oc, od, kV, doc, pm, an, cdv, ct, osl, hfn, hcd⟩, sc1, sc2, sc3, sc4, sc5, sc6, hb, hbase⟩ := O.txt
  obtain ⟨mA, J0, rel, _⟩ := ins_get I.hok ha
  obtain ⟨oda, J, _⟩ := J0.look
  obtain ⟨m, hF⟩ := I.fr
  obtain ⟨its, rv, hTup, _⟩ := I.tuple hT
  obtain ⟨u, hu, ru⟩ := RelO.some_of (v := V.ref t) (o := mA fld) (by rw [← hv]; exact rel fld)
  cases ru
  have hG : s.heap.Ns mainGlobals X.mg := I.mod.glob.keeps I.bk
  obtain ⟨mb, hB, hbb⟩ := I.mod.blt
  have X0 := I.kIn
  have hlim := I.nolimit
  obtain ⟨hp, g, dr, tk, os⟩ := s
  refine owit_iter hF I.ok.mod.kin J O.at_ O.fn (wpAny_call ?_)
  refine ks_codeAny_call_defAt (binds := [("self", .ref a)]) (by have := hr.dp; omega) (X0 _ _ hfn) rfl hlim (codeRec_of X0 hcd) rfl (hb _ _ _ rfl rfl rfl) sc3 (fun y hy => ?_) (fun h₀ hns hk₀ => ?_) sc5 sc6 sc4
  · have e : y = (("self" : Str), Value.ref a) := by simpa using hy
    rw [e]
    exact sc1
  · have X1 : X.K.In h₀ := X0.keeps hk₀
    have J1 : ObjM h₀ a dx C mA := ⟨hk₀ _ _ J0.obj, J0.ns.at fun o q => hk₀ _ o q, J0.ne⟩
    refine wpAt_of_wpAny (wpAny_execs_cons (wpAny_Return_some ?_))
    refine wpAny_Call_Name_kw (Calls.Name_function_global sc4 sc2 (Calls.loadGlobal_builtin (hG.keeps hk₀) O.free ((hB.keeps I.bk).keeps hk₀) ((hbb _ (by decide)).trans (by decide +kernel : bootBuiltins "iter" = some (.builtin "iter"))) ?_) (by decide))
    refine PyProof.Rows.callWith_builtin1 (spliced_more (attr_of (hbase _ rfl) (PySem.ESX.ldL (v := .ref a) hns (by simp [List.lookup]) ?_ sc4 sc1))) (by rfl) (by rfl)
    refine get_map X1 J1 (O.cls.get _) O.cls.hd O.noA hu rfl (spliced_none ?_)
    refine call_iter_tup (show h₀.IsTuple t its.toArray from let ⟨o, h1, h2⟩ := hTup; ⟨o, hk₀ _ o h1, h2⟩) ?_
    have hT1 : (⟨h₀.push (tupIt t), g, dr, tk + 1 + 1, os⟩ : Shared).TypeIs (.ref h₀.objs.size) "tuple_iterator" := ⟨_, Heap.get?_push_at rfl rfl, rfl⟩
    refine wpAny_specialOf (hT1) F.slot_tuple_iterator_next.lookup ?_
    exact hq _ _ _ (fun b o q => Heap.get?_push_of_some _ (hk₀ b o q)) (by
      have := hns.lt
      exact Nat.le_of_lt this) (Heap.get?_push_at rfl rfl)
end
/-! ## the zip's making over any two iterators -/
abbrev zqT (h : Heap) (i1 i2 : Addr) : Heap := h.push { cls := .type "tuple", data := .seq #[.ref i1, .ref i2] }
abbrev zqO (h : Heap) (i1 i2 : Addr) : Heap := (zqT h i1 i2).push { cls := .type "tuple", data := .seq #[.none, .none] }
abbrev zqZ (h : Heap) (i1 i2 : Addr) : Heap := (zqO h i1 i2).push { cls := .type "zip", data := .fields #[.none, .bool false, .bool false, .ref h.objs.size, .ref (zqT h i1 i2).objs.size] }
/-- how iter(v) goes here, whatever is wanted behind it: the iterator's place and the memory behind it -/
def IterTo (prog : Program) (w : World) (A : Around) (v : Value) (s : Shared) (G : Addr → Shared → Prop) : Prop := ∀ (Q E : Value → Shared → Prop), (∀ it s', G it s' → Q (.ref it) s') → wpAny (model prog w) A (pyIter v) Q E s
theorem meets_zip_q {prog : Program} {w : World} {v1 v2 : Value} :
    MeetsIn prog w (Builtin.«zip.__new__» ⟨[.type "zip", v1, v2], []⟩) (fun A R s => IterTo prog w A.in1 v1 s fun i1 s1 => IterTo prog w A.in1 v2 s1 fun i2 s2 => R (.ok (.ret (.ref (zqO s2.heap i1 i2).objs.size))) { s2 with heap := zqZ s2.heap i1 i2 }) :=
  .of_wp fun A R s h => by
    have hsub := sub_zip
    have q1 : ∀ {E : Value → Shared → Prop} {Q : Value → Shared → Prop}, (∀ it s1, (IterTo prog w A.in1 v2 s1 fun i2 s2 => R (.ok (.ret (.ref (zqO s2.heap it i2).objs.size))) { s2 with heap := zqZ s2.heap it i2 }) → Q (.ref it) s1) → wpAny (model prog w) A.in1 (pyIter v1) Q E s := fun q => h _ _ q
    have q2 : ∀ {E : Value → Shared → Prop} {Q : Value → Shared → Prop} {it : Addr} {s1 : Shared}, (IterTo prog w A.in1 v2 s1 fun i2 s2 => R (.ok (.ret (.ref (zqO s2.heap it i2).objs.size))) { s2 with heap := zqZ s2.heap it i2 }) → (∀ i2 s2, R (.ok (.ret (.ref (zqO s2.heap it i2).objs.size))) { s2 with heap := zqZ s2.heap it i2 } → Q (.ref i2) s2) → wpAny (model prog w) A.in1 (pyIter v2) Q E s1 := fun g q => g _ _ q
    wp_walk using q1
    intro it s1 g
    have q3 : ∀ {E : Value → Shared → Prop} {Q : Value → Shared → Prop}, (∀ i2 s2, R (.ok (.ret (.ref (zqO s2.heap it i2).objs.size))) { s2 with heap := zqZ s2.heap it i2 } → Q (.ref i2) s2) → wpAny (model prog w) A.in1 (pyIter v2) Q E s1 := fun q => q2 g q
    wp_walk using q3
    intro i2 s2 g2
    obtain ⟨hp, gg, d, tk, os⟩ := s2
    wp_walk
    exact ⟨_, rfl, g2⟩
/-- zip(v, u): what is left when both have begun -/
theorem zip_q {prog : Program} {w : World} {A : Around} {E : Value → Shared → Prop} {s : Shared} {v1 v2 : Value} {Q : Value → Shared → Prop}
    (h : IterTo prog w A.in1.in1 v1 s fun i1 s1 => IterTo prog w A.in1.in1 v2 s1 fun i2 s2 => ∀ h', IsZip h' (s2.heap.objs.size + 2) s2.heap.objs.size (s2.heap.objs.size + 1) .none → IsTupOf2 h' s2.heap.objs.size (.ref i1) (.ref i2) →
      IsTupOf2 h' (s2.heap.objs.size + 1) .none .none → h'.objs.size = s2.heap.objs.size + 3 → (∀ c o, s2.heap.get? c = some o → h'.get? c = some o) → Q (.ref (s2.heap.objs.size + 2)) { s2 with heap := h' }) :
    wpAny (model prog w) A (call (.type "zip") [v1, v2]) Q E s := by
  refine callType_newIn F.called_zip (by decide) (F.typeCall_zip_2 _ _) (F.newCall_zip_2 _ _) (fun obj => F.args_object_init_3 obj _ _) F.entry_zip_new meets_zip_q ?_
  refine fun Q1 E1 k1 => h Q1 E1 fun i1 s1 h1 => k1 i1 s1 fun Q2 E2 k2 => h1 Q2 E2 fun i2 s2 h2 => k2 i2 s2 ?_
  have zT : (zqT s2.heap i1 i2).objs.size = s2.heap.objs.size + 1 := by rw [Heap.size_push]
  have zO : (zqO s2.heap i1 i2).objs.size = s2.heap.objs.size + 2 := by rw [Heap.size_push, zT]
  have zZ : (zqZ s2.heap i1 i2).objs.size = s2.heap.objs.size + 3 := by rw [Heap.size_push, zO]
  have gZ : (zqZ s2.heap i1 i2).get? (zqO s2.heap i1 i2).objs.size = some { cls := .type "zip", data := .fields #[.none, .bool false, .bool false, .ref s2.heap.objs.size, .ref (zqT s2.heap i1 i2).objs.size] } := Heap.get?_push_size _ rfl
  have gO : (zqZ s2.heap i1 i2).get? (zqT s2.heap i1 i2).objs.size = some { cls := .type "tuple", data := .seq #[.none, .none] } := Heap.get?_push_of_some _ (Heap.get?_push_size _ rfl)
  have gT : (zqZ s2.heap i1 i2).get? s2.heap.objs.size = some { cls := .type "tuple", data := .seq #[.ref i1, .ref i2] } := Heap.get?_push_of_some _ (Heap.get?_push_of_some _ (Heap.get?_push_size _ rfl))
  rw [zO, zT] at gZ
  rw [zT] at gO
  show _ ∧ _
  rw [zO]
  exact ⟨⟨_, gZ, rfl⟩, h2 _ gZ gT gO zZ fun c o e => Heap.get?_push_of_some _ (Heap.get?_push_of_some _ (Heap.get?_push_of_some _ e))⟩
def ItzO (K : PySem.W.Frag) (a b : Addr) : It :=
  ⟨fun i H => ∃ xs ys : List V, SqT K H a xs ∧ SqL K H b ys ∧ i < xs.length ∧ i < ys.length,
   fun i H v H' => ∃ T x y, v = .ref T ∧ H T = none ∧ H' = upd H T (.tup [x, y]) ∧ (∀ xs, SqT K H a xs → xs[i]? = some x) ∧ ∀ ys, SqL K H b ys → ys[i]? = some y,
   fun i H => ∃ xs ys : List V, SqT K H a xs ∧ SqL K H b ys ∧ min xs.length ys.length = i⟩
/-- what the five cells of the walk look like at turn i -/
def ZipAtO (z TI TO i1 i2 a b : Addr) (i : Nat) (h : Heap) : Prop := IsZip h z TI TO .none ∧ IsTupOf2 h TI (.ref i1) (.ref i2) ∧ (∃ a1 a2, IsTupOf2 h TO a1 a2) ∧ h.IsTupleIter i1 a i ∧ h.IsListIter i2 b i
theorem turn_zipO {P : Program} {w : World} {K : PySem.W.Frag} {elts : List Expr} {kk : Nat} {tpos : Pos} {a b z TI TO i1 i2 : Addr} (S : ZipSep2 z TI TO i1 i2 [i1, a] [i2, b]) :
    Turn P w K (.Tuple elts kk tpos) (ItzO K a b) [z, TI, TO, i1, i2] z (ZipAtO z TI TO i1 i2 a b) where
  mem := by simp
  obj := fun i h st c hc => by
    obtain ⟨h1, h2, ⟨a1, a2, h3⟩, ⟨o4, h4, _, d4⟩, ⟨o5, h5, _, d5⟩⟩ := st
    have e' : c = z ∨ c = TI ∨ c = TO ∨ c = i1 ∨ c = i2 := by simpa using hc
    rcases e' with q | q | q | q | q <;> subst q
    · exact ⟨_, h1, fun v q => nomatch q⟩
    · exact ⟨_, h2, fun v q => nomatch q⟩
    · exact ⟨_, h3, fun v q => nomatch q⟩
    · exact ⟨o4, h4, fun v q => by rw [d4] at q; cases q⟩
    · exact ⟨o5, h5, fun v q => by rw [d5] at q; cases q⟩
  keep := fun i h h' st k => by
    obtain ⟨h1, h2, ⟨a1, a2, h3⟩, h4, h5⟩ := st
    exact ⟨k z (by simp) _ h1, k TI (by simp) _ h2, ⟨a1, a2, k TO (by simp) _ h3⟩, h4.at fun o q => k i1 (by simp) o q, h5.at fun o q => k i2 (by simp) o q⟩
  item := by
    intro X hP hw hK hc i pins s σ H E I hf st hg
    subst hP hw hK
    obtain ⟨h1, h2, h3, h4, h5⟩ := st
    obtain ⟨xs, ys, hx, hy, lx, ly⟩ := hg
    obtain ⟨its, rv, p, _⟩ := I.tuple hx
    obtain ⟨its2, rv2, p2', _⟩ := I.list hy
    have p2 : s.heap.IsList b its2.toArray := p2'.isList
    have da : a ≠ i1 := fun e => by
      obtain ⟨o, ho, hcls, _⟩ := p
      obtain ⟨o2, ho2, hc2, _⟩ := h4
      rw [e, ho2] at ho
      cases ho
      rw [hc2] at hcls
      exact absurd hcls (by decide)
    have db : b ≠ i2 := fun e => by
      obtain ⟨o, ho, hcls, _⟩ := p2
      obtain ⟨o2, ho2, hc2, _⟩ := h5
      rw [e, ho2] at ho
      cases ho
      rw [hc2] at hcls
      exact absurd hcls (by decide)
    have W := GoesN.zip2 (prog := X.prog) (w := X.w) (A := X.A) (elts := elts) (x1 := kk) (pos := tpos) S (Draws.tuple (prog := X.prog) (w := X.w) (A := X.A.in1) (I.ok.hd hc) i1 a da its.toArray) (Draws.list (prog := X.prog) (w := X.w) (A := X.A.in1) (I.ok.hd hc) i2 b db its2.toArray)
    have n1 : i < min its.toArray.size its2.toArray.size := by
      rw [List.size_toArray, List.size_toArray, ← rv.length, ← rv2.length]
      omega
    refine wpAny_mono (W.goes i s _ E n1 ⟨h1, h2, h3, ⟨h4, p⟩, h5, p2⟩ fun v h' tk hY st' hk htk => ?_) (fun r s1 hr => hr) fun _ _ q => q
    obtain ⟨T, u1, u2, rfl, hT, e1, e2, hTup⟩ := hY
    obtain ⟨g1, g2, g3, ⟨g4, _⟩, g5, _⟩ := st'
    have hxi : xs[i]? = some xs[i] := List.getElem?_eq_getElem lx
    have hyi : ys[i]? = some ys[i] := List.getElem?_eq_getElem ly
    obtain ⟨v1, hv1, r1⟩ := rv.get hxi
    obtain ⟨v2, hv2, r2⟩ := rv2.get hyi
    have q1 : u1 = v1 := by
      have : its[i]? = some u1 := by simpa using e1
      rw [hv1] at this; exact (Option.some.inj this).symm
    have q2 : u2 = v2 := by
      have : its2[i]? = some u2 := by simpa using e2
      rw [hv2] at this; exact (Option.some.inj this).symm
    subst q1 q2
    have I1 : Inv X pins σ (upd H T (.tup [xs[i], ys[i]])) { s with heap := h', toks := tk } :=
      I.turnedNew (ch := [z, TI, TO, i1, i2]) (fun c o hb q => hk c o (fun m => hb (by
        have e' : c = z ∨ c = TO ∨ c = i1 ∨ c = i2 := by simpa using m
        rcases e' with q | q | q | q <;> simp [q])) q) hf hT ⟨by show 2 ≤ sizeLine; decide, [u1, u2], .cons r1 (.cons r2 .nil), hTup⟩
    refine ⟨.ref T, _, I1, rfl, ⟨T, _, _, rfl, I.hok.fresh hT, rfl, fun l hl => by rw [I.tuple_inj hl hx]; exact hxi, fun l hl => by rw [I.list_inj hl hy]; exact hyi⟩, ⟨g1, g2, g3, g4, g5⟩, fun c hc' => ?_⟩
    have lt : c < s.heap.objs.size := by
      have e' : c = z ∨ c = TI ∨ c = TO ∨ c = i1 ∨ c = i2 := by simpa using hc'
      obtain ⟨_, _, g3'⟩ := h3
      obtain ⟨_, w4, _⟩ := h4
      obtain ⟨_, w5, _⟩ := h5
      rcases e' with q | q | q | q | q <;> rw [q]
      · exact Heap.lt_size h1
      · exact Heap.lt_size h2
      · exact Heap.lt_size g3'
      · exact Heap.lt_size w4
      · exact Heap.lt_size w5
    rw [upd_ne (Nat.ne_of_lt (Nat.lt_of_lt_of_le lt hT))]
    exact (hf c hc').1
  done := by
    intro X hP hw hK hc i pins s σ H E I hf st hg
    subst hP hw hK
    obtain ⟨h1, h2, h3, h4, h5⟩ := st
    obtain ⟨xs, ys, hx, hy, hend⟩ := hg
    obtain ⟨its, rv, p, _⟩ := I.tuple hx
    obtain ⟨its2, rv2, p2', _⟩ := I.list hy
    have p2 : s.heap.IsList b its2.toArray := p2'.isList
    have da : a ≠ i1 := fun e => by
      obtain ⟨o, ho, hcls, _⟩ := p
      obtain ⟨o2, ho2, hc2, _⟩ := h4
      rw [e, ho2] at ho
      cases ho
      rw [hc2] at hcls
      exact absurd hcls (by decide)
    have db : b ≠ i2 := fun e => by
      obtain ⟨o, ho, hcls, _⟩ := p2
      obtain ⟨o2, ho2, hc2, _⟩ := h5
      rw [e, ho2] at ho
      cases ho
      rw [hc2] at hcls
      exact absurd hcls (by decide)
    have W := GoesN.zip2 (prog := X.prog) (w := X.w) (A := X.A) (elts := elts) (x1 := kk) (pos := tpos) S (Draws.tuple (prog := X.prog) (w := X.w) (A := X.A.in1) (I.ok.hd hc) i1 a da its.toArray) (Draws.list (prog := X.prog) (w := X.w) (A := X.A.in1) (I.ok.hd hc) i2 b db its2.toArray)
    have n1 : min its.toArray.size its2.toArray.size = i := by
      rw [List.size_toArray, List.size_toArray, ← rv.length, ← rv2.length]
      exact hend
    rw [n1] at W
    refine wpAny_mono (W.stops s (fun s1 => Inv X pins σ H s1) E ⟨h1, h2, h3, ⟨h4, p⟩, h5, p2⟩ fun h' tk hk htk => I.turnedL (t' := tk) (ch := [z, TI, TO, i1, i2]) (fun c o hb q => hk c o (fun m => hb ?_) q) hf) (fun r s1 hr => hr) fun _ _ q => q
    have e' : c = z ∨ c = TO ∨ c = i1 ∨ c = i2 := by simpa using m
    rcases e' with q | q | q | q <;> simp [q]
  self := fun A i s Q E st h => wpAny_pyIter_zip st.1 h
theorem walk_zipO {K : PySem.W.Frag} {a b : Addr} {xs ys : List V} : Walk (ItzO K a b) (min xs.length ys.length) (fun H => SqT K H a xs ∧ SqL K H b ys) (YPair (fun i => xs[i]?) (fun i => ys[i]?)) where
  goes := fun i H hi h => ⟨xs, ys, h.1, h.2, by omega, by omega⟩
  stops := fun H h => ⟨xs, ys, h.1, h.2, rfl⟩
  yields := fun i H v H' hi h y => by
    obtain ⟨T, x, y, rfl, hT, rfl, h1, h2⟩ := y
    exact ⟨T, x, y, rfl, hT, rfl, h1 xs h.1, h2 ys h.2⟩
theorem sepO {N i t b : Nat} (h1 : i < N) (h2 : t < N) (h3 : b < N) (nb : i ≠ b) : ZipSep2 (N + 3) (N + 1) (N + 2) i N [i, t] [N, b] where
  TIz := show (N + 1 : Nat) ≠ N + 3 by omega
  TOz := show (N + 2 : Nat) ≠ N + 3 by omega
  TITO := show (N + 1 : Nat) ≠ N + 2 by omega
  TIi1 := show (N + 1 : Nat) ≠ i by omega
  mem1 := List.mem_cons_self ..
  zf1 := fun m => by
    have : (N + 3 : Nat) = i ∨ (N + 3 : Nat) = t := by simpa using m
    omega
  Tf1 := fun m => by
    have : (N + 2 : Nat) = i ∨ (N + 2 : Nat) = t := by simpa using m
    omega
  TIi2 := show (N + 1 : Nat) ≠ N by omega
  mem2 := List.mem_cons_self ..
  zf2 := fun m => by
    rcases List.mem_cons.mp m with m | m
    · exact absurd m (show (N + 3 : Nat) ≠ N by omega)
    · exact absurd (List.mem_singleton.mp m) (show (N + 3 : Nat) ≠ b by omega)
  Tf2 := fun m => by
    rcases List.mem_cons.mp m with m | m
    · exact absurd m (show (N + 2 : Nat) ≠ N by omega)
    · exact absurd (List.mem_singleton.mp m) (show (N + 2 : Nat) ≠ b by omega)
  sep1_2 := fun m => by
    rcases List.mem_cons.mp m with m | m
    · exact absurd m (show (i : Nat) ≠ N by omega)
    · exact nb (List.mem_singleton.mp m)
  sep2_1 := fun m => by
    rcases List.mem_cons.mp m with m | m
    · exact absurd m (show (N : Nat) ≠ i by omega)
    · exact absurd (List.mem_singleton.mp m) (show (N : Nat) ≠ t by omega)
/-- zip(o, l): o an own instance whose __iter__ walks its field fld (a tuple), l a list -/
def iZipO (K : PySem.W.Frag) (C : Addr) (fld : Str) (ta : TA) : TI := fun σ H R => ta σ H fun vs H1 => ∃ a b dx fs t xs ys, vs = [.ref a, .ref b] ∧ H1 a = some (.ins C dx fs) ∧ fs.lookup fld = some (.ref t) ∧ SqT K H1 t xs ∧ SqL K H1 b ys ∧ R (ItzO K t b) H1
theorem pi_zipO {X : Cx} {e e2 : Expr} {ta : TA} {p pos tpos : Pos} {elts : List Expr} {kk : Nat} {C f : Addr} {fld : Str} {k : Nat} (O : OwnIt X.K X.mg C f fld) (hr : Room (k + 2) X.A) (hm : X.mg "zip" = none) (ha : PA X [e, e2] ta) (hg : Gl X "zip" := by rfl)
    (hs : starEach [e, e2] X.env = (false, eval e X.env) :: starEach [e2] X.env := by rfl) (hpl : (backTo pos (starEach [e2] X.env)).any (·.1) = false := by rfl) :
    PI X (.Tuple elts kk tpos) (.Call (.Name "zip" p) [e, e2] [] pos) (iZipO X.K C fld ta) := by
  refine ⟨fun pins s σ H R I h => Call_ (ld_blt I hg hm PyProof.Rows.boot_zip (PyProof.Rows.callWith_type1 (thn (ha.run pos pins s σ H _ I h) fun us s1 ⟨vs, H1, I1, r1, q1⟩ => ?_) hs hpl))⟩
  obtain ⟨a, b, dx, fs, t, xs, ys, ex, hin, hl, hx, hy, q⟩ := q1
  subst ex
  cases r1 with
  | cons r rr =>
  cases rr with
  | cons r' rr =>
  cases rr
  cases r
  cases r'
  refine zip_q fun Q1 E1 k1 => own_iterA O hr.in1.in1 I1 hin hl hx fun h1 tk1 it1 hk1 hit1 ho1 => k1 it1 _ fun Q2 E2 k2 => ?_
  have I2 : Inv X pins σ H1 { s1 with heap := h1, toks := tk1 } := I1.kept (t' := tk1) hk1
  obtain ⟨its2, rv2, p2, _⟩ := I2.list hy
  obtain ⟨its, rv, p1, _⟩ := I2.tuple hx
  refine wpAny_pyIter_list p2.isList (k2 _ _ ?_)
  have zp : (h1.push { cls := .type "list_iterator", data := .fields #[.ref b, .int 0 0] }).objs.size = h1.objs.size + 1 := Heap.size_push ..
  dsimp only
  rw [zp]
  intro h' hz hTI hTO hsz hk
  refine wpAny_pyIter_zip hz ?_
  have hkk : ∀ c o, h1.get? c = some o → h'.get? c = some o := fun c o e => hk c o (Heap.get?_push_of_some _ e)
  have I3 : Inv X pins σ H1 { s1 with heap := h', toks := tk1 } := I2.kept (t' := tk1) hkk
  have l1 : it1 < h1.objs.size := Heap.lt_size ho1
  have lb : b < h1.objs.size := p2.lt
  have lt : t < h1.objs.size := by obtain ⟨_, h, _⟩ := p1; exact Heap.lt_size h
  have hi2 : h'.get? h1.objs.size = some { cls := .type "list_iterator", data := .fields #[.ref b, .int 0 0] } := hk _ _ (Heap.get?_push_size _ rfl)
  have nt : it1 ≠ b := fun e => by
    rw [e] at ho1
    obtain ⟨o, ho, hc, _⟩ := p2.isList
    have ho' : h1.get? b = some o := ho
    rw [ho'] at ho1
    cases ho1
    have hc' : Value.type "tuple_iterator" = Value.type "list" := hc
    exact absurd hc' (by decide)
  have S := sepO l1 lt lb nt
  refine ⟨_, [h1.objs.size + 3, h1.objs.size + 1, h1.objs.size + 2, it1, h1.objs.size], ZipAtO (h1.objs.size + 3) (h1.objs.size + 1) (h1.objs.size + 2) it1 h1.objs.size t b, _, H1, rfl, I3, turn_zipO S, ⟨hz, hTI, ⟨_, _, hTO⟩, ⟨_, hkk _ _ ho1, rfl, rfl⟩, ⟨_, hi2, rfl, rfl⟩⟩, fun c m => ?_, q⟩
  have hlt : s1.heap.objs.size ≤ h1.objs.size := Nat.le_of_lt (Nat.lt_of_le_of_lt hit1 l1)
  have le : s1.heap.objs.size ≤ c := by
    have e' : c = h1.objs.size + 3 ∨ c = h1.objs.size + 1 ∨ c = h1.objs.size + 2 ∨ c = it1 ∨ c = h1.objs.size := by simpa using m
    rcases e' with z | z | z | z | z <;> rw [z]
    · exact Nat.le_trans hlt (Nat.le_add_right _ 3)
    · exact Nat.le_trans hlt (Nat.le_add_right _ 1)
    · exact Nat.le_trans hlt (Nat.le_add_right _ 2)
    · exact hit1
    · exact hlt
  exact I1.fpOk le (I1.hok.fresh le)
end L2

set_option maxRecDepth 100000
set_option maxHeartbeats 4000000
/-! # enumerate(a), sum(a), a an own instance whose __iter__ says: return iter(self.field), the field a tuple -/
namespace L2
open PySem PySem.Spec PyProof.Rows PySem.W
abbrev eoZ (h : Heap) (it : Addr) : Heap := h.push { cls := .type "enumerate", data := .fields #[.none, .bool false, .ref it, rawInt 0, .none, .none] }
theorem meets_enum_q {prog : Program} {w : World} {v : Value} :
    MeetsIn prog w (Builtin.«enumerate.__new__» ⟨[.type "enumerate", v], []⟩) (fun A R s => IterTo prog w A.in1 v s fun it s1 => R (.ok (.ret (.ref s1.heap.objs.size))) { s1 with heap := eoZ s1.heap it }) :=
  .of_wp fun A R s h => by
    have hsub := sub_enumerate
    have q1 : ∀ {E : Value → Shared → Prop} {Q : Value → Shared → Prop}, (∀ it s1, R (.ok (.ret (.ref s1.heap.objs.size))) { s1 with heap := eoZ s1.heap it } → Q (.ref it) s1) → wpAny (model prog w) A.in1 (pyIter v) Q E s := fun q => h _ _ q
    wp_walk using q1
    refine wpAny_stack_any fun st => wpAny_pure ?_
    split
    · rename_i c _ _ _ _ _
      cases (c == Value.type "enumerate")
      · wp_walk using q1
        intro it s1 g
        obtain ⟨hp, gg, d, tk, os⟩ := s1
        wp_walk
        exact ⟨_, rfl, g⟩
      · wp_walk using q1
        intro it s1 g
        obtain ⟨hp, gg, d, tk, os⟩ := s1
        wp_walk
        exact ⟨_, rfl, g⟩
    · wp_walk using q1
      intro it s1 g
      obtain ⟨hp, gg, d, tk, os⟩ := s1
      wp_walk
      exact ⟨_, rfl, g⟩
theorem enum_q {prog : Program} {w : World} {A : Around} {E : Value → Shared → Prop} {s : Shared} {v : Value} {Q : Value → Shared → Prop}
    (h : IterTo prog w A.in1.in1 v s fun i1 s1 => ∀ h', IsEnum h' s1.heap.objs.size i1 0 .none → (∀ c o, s1.heap.get? c = some o → h'.get? c = some o) → Q (.ref s1.heap.objs.size) { s1 with heap := h' }) :
    wpAny (model prog w) A (call (.type "enumerate") [v]) Q E s := by
  refine callType_newIn F.called_enumerate (by decide) (F.typeCall_enumerate_1 _) (F.newCall_enumerate_1 _) (fun obj => F.args_object_init_2 obj _) F.entry_enumerate_new meets_enum_q ?_
  refine fun Q1 E1 k1 => h Q1 E1 fun i1 s1 h1 => k1 i1 s1 ?_
  have gZ : (eoZ s1.heap i1).get? s1.heap.objs.size = some { cls := .type "enumerate", data := .fields #[.none, .bool false, .ref i1, rawInt 0, .none, .none] } := Heap.get?_push_size _ rfl
  exact ⟨⟨_, gZ, rfl⟩, h1 _ gZ fun c o e => Heap.get?_push_of_some _ e⟩
/-- xs in a list, a tuple or an own instance's field -/
def SqO (K : Frag) (C : Addr) (fld : Str) (H : Hp) (a : Addr) (xs : List V) : Prop := SqA K H a xs ∨ ∃ dx fs t, H a = some (.ins C dx fs) ∧ fs.lookup fld = some (.ref t) ∧ SqT K H t xs
theorem Same.seqO {K : Frag} {C : Addr} {fld : Str} {H H' : Hp} {a : Addr} {xs : List V} (s : Same H H') (h : SqO K C fld H a xs) : SqO K C fld H' a xs := by
  rcases h with h | ⟨dx, fs, t, h1, h2, h3⟩
  · exact .inl (s.seqA h)
  · exact .inr ⟨dx, fs, t, s _ _ h1, h2, s.seqT h3⟩
def iEnumO (K : Frag) (C : Addr) (fld : Str) (ta : TA) : TI := fun σ H R => ta σ H fun vs H1 => ∃ a xs, vs = [.ref a] ∧ SqO K C fld H1 a xs ∧ ∀ (J : It) (G : Hp → Prop), (∀ H', Same H1 H' → G H') → Walk J xs.length G (YPair (fun i => some (.int (i : Nat))) (fun i => xs[i]?)) → R J H1
theorem pi_enumO {X : Cx} {e : Expr} {ta : TA} {p pos tpos : Pos} {elts : List Expr} {kk : Nat} {C f : Addr} {fld : Str} {k : Nat} (O : OwnIt X.K X.mg C f fld) (hr : Room (k + 2) X.A) (hg : Gl X "enumerate") (hm : X.mg "enumerate" = none) (ha : PA X [e] ta) (hs : starEach [e] X.env = [(false, eval e X.env)] := by rfl) :
    PI X (.Tuple elts kk tpos) (.Call (.Name "enumerate" p) [e] [] pos) (iEnumO X.K C fld ta) := by
  refine ⟨fun pins s σ H R I h => ?_⟩
  refine Call_ (ld_blt I hg hm boot_enumerate (PyProof.Rows.callWith_type1 (thn (ha.run pos pins s σ H _ I h) fun us s1 ⟨vs, H1, I1, r1, q1⟩ => ?_) hs rfl))
  obtain ⟨a, xs, ex, hO, q2⟩ := q1
  subst ex
  cases r1 with
  | cons r rr =>
    cases rr
    cases r
    have fresh2 : ∀ b, b ∈ [s1.heap.objs.size + 1, s1.heap.objs.size] → FpOk X pins H1 b := fun b hb => by
      have e' : b = s1.heap.objs.size + 1 ∨ b = s1.heap.objs.size := by simpa using hb
      have hle : s1.heap.objs.size ≤ b := by
        rcases e' with z | z
        · rw [z]; exact Nat.le_add_right _ _
        · rw [z]; exact Nat.le_refl _
      exact I1.fpOk hle (I1.hok.fresh hle)
    rcases hO with hA | ⟨dx, fs, t, hin, hl, hx⟩
    · rcases enumA_of hA q2 with ⟨hq, q⟩ | ⟨hq, q⟩
      · obtain ⟨its, rv, p', hz⟩ := I1.list hq
        refine call_enumerate_list p'.isList fun h' he hit hsz hk => wpAny_pyIter_enum he ?_
        have I2 : Inv X pins σ H1 { s1 with heap := h' } := I1.kept (t' := s1.toks) hk
        exact ⟨s1.heap.objs.size + 1, [s1.heap.objs.size + 1, s1.heap.objs.size], _, _, H1, rfl, I2, turn_enum a (s1.heap.objs.size + 1) s1.heap.objs.size, ⟨⟨.none, he⟩, hit, Nat.succ_ne_self _⟩, fresh2, q⟩
      · obtain ⟨its, rv, p', hz⟩ := I1.tuple hq
        refine EN.begins1 (begins_tuple a its.toArray) p' (fun h' he hit hsz hk => wpAny_pyIter_enum he ?_) (F.typeCall_enumerate_1 _) (F.newCall_enumerate_1 _) (fun obj => F.args_object_init_2 obj _)
        have I2 : Inv X pins σ H1 { s1 with heap := h' } := I1.kept (t' := s1.toks) hk
        exact ⟨s1.heap.objs.size + 1, [s1.heap.objs.size + 1, s1.heap.objs.size], _, _, H1, rfl, I2, turn_enumT 0 a (s1.heap.objs.size + 1) s1.heap.objs.size (Nat.succ_ne_self _), ⟨⟨.none, he⟩, ⟨_, hit, rfl, rfl⟩⟩, fresh2, q⟩
    · refine enum_q fun Q1 E1 k1 => own_iterA O hr.in1.in1 I1 hin hl hx fun h1 tk1 it1 hk1 hit1 ho1 => k1 it1 _ ?_
      dsimp only
      intro h' he hk
      refine wpAny_pyIter_enum he ?_
      have I2 : Inv X pins σ H1 { s1 with heap := h1, toks := tk1 } := I1.kept (t' := tk1) hk1
      have I3 : Inv X pins σ H1 { s1 with heap := h', toks := tk1 } := I2.kept (t' := tk1) hk
      have l1 : it1 < h1.objs.size := Heap.lt_size ho1
      have ne : h1.objs.size ≠ it1 := Nat.ne_of_gt l1
      refine ⟨h1.objs.size, [h1.objs.size, it1], _, _, H1, rfl, I3, turn_enumT 0 t h1.objs.size it1 ne, ⟨⟨.none, he⟩, ⟨_, hk _ _ ho1, rfl, rfl⟩⟩, fun b hb => ?_, q2 _ _ (fun _ s => s.seqT hx) ((walk_enumT (k := 0)).mono (fun _ h => h) fun i H x H' _ _ y => by
        obtain ⟨T', x', y', z⟩ := y
        exact ⟨T', x', y', by simpa using z⟩)⟩
      have e' : b = h1.objs.size ∨ b = it1 := by simpa using hb
      have hle : s1.heap.objs.size ≤ b := by
        rcases e' with z | z
        · rw [z]; exact Nat.le_of_lt (Nat.lt_of_le_of_lt hit1 l1)
        · rw [z]; exact hit1
      exact I1.fpOk hle (I1.hok.fresh hle)
end L2
namespace L2
open PySem PySem.Spec PyProof.Rows PySem.W
section
variable {X : Cx}
def rSumO (K : Frag) (C : Addr) (fld : Str) : List V → Hp → VK → Prop := fun vs H Q => ∃ (a : Addr) (ns : List Int), vs = [V.ref a] ∧ SqO K C fld H a (ns.map V.int) ∧ Q (.int ns.sum) H
theorem cr_sumO {C f : Addr} {fld : Str} {k : Nat} (O : OwnIt X.K X.mg C f fld) (hr : Room (k + 1) X.A) (hc : X.calm = true) : CallR X (.builtin "sum") (rSumO X.K C fld) := by
  intro pins s σ H xs us Q I r h
  obtain ⟨a, ns, rfl, hq, q⟩ := h
  rcases hq with hq | ⟨dx, fs, t, hin, hl, hx⟩
  · exact cr_sumA hc pins s σ H _ us Q I r ⟨a, ns, rfl, hq, q⟩
  cases r with
  | cons r rr =>
  cases rr
  cases r
  refine PySem.call_sum_walkAnyS (own_iterA O hr.in1 I hin hl hx fun h1 tk1 it hk1 hit1 ho1 => ?_)
  have I2 : Inv X pins σ H { s with heap := h1, toks := tk1 } := I.kept (t' := tk1) hk1
  obtain ⟨its, rv, hT, hz⟩ := I2.tuple hx
  have hi := intsAre_of rv
  obtain ⟨ys, hys⟩ := hi.allInts.items
  have hn : numsOf its.toArray.toList = ns := by rw [show its.toArray.toList = its from rfl, hi.numsOf]
  have hT' : h1.IsTuple t its.toArray := let ⟨o, h1, h2, h3⟩ := hT; ⟨o, h1, h2, h3⟩
  rw [hys] at hT' hn
  rw [nums_intItems] at hn
  have hne : t ≠ it := fun e => by
    obtain ⟨o, h1', h2', h3'⟩ := hT'
    rw [e, ho1] at h1'
    cases h1'
    exact absurd (show Value.type "tuple_iterator" = Value.type "tuple" from h2') (by decide)
  have hsz : (intItems ys).size = ys.size := by simp [intItems]
  have W := (Walks.tuple (prog := X.prog) (w := X.w) (A := X.A.in1) (I.ok.hd hc) it t hne (intItems ys)).toS
  rw [hsz] at W
  have lt : it < h1.objs.size := Heap.lt_size ho1
  refine ⟨it, _, _, _, _, _, _, numAt ys, rfl, W, ⟨⟨_, ho1, rfl, rfl⟩, hT'⟩, fun b hb => ?_, fun i v hP => intItems_at hP, fun s' t' hm => ?_⟩
  · rcases List.mem_cons.mp hb with rfl | hb
    · exact lt
    · obtain rfl := List.mem_singleton.mp hb
      obtain ⟨o, ho, _⟩ := hT'
      exact Heap.lt_size ho
  · obtain ⟨h', g', d', tk', os'⟩ := s'
    have e1 : g' = s.gens := hm.gens
    have e2 : d' = s.drawn := hm.drawn
    have e3 : os' = s.os := hm.os
    subst e1 e2 e3
    rw [preSum_eq, List.take_of_length_le (by simp), hn]
    refine ⟨.int ns.sum, H, I.kept (t' := tk') fun b o e => hm.heap b o (fun hb => ?_) (hk1 _ _ e), ⟨t', rfl⟩, q⟩
    obtain rfl := List.mem_singleton.mp hb
    exact absurd (Heap.lt_size e) (Nat.not_lt_of_le hit1)
/-! ## unions -/
theorem cr_or {n : Value} {r1 r2 r : List V → Hp → VK → Prop} (h1 : CallR X n r1) (h2 : CallR X n r2) (h : ∀ vs H Q, r vs H Q → r1 vs H Q ∨ r2 vs H Q) : CallR X n r := by
  intro pins s σ H xs us Q I rr q
  rcases h _ _ _ q with q | q
  · exact h1 pins s σ H xs us Q I rr q
  · exact h2 pins s σ H xs us Q I rr q
theorem pe_or2 {e : Expr} {t1 t2 t : TE} (h1 : PE X e t1) (h2 : PE X e t2) (h : ∀ σ H Q, t σ H Q → t1 σ H Q ∨ t2 σ H Q) : PE X e t := ⟨fun pins s σ H Q I q => by
  rcases h _ _ _ q with q | q
  · exact h1.run pins s σ H Q I q
  · exact h2.run pins s σ H Q I q⟩
end
end L2

/-! # greatest first, witnesses: plain mathematics -/
namespace WT
/-- two rows in the same order are one row -/
theorem uniq {α : Type} {r : α → α → Prop} (as : ∀ a b, r a b → r b a → a = b) : ∀ {l m : List α}, l.Perm m → l.Pairwise r → m.Pairwise r → l = m
  | [], m, h, _, _ => h.nil_eq
  | a :: l, [], h, _, _ => absurd h.symm.nil_eq (by simp)
  | a :: l, b :: m, h, h1, h2 => by
    have p1 := List.pairwise_cons.mp h1
    have p2 := List.pairwise_cons.mp h2
    have e : a = b := by
      have ha : a ∈ b :: m := h.mem_iff.mp (List.mem_cons_self ..)
      have hb : b ∈ a :: l := h.mem_iff.mpr (List.mem_cons_self ..)
      rcases List.mem_cons.mp ha with e | ha
      · exact e
      · rcases List.mem_cons.mp hb with e | hb
        · exact e.symm
        · exact as a b (p1.1 b hb) (p2.1 a ha)
    subst e
    rw [uniq as h.cons_inv p1.2 p2.2]
abbrev val (ns : List Int) (p : Nat) : Int := ns.getD p 0
/-- p stands before q -/
def bef (ns : List Int) (p q : Nat) : Prop := val ns q < val ns p ∨ (val ns p = val ns q ∧ p ≤ q)
theorem bef_as {ns : List Int} (p q : Nat) (h : bef ns p q) (k : bef ns q p) : p = q := by unfold bef at h k; omega
def ahead (ns : List Int) (os : List Nat) (i : Nat) : Nat := (os.filter fun o => decide (val ns o ≥ val ns i)).length
def ins (ns : List Int) (os : List Nat) (i : Nat) : List Nat := os.take (ahead ns os i) ++ [i] ++ os.drop (ahead ns os i)
def gf (ns : List Int) : Nat → List Nat
  | 0 => []
  | i + 1 => ins ns (gf ns i) i
theorem split {α : Type} {p : α → Bool} : ∀ {l : List α}, l.Pairwise (fun a b => p b = true → p a = true) → (∀ x ∈ l.take (l.filter p).length, p x = true) ∧ ∀ x ∈ l.drop (l.filter p).length, p x = false
  | [], _ => ⟨by simp, by simp⟩
  | a :: l, h => by
    have h' := List.pairwise_cons.mp h
    by_cases c : p a = true
    · rw [List.filter_cons_of_pos c]
      obtain ⟨h1, h2⟩ := split h'.2
      refine ⟨fun x hx => ?_, fun x hx => h2 x (by simpa using hx)⟩
      rcases List.mem_cons.mp (by simpa using hx) with rfl | hx
      · exact c
      · exact h1 x hx
    · have c' : ∀ b ∈ l, p b = false := fun b hb => by
        cases e : p b with
        | false => rfl
        | true => exact absurd (h'.1 b hb e) c
      have e : l.filter p = [] := List.filter_eq_nil_iff.mpr fun b hb => by rw [c' b hb]; simp
      rw [List.filter_cons_of_neg c, e]
      refine ⟨by simp, fun x hx => ?_⟩
      rcases List.mem_cons.mp (by simpa using hx) with rfl | hx
      · exact eq_false_of_ne_true c
      · exact c' x hx
theorem gf_perm (ns : List Int) : ∀ i, (gf ns i).Perm (List.range i)
  | 0 => by rw [gf, List.range_zero]
  | i + 1 => by
    rw [gf, ins, List.range_succ]
    have h := gf_perm ns i
    have : (List.take (ahead ns (gf ns i) i) (gf ns i) ++ [i] ++ List.drop (ahead ns (gf ns i) i) (gf ns i)).Perm (gf ns i ++ [i]) := by
      rw [List.append_assoc]
      conv => rhs; rw [← List.take_append_drop (ahead ns (gf ns i) i) (gf ns i)]
      rw [List.append_assoc]
      exact List.perm_append_comm.append_left _
    exact this.trans (h.append_right _)
theorem gf_len (ns : List Int) (i : Nat) : (gf ns i).length = i := by rw [(gf_perm ns i).length_eq, List.length_range]
theorem gf_lt {ns : List Int} {i p : Nat} (h : p ∈ gf ns i) : p < i := List.mem_range.mp ((gf_perm ns i).mem_iff.mp h)
theorem gf_sorted (ns : List Int) : ∀ i, (gf ns i).Pairwise (bef ns)
  | 0 => List.Pairwise.nil
  | i + 1 => by
    have h := gf_sorted ns i
    have hs := split (p := fun o => decide (val ns o ≥ val ns i)) (h.imp fun {a b} k e => by
      have e := of_decide_eq_true e
      unfold bef at k
      exact decide_eq_true (by omega))
    rw [gf, ins]
    have hd := h
    rw [← List.take_append_drop (ahead ns (gf ns i) i) (gf ns i), List.pairwise_append] at hd
    rw [List.append_assoc, List.pairwise_append]
    refine ⟨hd.1, List.pairwise_cons.mpr ⟨fun x hx => ?_, hd.2.1⟩, fun a ha b hb => ?_⟩
    · have := of_decide_eq_false (hs.2 x hx)
      exact .inl (by omega)
    · rcases List.mem_cons.mp hb with rfl | hb
      · have k := of_decide_eq_true (hs.1 a ha)
        have := gf_lt (List.mem_of_mem_take ha)
        unfold bef
        omega
      · exact hd.2.2 a ha b hb
theorem gf_uniq {ns : List Int} {n : Nat} {os : List Nat} (h1 : os.Perm (List.range n)) (h2 : os.Pairwise (bef ns)) : os = gf ns n := uniq bef_as (h1.trans (gf_perm ns n).symm) h2 (gf_sorted ns n)
theorem gf_nodup (ns : List Int) (n : Nat) : (gf ns n).Nodup := (gf_perm ns n).nodup_iff.mpr List.nodup_range
/-- the first s people, in ascending order -/
def pers (ns : List Int) (s : Nat) : List Nat := (List.range ns.length).filter fun p => decide (p ∈ (gf ns ns.length).take s)
theorem pers_perm (ns : List Int) (s : Nat) : (pers ns s).Perm ((gf ns ns.length).take s) := by
  refine (List.perm_ext_iff_of_nodup (List.Pairwise.filter _ List.nodup_range) ((gf_nodup ns ns.length).sublist (List.take_sublist ..))).mpr fun a => ?_
  rw [List.mem_filter, List.mem_range, decide_eq_true_iff]
  exact ⟨fun h => h.2, fun h => ⟨gf_lt (List.mem_of_mem_take h), h⟩⟩
theorem pers_sorted (ns : List Int) (s : Nat) : (pers ns s).Pairwise (· ≤ ·) := (List.Pairwise.imp (fun h => Nat.le_of_lt h) List.pairwise_lt_range).filter _
def toI (l : List Nat) : List Int := l.map fun p => ((p : Nat) : Int)
theorem sorted_pers {ns : List Int} {s : Nat} {l : List Int} (h : l.Perm (toI ((gf ns ns.length).take s))) (k : l.Pairwise (· ≤ ·)) : l = toI (pers ns s) := by
  refine uniq (r := (· ≤ ·)) (fun a b h1 h2 => by omega) (h.trans ((pers_perm ns s).symm.map _)) k ?_
  unfold toI
  rw [List.pairwise_map]
  exact (pers_sorted ns s).imp fun h => by omega
/-- the greatest s numbers together -/
def tog (ns : List Int) (s : Nat) : Int := (((gf ns ns.length).take s).map (val ns)).sum
theorem sum_snoc (l : List Int) (x : Int) : (l ++ [x]).sum = l.sum + x := by induction l with
  | nil => simp
  | cons a l ih => rw [List.cons_append, List.sum_cons, List.sum_cons, ih]; omega
theorem tog_succ {ns : List Int} {s p : Nat} (h : (gf ns ns.length)[s]? = some p) : tog ns (s + 1) = tog ns s + val ns p := by
  unfold tog
  rw [List.take_succ, h, List.map_append]
  exact sum_snoc _ _
def over (row ns : List Int) (s : Nat) : Bool := decide (tog ns s > (row.take s).sum)
inductive Wit where
  | none
  | sums
  | most (s : Nat)
  deriving DecidableEq
def witOf (row ns : List Int) : Wit := if ns.sum ≠ row.sum then .sums else match (List.range ns.length).find? fun j => over row ns (j + 1) with
  | some j => .most (j + 1)
  | none => .none
theorem wit_sum {row ns : List Int} (h : ns.sum ≠ row.sum) : witOf row ns = .sums := if_pos h
theorem find_first {p : Nat → Bool} {n j : Nat} (hj : j < n) (h : p j = true) (b : ∀ i, i < j → p i = false) : (List.range n).find? p = some j := by
  rw [List.find?_range_eq_some]
  exact ⟨h, List.mem_range.mpr hj, fun i hi => by rw [b i hi]; rfl⟩
theorem find_no {p : Nat → Bool} {n : Nat} (b : ∀ i, i < n → p i = false) : (List.range n).find? p = none := by
  rw [List.find?_range_eq_none]
  exact fun i hi => by rw [b i hi]; rfl
theorem wit_most {row ns : List Int} {j : Nat} (e : ns.sum = row.sum) (hj : j < ns.length) (h : over row ns (j + 1) = true) (b : ∀ i, i < j → over row ns (i + 1) = false) : witOf row ns = .most (j + 1) := by
  unfold witOf
  rw [if_neg (fun c => c e), find_first (p := fun j => over row ns (j + 1)) hj h b]
theorem wit_none {row ns : List Int} (e : ns.sum = row.sum) (b : ∀ i, i < ns.length → over row ns (i + 1) = false) : witOf row ns = .none := by
  unfold witOf
  rw [if_neg (fun c => c e), find_no (p := fun j => over row ns (j + 1)) b]
end WT

set_option maxRecDepth 100000
set_option maxHeartbeats 4000000
/-! # range(n) as a value; list(range(..)) -/
namespace L2
open PySem PySem.Spec PyProof.Rows
section
variable {X : Cx}
theorem cr_range1 : CallR X (.type "range") (fun vs H Q => ∃ j, vs = [V.int j] ∧ ∀ p, H p = none → Q (.ref p) (upd H p (.rng 0 j))) := by
  intro pins s σ H vs us Q I r h
  obtain ⟨j, rfl, q⟩ := h
  obtain ⟨u, rfl, rj⟩ := vals1 r
  obtain ⟨t, rfl⟩ := rj
  refine call_range_1 ⟨.ref s.heap.objs.size, upd H s.heap.objs.size (.rng 0 j), I.laid (t' := s.toks + 1 + 1) (fun b o e => Heap.get?_push_of_some _ e) (Nat.le_refl _) ?_, rfl, q _ (I.hok.fresh (Nat.le_refl _))⟩
  exact ⟨s.toks, t, s.toks + 1, Heap.get?_push_size _ rfl⟩
/-- the whole numbers from lo on, n of them -/
def runI (lo : Int) (n : Nat) : List V := (List.range n).map fun i => V.int (lo + (i : Nat))
theorem vals_run {lo : Int} : ∀ (n : Nat) (us : List Value), us.length = n → (∀ i v, us[i]? = some v → ∃ t, v = Value.int (lo + (i : Nat)) t) → Vals (runI lo n) us := by
  intro n
  induction n with
  | zero =>
    intro us l _
    cases us with
    | nil => exact .nil
    | cons _ _ => cases l
  | succ n ih =>
    intro us l h
    have hd : us = us.take n ++ [us[n]] := by
      conv => lhs; rw [← List.take_append_drop n us]
      congr 1
      rw [List.drop_eq_getElem_cons (by omega), List.drop_of_length_le (by omega)]
    have h1 := ih (us.take n) (by rw [List.length_take]; omega) fun i v e => by
      rw [List.getElem?_take] at e
      split at e
      · exact h i v e
      · cases e
    obtain ⟨t, ht⟩ := h n us[n] (List.getElem?_eq_getElem (by omega))
    rw [hd, ht]
    unfold runI
    rw [List.range_succ, List.map_append]
    exact h1.append (.cons ⟨t, rfl⟩ .nil)
/-- list(r), r a range by ones -/
theorem call_list_rng (hc : X.calm = true := by rfl) : CallR X (.type "list") (fun xs H Q => ∃ r lo hi, xs = [V.ref r] ∧ H r = some (.rng lo hi) ∧ (-(2 ^ 62) ≤ lo ∧ lo < 2 ^ 62 ∧ -(2 ^ 62) ≤ hi ∧ hi < 2 ^ 62 ∧ hi - lo ≤ 2 ^ 20) ∧ ∀ l, H l = none → Q (.ref l) (upd H l (.lst (runI lo (hi - lo).toNat)))) := by
  intro pins s σ H xs us Q I rr h
  obtain ⟨r, lo, hi, rfl, hr, ⟨b1, b2, b3, b4, b5⟩, q⟩ := h
  obtain ⟨u, rfl, ru⟩ := vals1 rr
  cases ru
  obtain ⟨t1, t2, t3, ho⟩ := I.hok r _ hr
  refine call_list_range (n := (hi - lo).toNat) (I.ok.hd hc) ho (small_one b1 b2 b3 b4) (by rw [rangeSize_one]; split <;> omega) (by omega) fun h' tk acc' c' hk hS hI => ?_
  refine ⟨.ref s.heap.objs.size, _, I.laid (t' := tk) hk (Nat.le_refl _) (show ObjOk X.prog X.w _ h' _ (.lst (runI lo (hi - lo).toNat)) from ⟨?_, acc'.toList, c', vals_run _ _ (by rw [Array.length_toList]; exact hI.1) fun i v e => ?_, ?_⟩), rfl, q _ (I.hok.fresh (Nat.le_refl _))⟩
  · unfold runI
    rw [List.length_map, List.length_range, sizeLine_eq]
    omega
  · rw [Array.getElem?_toList] at e
    obtain ⟨t, ht⟩ := hI.2 i v e
    exact ⟨t, by rw [ht, Int.mul_one]⟩
  · rw [Array.toArray_toList]
    exact hS
end
end L2

set_option maxRecDepth 100000
set_option maxHeartbeats 4000000
/-! # Plain lemmas: members of rows of numbers; lists of people -/
namespace L2
open PySem PySem.Spec PyProof.Rows
theorem inV_ints (x : Int) (xs : List Int) : inV (.int x) (xs.map V.int) = decide (x ∈ xs) := by
  unfold inV
  rw [List.any_map]
  induction xs with
  | nil => rfl
  | cons y ys ih =>
    rw [List.any_cons, ih]
    by_cases h : y = x
    · subst h; simp [eqV]
    · have h' : ¬ x = y := fun e => h e.symm
      simp [eqV, h, h']
theorem flat_ints (xs : List Int) : (xs.map V.int).all flatV = true := List.all_eq_true.mpr fun v hv => by obtain ⟨x, _, rfl⟩ := List.mem_map.mp hv; rfl
/-- what is wrong first with a list of people: (false, entry): no person; (true, entry): named twice -/
def badP (n : Int) : List Int → List Int → Option (Bool × Int)
  | _, [] => none
  | pre, p :: ps => if 0 ≤ p ∧ p < n then (if p ∈ pre then some (true, p) else badP n (pre ++ [p]) ps) else some (false, p)
theorem badP_step {n : Int} {ps : List Int} {i : Nat} {p : Int} (h : badP n (ps.take i) (ps.drop i) = badP n [] ps) (hp : ps[i]? = some p) :
    (¬ (0 ≤ p ∧ p < n) → badP n [] ps = some (false, p)) ∧ ((0 ≤ p ∧ p < n) → p ∈ ps.take i → badP n [] ps = some (true, p)) ∧ ((0 ≤ p ∧ p < n) → p ∉ ps.take i → badP n (ps.take (i + 1)) (ps.drop (i + 1)) = badP n [] ps) := by
  obtain ⟨hi, rfl⟩ := List.getElem?_eq_some_iff.mp hp
  rw [List.drop_eq_getElem_cons hi] at h
  refine ⟨fun c => ?_, fun c m => ?_, fun c m => ?_⟩
  · rw [← h, badP, if_neg c]
  · rw [← h, badP, if_pos c, if_pos m]
  · rw [← h, badP, if_pos c, if_neg m, List.take_succ, hp]
    rfl
theorem badP_end {n : Int} {ps : List Int} (h : badP n (ps.take ps.length) (ps.drop ps.length) = badP n [] ps) : badP n [] ps = none := by
  rw [← h, List.drop_length, badP]
theorem badP_none {n : Int} : ∀ {ps pre : List Int}, badP n pre ps = none ↔ (∀ p ∈ ps, 0 ≤ p ∧ p < n) ∧ ps.Nodup ∧ ∀ p ∈ ps, p ∉ pre
  | [], pre => by simp [badP]
  | p :: ps, pre => by
    rw [badP]
    split
    · rename_i c
      split
      · rename_i m
        simp [m]
      · rename_i m
        rw [badP_none (ps := ps)]
        constructor
        · rintro ⟨h1, h2, h3⟩
          refine ⟨fun x hx => ?_, List.nodup_cons.mpr ⟨fun z => ?_, h2⟩, fun x hx => ?_⟩
          · rcases List.mem_cons.mp hx with rfl | hx
            · exact c
            · exact h1 x hx
          · exact h3 p z (by simp)
          · rcases List.mem_cons.mp hx with rfl | hx
            · exact m
            · exact fun z => h3 x hx (by simp [z])
        · rintro ⟨h1, h2, h3⟩
          refine ⟨fun x hx => h1 x (by simp [hx]), (List.nodup_cons.mp h2).2, fun x hx z => ?_⟩
          rcases List.mem_append.mp z with z | z
          · exact h3 x (by simp [hx]) z
          · rw [List.mem_singleton.mp z] at hx
            exact (List.nodup_cons.mp h2).1 hx
    · rename_i c
      constructor
      · intro z; cases z
      · rintro ⟨h1, _, _⟩
        exact absurd (h1 p (by simp)) c
theorem badP_run (n : Nat) : badP (n : Nat) [] ((List.range n).map fun i => ((i : Nat) : Int)) = none := by
  rw [badP_none]
  refine ⟨fun p hp => ?_, ?_, fun p _ z => by cases z⟩
  · obtain ⟨i, hi, rfl⟩ := List.mem_map.mp hp
    have := List.mem_range.mp hi
    omega
  · unfold List.Nodup
    rw [List.pairwise_map]
    exact List.Pairwise.imp (fun h e => h (by omega)) (List.nodup_range : (List.range n).Nodup)
/-! ## slices -/
theorem cutTo (xs : List V) (j : Nat) : cutV xs none (some ((j : Nat) : Int)) = xs.take j := by
  unfold cutV
  rw [HT.sIx_none, HT.sIx_nat, List.drop_zero, Nat.sub_zero]
  rcases Nat.le_total j xs.length with h | h
  · rw [Nat.min_eq_left h]
  · rw [Nat.min_eq_right h, List.take_of_length_le h, List.take_of_length_le (Nat.le_refl _)]
theorem cutFrom (xs : List V) (j : Nat) : cutV xs (some ((j : Nat) : Int)) none = xs.drop j := by
  unfold cutV
  rw [HT.sIx_none, HT.sIx_nat]
  rcases Nat.le_total j xs.length with h | h
  · rw [Nat.min_eq_left h, List.take_of_length_le (by rw [List.length_drop]; exact Nat.le_refl _)]
  · rw [Nat.min_eq_right h, Nat.sub_self, List.take_zero, List.drop_of_length_le h]
theorem cutEnd (xs : List V) (j : Nat) : cutV xs (some ((j : Nat) : Int)) (some ((xs.length : Nat) : Int)) = xs.drop j := by
  unfold cutV
  rw [HT.sIx_nat, HT.sIx_nat, Nat.min_self]
  rcases Nat.le_total j xs.length with h | h
  · rw [Nat.min_eq_left h, List.take_of_length_le (by rw [List.length_drop]; exact Nat.le_refl _)]
  · rw [Nat.min_eq_right h, Nat.sub_self, List.take_zero, List.drop_of_length_le h]
/-- len(x) within a comprehension -/
def rLenQ (K : PySem.W.Frag) : List V → Hp → VK → Prop := fun xs H Q => ∃ p ys, xs = [V.ref p] ∧ (SqL K H p ys ∨ SqT K H p ys) ∧ Q (.int ((ys.length : Nat) : Int)) H
/-- a block of two: what the rest asks is shown once, for every memory that the first may leave -/
theorem seqP {t u : TS} {D : Ends} {σ : L2.St} {H : Hp} (P : Hp → Prop) (h2 : ∀ H', P H' → u D σ H') (h1 : (∀ H', P H' → u D σ H') → t { D with nx := u D } σ H) : tSeq t u D σ H := h1 h2
theorem seqQ {t u : TS} {D : Ends} {σ : L2.St} {H : Hp} (P : L2.St → Hp → Prop) (h2 : ∀ σ' H', P σ' H' → u D σ' H') (h1 : (∀ σ' H', P σ' H' → u D σ' H') → t { D with nx := u D } σ H) : tSeq t u D σ H := h1 h2
/-- a drawn place of a written row -/
theorem pick {ms : List Int} {v : Int} (h0 : 0 ≤ v) (h1 : v < ms.length) : ∃ m ∈ ms, atI (ms.map V.int) v = some (.int m) := by
  obtain ⟨j, rfl⟩ : ∃ j : Nat, v = (j : Nat) := ⟨v.toNat, by omega⟩
  have hj : j < ms.length := by omega
  exact ⟨ms[j], List.getElem_mem hj, atI_nat (by rw [List.getElem?_map, List.getElem?_eq_getElem hj]; rfl)⟩
theorem atI_neg1 {α : Type} {xs : List α} {v : α} (h : xs[xs.length - 1]? = some v) : atI xs (-1) = some v := by
  obtain ⟨hi, e⟩ := List.getElem?_eq_some_iff.mp h
  have ne : xs ≠ [] := fun z => by rw [z] at hi; cases hi
  have : xs = xs.dropLast ++ [v] := by
    rw [← e, ← List.getLast_eq_getElem ne]
    exact (List.dropLast_concat_getLast ne).symm
  rw [this]
  exact atI_last _ _
/-- a loop's body -/
def forBodyL : Stmt → List Stmt
  | .For _ _ b _ _ => b
  | _ => []
end L2

set_option maxRecDepth 100000
set_option maxHeartbeats 8000000
namespace K34
open PySem PySem.Spec PyProof.Rows L2 WT
section
variable {w : World} {K : PySem.W.Frag} {mg : Str → Option Value} {base : Heap}
/-- at a: a list of ns or a Telling of ns -/
def IsN (K : PySem.W.Frag) (H : Hp) (a : Addr) (ns : List Int) : Prop := SqL K H a (ns.map V.int) ∨ IsW K H a ns
theorem IsN.same {H H' : Hp} {a : Addr} {ns : List Int} (h : IsN K H a ns) (s : Same H H') : IsN K H' a ns := h.imp s.seq (fun z => z.same s)
theorem IsN.o {H : Hp} {a : Addr} {ns : List Int} (h : IsN K H a ns) : SqO K (c_Telling K) "entries" H a (ns.map V.int) := by
  rcases h with h | ⟨dx, t, h1, h2⟩
  · exact .inl (.inl h)
  · exact .inr ⟨dx, _, t, h1, rfl, h2⟩
def rLenN (K : PySem.W.Frag) : List V → Hp → VK → Prop := fun vs H Q => ∃ (a : Addr) (ns : List Int), vs = [.ref a] ∧ IsN K H a ns ∧ ns.length < 2 ^ 62 ∧ Q (.int (ns.length : Nat)) H
theorem lenN {vs : List V} {H : Hp} {Q : VK} (h : rLenN K vs H Q) : (∃ p ys, vs = [V.ref p] ∧ (SqL K H p ys ∨ SqT K H p ys) ∧ Q (.int ((ys.length : Nat) : Int)) H) ∨ rOwnLenW (c_Telling K) (spLen K) (fun _ _ _ => False) vs H Q := by
  obtain ⟨a, ns, rfl, h | h, l, q⟩ := h
  · exact .inl ⟨a, _, rfl, .inl h, by rw [List.length_map]; exact q⟩
  · obtain ⟨dx, t, h1, h2⟩ := id h
    exact .inr ⟨a, dx, _, rfl, h1, a, ns, rfl, h, ns.length, rfl, l, q⟩
/-- numbers[person]: the names in slots i, j -/
def tNumAt (K : PySem.W.Frag) (i j : Nat) : TE := fun σ H Q => ∃ (a : Addr) (k : Nat) (ns : List Int) (v : Int), σ[i]? = some (some (.ref a)) ∧ σ[j]? = some (some (.int (k : Nat))) ∧ IsN K H a ns ∧ ns[k]? = some v ∧ Q (.int v) H
theorem numAt' {i j : Nat} {σ : L2.St} {H : Hp} {Q : VK} (h : tNumAt K i j σ H Q) : tOp (rIxL K) (tVar i) (tVar j) σ H Q ∨ tOwnIx (c_Telling K) (spAt K) (fun _ _ _ _ => False) (tVar i) (tVar j) σ H Q := by
  obtain ⟨a, k, ns, v, hi, hj, h | h, hv, q⟩ := h
  · exact .inl ⟨_, hi, _, hj, a, _, _, _, rfl, rfl, h, atI_nat (by rw [List.getElem?_map, hv]; rfl), q⟩
  · obtain ⟨dx, t, h1, h2⟩ := id h
    have kl : k < ns.length := (List.getElem?_eq_some_iff.mp hv).1
    refine .inr ⟨_, hi, _, hj, a, dx, _, _, rfl, rfl, h1, a, ns, _, rfl, h, fun c => absurd ⟨by omega, by omega⟩ c, fun j n e hn => ?_⟩
    · obtain rfl : k = j := by omega
      rw [hv] at hn
      cases hn
      exact q
def spNumsO (K : PySem.W.Frag) : Sp := fun vs H Q E => ∃ (a : Addr) (ns : List Int) (g : Int), vs = [.ref a, .int g] ∧ IsN K H a ns ∧
  (∀ i n, bad g 0 ns = some (i, n) → Rs (c_BadNumber K) (xB (i : Nat) n) H E) ∧ (bad g 0 ns = none → ∀ H', Same H H' → Q .non H')
theorem ok_check_numbersO (T : Tx K mg) : Ok PG w K mg base (L2.CX PG w) 6 (a_check_numbers K) p_check_numbers (spNumsO K) := by
  refine Ok.of 5 T.f_check_numbers sc_check_numbers bi_check_numbers (by decide) (fun vs H Q E h => ?_) (fun cdv A outer s H vs Q E hr h => ?_)
  · obtain ⟨n, m, _, rfl, _⟩ := h
    rfl
  · obtain ⟨a, ns, g, rfl, hs, h1, h2⟩ := h
    have nd := sc_check_numbers.nd
    refine ⟨_, pss_one (ps_for (passX rfl) rfl (pi_enumO (it_Telling T) hr (by rfl) T.m_enumerate (pa_cons (pv 0) pa_nil)) (pg_tup rfl (pgs_cons (pg_name (i := 2) nd rfl (.inl rfl)) (pgs_cons (pg_name (i := 3) nd rfl (.inl rfl)) pgs_nil)))
      (pss_one (ps_expr (pc (ok_check_number T) (hr.mono (by decide)) T.g_check_number px (pa_cons (pv 2) (pa_cons (pv 3) (pa_cons (pv 1) pa_nil))))))), ?_⟩
    refine ⟨_, rfl, a, ns.map V.int, rfl, hs.o, fun J G hG wk => ?_⟩
    refine for_it wk (fun i σ H' => ∃ x2 x3, σ = [some (.ref a), some (.int g), x2, x3] ∧ Same H H' ∧ bad g (0 + i) (ns.drop i) = bad g 0 ns) ⟨none, none, rfl, .refl _, rfl⟩ (fun i σ H' _ p => hG H' (let ⟨_, _, _, s, _⟩ := p; s)) (fun i x σ H0 H1 hi p y => ?_) (fun σ H' p => ?_)
    · obtain ⟨x2, x3, rfl, sm, hb⟩ := p
      obtain ⟨T', x', y', rfl, hT, rfl, e1, e2⟩ := y
      obtain ⟨n, hn, rfl⟩ := map_get e2
      cases e1
      have sm' : Same H (upd H0 T' (.tup [.int (i : Nat), .int n])) := sm.new' hT
      obtain ⟨b1, b2⟩ := bad_step hb hn
      refine ⟨T', _, rfl, SqT.of upd_same, rfl, _, _, rfl, _, _, rfl, rfl, ?_⟩
      exact ⟨_, rfl, _, rfl, _, rfl, (i : Nat), n, g, rfl, fun c d H2 s2 hd => h1 i n (by have := b2 c; rwa [Nat.zero_add] at this) _ _ (sm'.trans s2) hd, fun c => ⟨_, _, rfl, sm', b1 c⟩⟩
    · obtain ⟨x2, x3, rfl, sm, hb⟩ := p
      rw [List.length_map] at hb
      exact h2 (bad_end (k := 0) hb) H' sm
/-- pairs of what sorts them -/
def Prs (H : Hp) (ns : List Int) (xs : List V) (i : Nat) : Prop := xs.length = i ∧ ∀ j, j < i → ∃ t, xs[j]? = some (.ref t) ∧ H t = some (.tup [.int (-(val ns j)), .int ((j : Nat) : Int)])
/-- the pair at x -/
def keyOf (H : Hp) : V → Int × Int
  | .ref t => match H t with
    | some (.tup [.int a, .int b]) => (a, b)
    | _ => (0, 0)
  | _ => (0, 0)
theorem keyOf_ref {H : Hp} {t : Addr} {a b : Int} (h : H t = some (.tup [.int a, .int b])) : keyOf H (.ref t) = (a, b) := by
  unfold keyOf
  simp only [h]
theorem Prs.key {H : Hp} {ns : List Int} {xs : List V} {i : Nat} (h : Prs H ns xs i) {x : V} (hx : x ∈ xs) : ∃ t, x = .ref t ∧ ∃ j, j < i ∧ H t = some (.tup [.int (-(val ns j)), .int ((j : Nat) : Int)]) ∧ keyOf H x = (-(val ns j), ((j : Nat) : Int)) := by
  obtain ⟨j, hj, e⟩ := List.getElem_of_mem hx
  obtain ⟨t, e1, e2⟩ := h.2 j (by rw [← h.1]; exact hj)
  rw [List.getElem?_eq_getElem hj, e] at e1
  cases e1
  exact ⟨t, rfl, j, by rw [← h.1]; exact hj, e2, keyOf_ref e2⟩
theorem Prs.map {H : Hp} {ns : List Int} {xs : List V} {i : Nat} (h : Prs H ns xs i) : xs.map (fun x => (keyOf H x).2.toNat) = List.range i := by
  refine List.ext_getElem (by rw [List.length_map, h.1, List.length_range]) fun j h1 h2 => ?_
  rw [List.length_range] at h2
  obtain ⟨t, e1, e2⟩ := h.2 j h2
  rw [List.length_map] at h1
  rw [List.getElem?_eq_getElem h1] at e1
  have e1 := Option.some.inj e1
  rw [List.getElem_map, e1, keyOf_ref e2, List.getElem_range]
  rfl
theorem order_of {H : Hp} {ns : List Int} {xs ys : List V} {i : Nat} (h : Prs H ns xs i) (s : SrtO.Srtd (ltP (keyOf H)) ys) (p : ys.Perm xs) : ys.map (fun x => (keyOf H x).2.toNat) = gf ns i := by
  refine gf_uniq (by rw [← h.map]; exact p.map _) ?_
  rw [List.pairwise_map]
  refine List.Pairwise.imp_of_mem (fun {a b} ha hb k => ?_) s
  obtain ⟨t, rfl, j, _, _, e⟩ := h.key (p.mem_iff.mp ha)
  obtain ⟨u, rfl, m, _, _, e'⟩ := h.key (p.mem_iff.mp hb)
  have k := SrtO.lexB_no.mp k
  rw [e, e'] at k
  rw [e, e']
  show bef ns ((j : Nat) : Int).toNat ((m : Nat) : Int).toNat
  rw [Int.toNat_natCast, Int.toNat_natCast]
  unfold bef
  have k : ¬ (-(val ns m) < -(val ns j) ∨ -(val ns m) = -(val ns j) ∧ ((m : Nat) : Int) < (j : Nat)) := k
  omega
def spGF (K : PySem.W.Frag) : Sp := fun vs H Q _ => ∃ (a : Addr) (ns : List Int), vs = [.ref a] ∧ IsN K H a ns ∧ ns.length ≤ 1000 ∧ ∀ H' l, Same H H' → H' l = some (.lst ((toI (gf ns ns.length)).map V.int)) → Q (.ref l) H'
theorem ok_greatest_first (T : Tx K mg) : Ok PG w K mg base CX0 6 (a_greatest_first K) p_greatest_first (spGF K) := by
  refine Ok.of 5 T.f_greatest_first sc_greatest_first bi_greatest_first (by decide) (fun vs H Q E h => ?_) (fun cdv A outer s H vs Q E hr h => ?_)
  · obtain ⟨_, _, rfl, _⟩ := h
    rfl
  · obtain ⟨a, ns, rfl, hs, ln, q⟩ := h
    have nd := sc_greatest_first.nd
    refine ⟨_, pss_one (ps_ret (pe_lc (own := [("_", 3), ("person", 1)]) (g := gTup K 2 (gCons (gName 3) (gCons (gName 1) gNil))) (tt := tYes) rfl nd (pi_list (pe_callB cr_sortedPO (by rfl) T.m_sorted (by decide +kernel) (pa_cons (pe_lc (own := [("person", 1), ("number", 2)]) (g := gTup K 2 (gCons (gName 1) (gCons (gName 2) gNil))) (tt := tYes) rfl nd (pi_enumO (it_Telling T) hr (by rfl) T.m_enumerate (pa_cons (pv 0) pa_nil)) (blkOk_by (N := n_greatest_first) (sc := defScope s_greatest_first) (by decide +kernel)) (fun _ _ _ _ _ => pg_tup rfl (pgs_cons (pg_name (i := 1) nd rfl (Or.inl rfl)) (pgs_cons (pg_name (i := 2) nd rfl (Or.inl rfl)) pgs_nil))) (fun _ _ _ _ _ => pts_nil) (fun _ _ _ _ _ => pe_tup (pa_cons (pe_un un_neg (pv 2)) (pa_cons (pv 1) pa_nil)))) pa_nil))) (blkOk_by (N := n_greatest_first) (sc := defScope s_greatest_first) (by decide +kernel)) (fun _ _ _ _ _ => pg_tup rfl (pgs_cons (pg_name (i := 3) nd rfl (Or.inl rfl)) (pgs_cons (pg_name (i := 1) nd rfl (Or.inl rfl)) pgs_nil))) (fun _ _ _ _ _ => pts_nil) (fun _ _ _ _ _ => pv 1))), ?_⟩
    refine ⟨_, rfl, a, ns.map V.int, rfl, hs.o, fun J G hG wk D hD => ?_⟩
    refine lc_it wk (fun i H' => ∃ xs, Same H H' ∧ H' D = some (.lst xs) ∧ Prs H' ns xs i) ⟨[], .new hD, upd_same, rfl, fun j hj => by omega⟩ (fun i H' _ z => hG _ (let ⟨_, s, _⟩ := z; s)) (fun i x H0 H1 hi z y => ?_) (fun H' z => ?_)
    · obtain ⟨xs, sm, hd, lx, hp⟩ := z
      obtain ⟨T', x', y', rfl, hT, rfl, e1, e2⟩ := y
      obtain ⟨n, hn, rfl⟩ := map_get e2
      cases e1
      have hi : i < ns.length := (List.getElem?_eq_some_iff.mp hn).1
      have s1 : Same H0 (upd H0 T' (.tup [.int (i : Nat), .int n])) := .new hT
      refine ⟨T', _, rfl, SqT.of upd_same, rfl, _, _, rfl, _, _, rfl, rfl, rfl, yesT ?_⟩
      refine ⟨_, rfl, _, rfl, _, rfl, by show 2 ≤ sizeLine; decide, fun t ht => ?_⟩
      have s2 := s1.new' (o := .tup [.int (-n), .int ((i : Nat) : Int)]) ht
      have hd2 := s2 _ _ hd
      have vn : val ns i = n := by rw [val, List.getD_eq_getElem?_getD, hn]; rfl
      refine ⟨xs, hd2, by rw [lx, sizeLine_eq]; omega, xs ++ [.ref t], fun b o eb => ?_, upd_same, by rw [List.length_append, lx]; rfl, fun j hj => ?_⟩
      · rw [upd_ne (fun z => by rw [z, hD] at eb; cases eb)]
        exact s2 _ _ (sm _ _ eb)
      · have nD : ∀ {b : Addr} {zs : List V}, upd (upd H0 T' (.tup [.int (i : Nat), .int n])) t (.tup [.int (-n), .int ((i : Nat) : Int)]) b = some (.tup zs) → b ≠ D := fun {b zs} e z => by rw [z, hd2] at e; cases e
        by_cases c : j < i
        · obtain ⟨u, u1, u2⟩ := hp j c
          exact ⟨u, by rw [List.getElem?_append_left (by omega)]; exact u1, by rw [upd_ne (nD (s2 _ _ u2))]; exact s2 _ _ u2⟩
        · obtain rfl : j = i := by omega
          exact ⟨t, by rw [← lx, List.getElem?_concat_length], by rw [upd_ne (nD upd_same), upd_same, vn]⟩
    · obtain ⟨xs, sm, hd, pr⟩ := z
      rw [List.length_map] at pr
      refine ⟨D, xs, keyOf H', rfl, SqL.of hd, fun x hx => ?_, fun ys p srt stb hp => ?_⟩
      · obtain ⟨t, rfl, j, _, e1, e2⟩ := pr.key hx
        exact ⟨t, rfl, by rw [e2]; exact e1⟩
      · have s2 := Same.new (o := .lst ys) hp
        have ord := order_of pr srt stb.perm
        refine ⟨p, rfl, ⟨_, SqL.of upd_same⟩, fun F hF => ?_⟩
        have ly : ys.length = ns.length := by rw [stb.perm.length_eq, pr.1]
        refine lc_list (xs := ys) (fun i H2 => Same (upd H' p (.lst ys)) H2 ∧ H2 F = some (.lst ((toI ((gf ns ns.length).take i)).map V.int))) ⟨.new hF, upd_same⟩ (fun i H2 _ z => z.1.seq (SqL.of upd_same)) (fun i x H2 hx z => ?_) (fun H2 z => ?_)
        · obtain ⟨s3, hf⟩ := z
          obtain ⟨t, rfl, j, hj, e1, e2⟩ := pr.key (stb.perm.mem_iff.mp (List.mem_of_getElem? hx))
          have hi : i < ys.length := (List.getElem?_eq_some_iff.mp hx).1
          have gi : (gf ns ns.length)[i]? = some j := by
            rw [← ord, List.getElem?_map, hx]
            show some ((keyOf H' (.ref t)).2.toNat) = _
            rw [e2]; rfl
          have e3 := s3 _ _ (s2 _ _ e1)
          refine ⟨t, _, rfl, SqT.of e3, rfl, _, _, rfl, _, _, rfl, rfl, rfl, yesT ⟨_, rfl, _, hf, by rw [List.length_map, toI, List.length_map, List.length_take, sizeLine_eq]; omega, fun b o eb => ?_, ?_⟩⟩
          · rw [upd_ne (fun z => by rw [z, hF] at eb; cases eb)]
            exact s3 _ _ eb
          · rw [upd_same, List.take_succ, gi, toI, toI, List.map_append, List.map_append]; rfl
        · obtain ⟨s3, hf⟩ := z
          rw [ly, List.take_of_length_le (by rw [gf_len]; exact Nat.le_refl _)] at hf
          exact q H2 F (sm.trans (s2.trans s3)) hf
end
end K34

set_option maxRecDepth 100000
set_option maxHeartbeats 8000000
namespace K34
open PySem PySem.Spec PyProof.Rows L2 WT
/-- what tells the witness; N: what is said of the list's place -/
def IsWit (K : PySem.W.Frag) (N : Addr → Prop) (H : Hp) (v : V) (row ns : List Int) : Wit → Prop
  | .none => v = .non
  | .sums => ∃ t, v = .ref t ∧ SqT K H t [.str "sum", .int ns.sum, .int row.sum]
  | .most s => ∃ t l, v = .ref t ∧ SqT K H t [.str "most", .int ((s : Nat) : Int), .ref l] ∧ H l = some (.lst ((toI (pers ns s)).map V.int)) ∧ N l
theorem IsWit.same {K : PySem.W.Frag} {N : Addr → Prop} {H H' : Hp} {v : V} {row ns : List Int} {W : Wit} (h : IsWit K N H v row ns W) (s : Same H H') : IsWit K N H' v row ns W := by
  cases W with
  | none => exact h
  | sums => exact h.elim fun t z => ⟨t, z.1, s.seqT z.2⟩
  | most k =>
    obtain ⟨t, l, h1, h2, h3, h4⟩ := h
    exact ⟨t, l, h1, s.seqT h2, s _ _ h3, h4⟩
theorem IsWit.non_iff {K : PySem.W.Frag} {N : Addr → Prop} {H : Hp} {v : V} {row ns : List Int} {W : Wit} (h : IsWit K N H v row ns W) : decide (v = .non) = decide (W = .none) := by
  cases W with
  | none => rw [show v = .non from h]; simp
  | sums => obtain ⟨t, rfl, _⟩ := h; simp
  | most k => obtain ⟨t, l, rfl, _⟩ := h; simp
theorem IsWit.mono {K : PySem.W.Frag} {N M : Addr → Prop} {H : Hp} {v : V} {row ns : List Int} {W : Wit} (h : IsWit K N H v row ns W) (m : ∀ l, N l → M l) : IsWit K M H v row ns W := by
  cases W with
  | none => exact h
  | sums => exact h
  | most k =>
    obtain ⟨t, l, h1, h2, h3, h4⟩ := h
    exact ⟨t, l, h1, h2, h3, m _ h4⟩
section
variable {w : World} {K : PySem.W.Frag} {mg : Str → Option Value} {base : Heap}
/-- what comes of wrong rows and numbers -/
structure Errs (K : PySem.W.Frag) (row ns : List Int) (H : Hp) (E : XK) : Prop where
  fall : ∀ i, Wrong row i → Rs (c_NotFalling K) (xN (i : Nat)) H E
  long : Fall row → 30 < ns.length → Rs (c_TooLong K) (xT ns.length) H E
  bad_ : Fall row → ns.length ≤ 30 → ∀ i n, bad top 0 ns = some (i, n) → Rs (c_BadNumber K) (xB (i : Nat) n) H E
def spWit (K : PySem.W.Frag) : Sp := fun vs H Q E => ∃ (r a : Addr) (row ns : List Int), vs = [.ref r, .ref a] ∧ SqL K H r (row.map V.int) ∧ IsN K H a ns ∧ Errs K row ns H E ∧
  (ns.length ≤ 2 ^ 20) ∧ (Fall row → ns.length ≤ 30 → bad top 0 ns = none → ∀ H' v, Same H H' → IsWit K (fun l => H l = none) H' v row ns (witOf row ns) → Q v H')
theorem ok_row_witness (T : Tx K mg) : Ok PG w K mg base (L2.CX PG w) 9 (a_row_witness K) p_row_witness (spWit K) := by
  refine Ok.of 8 T.f_row_witness sc_row_witness bi_row_witness (by decide) (fun vs H Q E h => ?_) (fun cdv A outer s H vs Q E hr h => ?_)
  · obtain ⟨_, _, _, _, rfl, _⟩ := h
    rfl
  · obtain ⟨r, a, row, ns, rfl, hrw, hN, er, lq, q⟩ := h
    have nd := sc_row_witness.nd
    obtain ⟨_, cv_MOST_PEOPLE⟩ := T.v_MOST_PEOPLE
    obtain ⟨_, cv_LIMIT⟩ := T.v_LIMIT
    refine ⟨_, pss_cons (ps_expr (pc (ok_check_row T) (hr.mono (by decide)) T.g_check_row px (pa_cons (pv 0) pa_nil)))
      (pss_cons (ps_expr (pc (ok_check_count T) (hr.mono (by decide)) T.g_check_count px (pa_cons (pe_callB (r := rLenN K) (cr_or call_len_seq (cLen (ok_Telling_len T) T.wTelling_len (hr.mono (by decide)) (E := fun _ _ _ => False) pass0) (fun _ _ _ => lenN)) (by rfl) T.m_len PySem.boot_len (pa_cons (pv 1) pa_nil)) (pa_cons (pe_glob (v := .int 30) rfl cv_MOST_PEOPLE ⟨_, rfl⟩) pa_nil))))
      (pss_cons (ps_expr (pc (ok_check_numbersO T) (hr.mono (by decide)) T.g_check_numbers px (pa_cons (pv 1) (pa_cons (pe_glob (v := .int 1000000000000000000000000000000) rfl cv_LIMIT ⟨_, rfl⟩) pa_nil))))
      (pss_cons (ps_if (pt_cmpR op_ne (pe_callB (cr_sumO (it_Telling T) hr rfl) (by rfl) T.m_sum (by decide +kernel) (pa_cons (pv 1) pa_nil)) (pe_callB (cr_sum rfl) (by rfl) T.m_sum (by decide +kernel) (pa_cons (pv 0) pa_nil)) (nomark _)) (pss_one (ps_ret (pe_tup (pa_cons pe_str (pa_cons (pe_callB (cr_sumO (it_Telling T) hr rfl) (by rfl) T.m_sum (by decide +kernel) (pa_cons (pv 1) pa_nil)) (pa_cons (pe_callB (cr_sum rfl) (by rfl) T.m_sum (by decide +kernel) (pa_cons (pv 0) pa_nil)) pa_nil)))))) pss_nil)
      (pss_cons (ps_set (i := 2) nd rfl (.inl rfl) (pc (ok_greatest_first T) (hr.mono (by decide)) T.g_greatest_first pass0 (pa_cons (pv 1) pa_nil)))
      (pss_cons (ps_for (passX rfl) rfl (pi_range2 rfl T.m_range (pa_cons pe_int (pa_cons (pe_op op_add (pe_callB call_len_seq (by rfl) T.m_len PySem.boot_len (pa_cons (pv 2) pa_nil)) pe_int) pa_nil))) (pg_name (i := 3) nd rfl (.inl rfl))
        (pss_cons (ps_set (i := 4) nd rfl (.inl rfl) (pe_slice sl_list (pv 2) po_none (po_some (pv 3))))
          (pss_one (ps_if (pt_cmpR op_gt (pe_callB (cr_sum rfl) (by rfl) T.m_sum (by decide +kernel) (pa_cons (pe_lc (own := [("person", 5)]) (g := gName 5) (tt := tYes) rfl nd (pi_list (pv 4)) (blkOk_by (N := n_row_witness) (sc := defScope s_row_witness) (by decide +kernel)) (fun _ _ _ _ _ => pg_name (i := 5) nd rfl (Or.inl rfl)) (fun _ _ _ _ _ => pts_nil) (fun _ _ _ _ _ => pe_or2 (t := tNumAt K 1 5) (pe_ix (r := rIxL K) (ta := tVar 1) (tb := tVar 5) ix_list (pv 1) (pv 5) (fun _ _ => rfl)) (peOwnIx (ta := tVar 1) (tb := tVar 5) (E := fun _ _ _ _ => False) (ok_Telling_getitem T) T.iTelling_getitem (hr.mono (by decide)) (atP passF) (pv 1) (pv 5)) (fun _ _ _ => numAt'))) pa_nil)) (pe_callB (cr_sum rfl) (by rfl) T.m_sum (by decide +kernel) (pa_cons (pe_slice sl_list (pv 0) po_none (po_some (pv 3))) pa_nil)) (nomark _)) (pss_one (ps_ret (pe_tup (pa_cons pe_str (pa_cons (pv 3) (pa_cons (pe_callB cr_sorted (by rfl) T.m_sorted (by decide +kernel) (pa_cons (pv 4) pa_nil)) pa_nil)))))) pss_nil))))
      (pss_one (ps_ret pe_non))))))), ?_⟩
    refine ⟨_, rfl, r, row, rfl, hrw, er.fall, fun fl H1 s1 => ?_⟩
    refine ⟨_, rfl, a, ns, rfl, hN.same s1, by omega, _, _, rfl, fun c => (er.long fl (by omega)).same s1, fun c => ?_⟩
    have l30 : ns.length ≤ 30 := by omega
    refine ⟨_, rfl, a, ns, _, rfl, hN.same s1, fun i n e => (er.bad_ fl l30 i n e).same s1, fun eb H2 s2 => ?_⟩
    have s12 := s1.trans s2
    have q := q fl l30 eb
    refine ⟨_, rfl, a, ns, rfl, (hN.same s12).o, _, rfl, r, row, rfl, s12.seq hrw, rfl, _, rfl, ite2 (fun c => ?_) (fun c => ?_)⟩
    · have c : ns.sum ≠ row.sum := by simpa using c
      refine ⟨_, rfl, a, ns, rfl, (hN.same s12).o, _, rfl, r, row, rfl, s12.seq hrw, by show 3 ≤ sizeLine; decide, fun x hx => ?_⟩
      refine q _ (.ref x) (s12.new' hx) ?_
      rw [wit_sum c]
      exact ⟨x, rfl, SqT.of upd_same⟩
    · have c : ns.sum = row.sum := by simpa using c
      refine ⟨_, rfl, a, ns, rfl, hN.same s12, by omega, fun H3 o s3 ho => ?_⟩
      have s13 := s12.trans s3
      have lo : ((toI (gf ns ns.length)).map V.int).length = ns.length := by rw [List.length_map, toI, List.length_map, gf_len]
      refine ⟨_, rfl, o, _, rfl, .inl (SqL.of ho), ?_⟩
      rw [lo]
      refine ⟨_, _, rfl, rfl, _, _, rfl, ⟨by omega, by omega, by omega, by omega⟩, ?_⟩
      have hNN : ((ns.length : Int) + 1 - 1).toNat = ns.length := by omega
      refine for_range (lo := 1) (n := ((ns.length : Int) + 1 - 1).toNat) (fun i σ H' => ∃ x3 x4, σ = [some (.ref r), some (.ref a), some (.ref o), x3, x4, none] ∧ Same H3 H' ∧ ∀ j, j < i → over row ns (j + 1) = false) ⟨_, _, rfl, .refl _, fun j hj => by omega⟩ ?_ ?_
      · rintro i σ H4 hi ⟨x3, x4, rfl, s4, hb⟩
        rw [hNN] at hi
        rw [show (1 : Int) + ((i : Nat) : Int) = ((i + 1 : Nat) : Int) by omega]
        have s14 := s13.trans s4
        refine ⟨_, rfl, _, rfl, _, rfl, o, _, rfl, SqL.of (s4 _ _ ho), fun D hD => ?_⟩
        rw [cutTo, ← List.map_take, toI, ← List.map_take]
        show ∃ _, _
        have hlen : ((gf ns ns.length).take (i + 1)).length = i + 1 := by rw [List.length_take, gf_len]; omega
        have s5 := s14.new' (o := .lst ((toI ((gf ns ns.length).take (i + 1))).map V.int)) hD
        have hD5 : upd H4 D (.lst ((toI ((gf ns ns.length).take (i + 1))).map V.int)) D = some (.lst ((toI ((gf ns ns.length).take (i + 1))).map V.int)) := upd_same
        have s45 : Same H4 (upd H4 D (.lst ((toI ((gf ns ns.length).take (i + 1))).map V.int))) := .new hD
        refine ⟨_, rfl, D, rfl, ⟨_, SqL.of hD5⟩, fun F hF => ?_⟩
        refine lc_list (xs := (toI ((gf ns ns.length).take (i + 1))).map V.int) (fun j H' => Same (upd H4 D (.lst ((toI ((gf ns ns.length).take (i + 1))).map V.int))) H' ∧ H' F = some (.lst (((((gf ns ns.length).take (i + 1)).take j).map (val ns)).map V.int))) ⟨.new hF, upd_same⟩ (fun j H' _ z => z.1.seq (SqL.of hD5)) (fun j x H' hx z => ?_) (fun H' z => ?_)
        · obtain ⟨s6, hf⟩ := z
          obtain ⟨n, hn, rfl⟩ := map_get hx
          unfold toI at hn
          rw [List.getElem?_map] at hn
          obtain ⟨k, hk, rfl⟩ := Option.map_eq_some_iff.mp hn
          have hj : j < i + 1 := by rw [← hlen]; exact (List.getElem?_eq_some_iff.mp hk).1
          have kn : k < ns.length := gf_lt (List.mem_of_mem_take (List.mem_of_getElem? hk))
          refine ⟨rfl, yesT ⟨a, k, ns, val ns k, rfl, rfl, (hN.same (s5.trans s6)), by rw [val, List.getD_eq_getElem?_getD, List.getElem?_eq_getElem kn]; rfl, _, hf, by rw [List.length_map, List.length_map, List.length_take, hlen, sizeLine_eq]; omega, fun b o' eb => ?_, ?_⟩⟩
          · rw [upd_ne (fun z => by rw [z] at eb; cases (hF.symm.trans eb))]
            exact s6 _ _ eb
          · rw [upd_same, List.take_succ (l := (gf ns ns.length).take (i + 1)), hk, List.map_append, List.map_append]; rfl
        · obtain ⟨s6, hf⟩ := z
          rw [List.length_map, toI, List.length_map, List.take_length] at hf
          have s56 := s5.trans s6
          refine ⟨F, _, rfl, SqL.of hf, ?_⟩
          refine ⟨_, rfl, _, rfl, _, rfl, r, _, rfl, s56.seq hrw, fun G hG => ?_⟩
          rw [cutTo, ← List.map_take]
          have s7 := s56.new' (o := .lst ((row.take (i + 1)).map V.int)) hG
          have hD7 := (s6.trans (Same.new (o := .lst ((row.take (i + 1)).map V.int)) hG)) _ _ hD5
          refine ⟨G, _, rfl, SqL.of upd_same, _, _, rfl, rfl, _, rfl, ?_⟩
          have ov : decide ((row.take (i + 1)).sum < (((gf ns ns.length).take (i + 1)).map (val ns)).sum) = over row ns (i + 1) := rfl
          refine ite2 (fun d => ?_) (fun d => ?_)
          · refine ⟨_, rfl, _, rfl, D, _, rfl, SqL.of hD7, by rw [toI, List.length_map, hlen]; omega, fun zs p pm ps hp => ⟨by show 3 ≤ sizeLine; decide, fun x hx => ?_⟩⟩
            refine q _ (.ref x) ((s7.new' hp).new' hx) ?_
            rw [wit_most c hi (by rw [← ov]; exact d) hb]
            refine ⟨x, p, rfl, SqT.of upd_same, ?_, ?_⟩
            · rw [← sorted_pers pm ps]
              exact Same.new hx _ _ upd_same
            · exact s7.free hp
          · refine ⟨_, _, rfl, ?_, fun j hj => ?_⟩
            · exact s4.trans ((s45.trans s6).new' hG)
            · by_cases e : j < i
              · exact hb j e
              · obtain rfl : j = i := by omega
                rw [← ov]
                simpa using d
      · rintro σ H4 ⟨x3, x4, rfl, s4, hb⟩
        rw [hNN] at hb
        refine q _ .non (s13.trans s4) ?_
        rw [wit_none c hb]
        rfl
def spAllows (K : PySem.W.Frag) : Sp := fun vs H Q E => ∃ (r a : Addr) (row ns : List Int), vs = [.ref r, .ref a] ∧ SqL K H r (row.map V.int) ∧ IsN K H a ns ∧ Errs K row ns H E ∧
  (ns.length ≤ 2 ^ 20) ∧ (Fall row → ns.length ≤ 30 → bad top 0 ns = none → ∀ H', Same H H' → Q (.bl (decide (witOf row ns = .none))) H')
theorem ok_row_allows (T : Tx K mg) : Ok PG w K mg base (L2.CX PG w) 10 (a_row_allows K) p_row_allows (spAllows K) := by
  refine Ok.of 9 T.f_row_allows sc_row_allows bi_row_allows (by decide) (fun vs H Q E h => ?_) (fun cdv A outer s H vs Q E hr h => ?_)
  · obtain ⟨_, _, _, _, rfl, _⟩ := h
    rfl
  · obtain ⟨r, a, row, ns, rfl, hrw, hN, er, lq, q⟩ := h
    refine ⟨_, pss_one (ps_ret (pe_cmpR op_isN (pc (ok_row_witness T) hr T.g_row_witness px (pa_cons (pv 0) (pa_cons (pv 1) pa_nil))) pe_non (nomark _))), ?_⟩
    refine ⟨_, rfl, _, rfl, r, a, row, ns, rfl, hrw, hN, er, lq, fun f l b H1 v s1 hw => ⟨rfl, ?_⟩⟩
    have z := q f l b H1 s1
    rw [← hw.non_iff] at z
    exact z
end
end K34

set_option maxRecDepth 100000
set_option maxHeartbeats 4000000
/-! # Lists of numbers drawn from a pool -/
namespace L2
open PySem PySem.Spec PyProof.Rows
/-- [f(pool) for x in range(..)] -/
theorem lc_draws {lo : Int} {n i0 : Nat} {te : TE} {vs : List Nat} {σ : L2.St} {H1 : Hp} {D p : Addr} {st : List V} {Qd : Hp → Prop} {C : Int → Prop} (hp : H1 p = some (.lst st)) (ok : PoolOk st) (hD : H1 D = none) (hn : n ≤ 10000)
    (hte : ∀ (i : Nat) (H2 : Hp) (st2 : List V), H2 p = some (.lst st2) → PoolOk st2 → But p H1 H2 → wipe ((wipe σ vs).set i0 (some (.int (lo + (i : Nat))))) vs = wipe σ vs ∧ ∀ Q : VK, (∀ v H3 st3, C v → But p H2 H3 → H3 p = some (.lst st3) → PoolOk st3 → Q (.int v) H3) → te ((wipe σ vs).set i0 (some (.int (lo + (i : Nat))))) H2 Q)
    (hd : ∀ (H' : Hp) (ns : List Int) (st' : List V), But p H1 H' → H' p = some (.lst st') → PoolOk st' → H' D = some (.lst (ns.map V.int)) → ns.length = n → (∀ x ∈ ns, C x) → Qd H') :
    ∃ W : Nat → Nat → Hp → Prop, (∃ m, W 0 m (upd H1 D (.lst []))) ∧ ∀ i m H, W i m H →
      ((Itr lo n).stop i H ∧ Qd H) ∨ ((Itr lo n).go i H ∧ ∃ Nx : Hp → Prop, (∀ H', Nx H' → ∃ m', m' < m ∧ W (i + 1) m' H') ∧ ∀ x H', (Itr lo n).yld i H x H' → gName i0 x (wipe σ vs) H' fun σ2 H2 => wipe σ2 vs = wipe σ vs ∧ tYes σ2 H2 fun b H3 =>
        if b = true then te σ2 H3 fun y H4 => ∃ acc, H4 D = some (.lst acc) ∧ acc.length < sizeLine ∧ Nx (upd H4 D (.lst (acc ++ [y]))) else Nx H3) := by
  have dp : D ≠ p := fun z => by rw [z, hp] at hD; cases hD
  refine lc_range (lo := lo) (n := n) (fun i H' => ∃ (ns : List Int) (st' : List V), But p H1 H' ∧ H' p = some (.lst st') ∧ PoolOk st' ∧ H' D = some (.lst (ns.map V.int)) ∧ ns.length = i ∧ ∀ x ∈ ns, C x) ⟨[], st, .of (.new hD), by rw [upd_ne (Ne.symm dp)]; exact hp, ok, upd_same, rfl, fun x hx => by cases hx⟩ ?_ ?_
  · rintro i H' hi ⟨ns, st', bt, hp', ok', hl, hn', hb⟩
    obtain ⟨e1, e2⟩ := hte i H' st' hp' ok' bt
    refine ⟨e1, yesT (e2 _ fun v H3 st3 hv b3 hp3 ok3 => ?_)⟩
    refine ⟨ns.map V.int, b3 _ _ dp hl, by rw [List.length_map, hn', sizeLine_eq]; omega, ns ++ [v], st3, fun c o nc hc => ?_, ?_, ok3, ?_, ?_, fun x hx => ?_⟩
    · have nD : c ≠ D := fun z => by rw [z, hD] at hc; cases hc
      rw [upd_ne nD]
      exact b3 c o nc (bt c o nc hc)
    · rw [upd_ne (Ne.symm dp)]; exact hp3
    · rw [upd_same, List.map_append]; rfl
    · rw [List.length_append, hn']; rfl
    · rcases List.mem_append.mp hx with hx | hx
      · exact hb x hx
      · rw [List.mem_singleton.mp hx]; exact hv
  · rintro H' ⟨ns, st', bt, hp', ok', hl, hn', hb⟩
    exact hd H' ns st' bt hp' ok' hl hn' hb
theorem But.none {p l : Addr} {H H' : Hp} {o : HO} (b : But p H H') (hp : H' p = some o) (h : H' l = Option.none) : H l = Option.none := by
  cases e : H l with
  | none => rfl
  | some u =>
    have n : l ≠ p := fun z => by rw [z, hp] at h; cases h
    rw [b l u n e] at h
    cases h
end L2

set_option maxRecDepth 100000
set_option maxHeartbeats 8000000
namespace K34
open PySem PySem.Spec PyProof.Rows L2 WT
theorem fall_snoc {ns : List Int} {x : Int} (h : Fall ns) (h1 : 1 ≤ x) (h2 : ∀ y, ns.getLast? = some y → x ≤ y) : Fall (ns ++ [x]) := by
  intro i n e
  rcases Nat.lt_trichotomy i ns.length with c | c | c
  · rw [List.getElem?_append_left c] at e
    have := h i n e
    refine ⟨this.1, fun j m hj em => this.2 j m hj ?_⟩
    rw [List.getElem?_append_left (by omega)] at em
    exact em
  · subst c
    rw [List.getElem?_append_right (Nat.le_refl _), Nat.sub_self] at e
    cases e
    refine ⟨h1, fun j m hj em => h2 m ?_⟩
    rw [List.getElem?_append_left (by omega)] at em
    rw [List.getLast?_eq_getElem?, show ns.length - 1 = j by omega]
    exact em
  · rw [List.getElem?_eq_none (by rw [List.length_append]; simp; omega)] at e
    cases e
theorem fall_sorted {ns : List Int} (h : ns.Pairwise (· ≥ ·)) (k : ∀ x ∈ ns, 1 ≤ x) : Fall ns := fun i n e => by
  refine ⟨k n (List.mem_of_getElem? e), fun j m hj em => ?_⟩
  obtain ⟨hi, rfl⟩ := List.getElem?_eq_some_iff.mp e
  obtain ⟨hm, rfl⟩ := List.getElem?_eq_some_iff.mp em
  exact List.pairwise_iff_getElem.mp h j i hm hi (by omega)
theorem dno' {p : Prop} [Decidable p] (c : ¬ decide p = true) : ¬ p := fun z => c (decide_eq_true z)
/-- a new list of numbers from the pool -/
def NewRow (p : Addr) (H : Hp) (C : List Int → Prop) (Q : VK) : Prop := ∀ (H' : Hp) (l : Addr) (ns : List Int) (st' : List V), But p H H' → H' p = some (.lst st') → PoolOk st' → H l = none → H' l = some (.lst (ns.map V.int)) → C ns → Q (.ref l) H'
theorem draw_ok {m : Int} (h0 : 0 < m) (h : m < 2 ^ 190) : m.natAbs < 2 ^ 200 := by
  have : m.natAbs < 2 ^ 190 := by omega
  exact Nat.lt_trans this (by decide)
section
variable {w : World} {K : PySem.W.Frag} {mg : Str → Option Value} {base : Heap}
def spRow : Sp := fun vs H Q _ => ∃ (p : Addr) (st : List V), vs = [.ref p] ∧ H p = some (.lst st) ∧ PoolOk st ∧ NewRow p H (fun ns => ns.length ≤ 2000 ∧ Fall ns ∧ ns.sum ≤ 2000) Q
theorem sum_le {m : Int} : ∀ {ns : List Int}, (∀ x ∈ ns, x ≤ m) → 0 ≤ m → ns.sum ≤ ns.length * m
  | [], _, _ => by simp
  | x :: ns, h, h0 => by
    have := sum_le (ns := ns) (fun y hy => h y (by simp [hy])) h0
    have hx := h x (by simp)
    rw [List.sum_cons, List.length_cons, Int.natCast_add, Int.add_mul]
    omega
theorem ok_law_row (T : Tx K mg) : Ok PG w K mg base CX0 3 (a_law_row K) p_law_row spRow := by
  refine Ok.of 2 T.f_law_row sc_law_row bi_law_row (by decide) (fun vs H Q E h => ?_) (fun cdv A outer s H vs Q E hr h => ?_)
  · obtain ⟨_, _, rfl, _⟩ := h
    rfl
  · obtain ⟨p, st, rfl, hp, ok, q⟩ := h
    have nd := sc_law_row.nd
    refine ⟨_, pss_cons (ps_if (pt_cmpR op_gt (pc (ok_law_draw T) hr T.g_law_draw pass0 (pa_cons (pv 0) (pa_cons pe_int pa_nil))) pe_int (nomark _)) (pss_cons (ps_setLc (i := 1) (own := [("place", 2)]) (g := gName 2) (tt := tYes) rfl nd rfl rfl (sw_true rfl rfl rfl (by decide +kernel)) (pi_range1 rfl T.m_range (pa_cons (pc (ok_law_draw T) hr T.g_law_draw pass0 (pa_cons (pv 0) (pa_cons pe_int pa_nil))) pa_nil)) (blkOk_by (N := n_law_row) (sc := defScope s_law_row) (by decide +kernel)) (fun _ _ _ _ _ => pg_name (i := 2) nd rfl (Or.inl rfl)) (fun _ _ _ _ _ => pts_nil) (fun _ _ _ _ _ => pe_op op_add pe_int (pc (ok_law_draw T) hr T.g_law_draw pass0 (pa_cons (pv 0) (pa_cons pe_int pa_nil)))))
        (pss_one (ps_ret (pe_callBK (cr_sortedRev (b := true)) (by rfl) T.m_sorted (by decide +kernel) (pa_cons (pv 1) pa_nil) (pk_cons pe_bl pk_nil))))) pss_nil)
      (pss_cons (ps_set (i := 3) nd rfl (.inl rfl) (pc (ok_law_draw T) hr T.g_law_draw pass0 (pa_cons (pv 0) (pa_cons pe_int pa_nil))))
      (pss_cons (ps_set (i := 4) nd rfl (.inl rfl) (pv 3))
      (pss_cons (ps_set (i := 5) nd rfl (.inl rfl) (pe_lst pa_nil))
      (pss_cons (ps_for (passX rfl) rfl (pi_range1 rfl T.m_range (pa_cons pe_int pa_nil)) (pg_name (i := 6) nd rfl (.inl rfl))
        (pss_cons (ps_if (pt_cmpR op_eq (pv 3) pe_int (nomark _)) (pss_one (ps_break)) pss_nil)
          (pss_cons (ps_set (i := 7) nd rfl (.inl rfl) (pe_op op_add pe_int (pc (ok_law_draw T) hr T.g_law_draw pass0 (pa_cons (pv 0) (pa_cons (pe_callB (call_min2 rfl) (by rfl) T.m_min (by decide +kernel) (pa_cons (pv 4) (pa_cons (pv 3) pa_nil))) pa_nil)))))
          (pss_cons (ps_expr (pe_bm PySem.F.plainAttrs_list PySem.F.slot_list_append PySem.F.type_list_append mt_append (pv 5) (pa_cons (pv 7) pa_nil)))
          (pss_cons (ps_set (i := 4) nd rfl (.inl rfl) (pv 7))
          (pss_one (ps_set (i := 3) nd rfl (.inl rfl) (pe_op op_sub (pv 3) (pv 7)))))))))
      (pss_one (ps_ret (pv 5))))))), ?_⟩
    refine ⟨_, rfl, p, st, 6, rfl, by decide, by decide, hp, ok, fun v st1 v0 v1 ok1 => ⟨_, _, rfl, rfl, _, rfl, ite2 (fun _ => ?_) (fun _ => ?_)⟩⟩
    · refine ⟨_, rfl, p, st1, 9, rfl, by decide, by decide, upd_same, ok1, fun m st2 m0 m1 ok2 => ⟨m, rfl, by omega, by omega, fun D hD => ?_⟩⟩
      rw [upd_upd] at hD ⊢
      have nDp : D ≠ p := fun z => by rw [z, upd_same] at hD; cases hD
      have hD0 : H D = none := by rwa [upd_ne nDp] at hD
      refine lc_range (lo := 0) (n := m.toNat) (fun i H' => ∃ (es : List Int) (st' : List V), But p H H' ∧ H' p = some (.lst st') ∧ PoolOk st' ∧ H' D = some (.lst (es.map V.int)) ∧ es.length = i ∧ ∀ x ∈ es, 1 ≤ x ∧ x ≤ 6) ⟨[], st2, But.set.trans (.of (.new hD)), Same.new hD _ _ upd_same, ok2, upd_same, rfl, fun x hx => by cases hx⟩ (fun i H' hi z => ?_) (fun H' z => ?_)
      · obtain ⟨es, st', bt, hp', ok', hl, hn, hb⟩ := z
        refine ⟨rfl, yesT ?_⟩
        refine ⟨_, rfl, p, st', 6, rfl, by decide, by decide, hp', ok', fun u st4 u0 u1 ok4 => ⟨_, _, rfl, rfl, ?_⟩⟩
        refine ⟨es.map V.int, by rw [upd_ne nDp]; exact hl, by rw [List.length_map, sizeLine_eq]; omega, es ++ [1 + u], st4, fun b o nb eb => ?_, by rw [upd_ne (Ne.symm nDp), upd_same], ok4, by rw [upd_same, List.map_append]; rfl, by rw [List.length_append, hn]; rfl, fun x hx => ?_⟩
        · rw [upd_ne (fun z => by rw [z, hD0] at eb; cases eb), upd_ne nb]
          exact bt _ _ nb eb
        · rcases List.mem_append.mp hx with hx | hx
          · exact hb x hx
          · rw [List.mem_singleton.mp hx]; omega
      · obtain ⟨es, st', bt, hp', ok', hl, hn, hb⟩ := z
        refine ⟨_, rfl, D, es, rfl, rfl, SqL.of hl, fun ns' r pm so hr' => ?_⟩
        have hb' : ∀ x ∈ ns', 1 ≤ x ∧ x ≤ 6 := fun x hx => hb x (pm.mem_iff.mp hx)
        have lns : ns'.length ≤ 8 := by rw [pm.length_eq]; omega
        refine q _ r ns' st' (bt.trans (.of (.new hr'))) (Same.new hr' _ _ hp') ok' ?_ upd_same ⟨by omega, fall_sorted so (fun x hx => (hb' x hx).1), ?_⟩
        · cases e : H r with
          | none => rfl
          | some o =>
            by_cases c : r = p
            · rw [c, hp'] at hr'; cases hr'
            · rw [bt r o c e] at hr'; cases hr'
        · have := sum_le (m := 6) (fun x hx => (hb' x hx).2) (by decide)
          omega
    · refine ⟨_, rfl, p, st1, 1801, rfl, by decide, by decide, upd_same, ok1, fun t st2 t0 t1 ok2 => ?_⟩
      rw [upd_upd]
      refine ⟨_, rfl, Nat.zero_le _, fun R hR => ?_⟩
      have hRp : R ≠ p := fun z => by rw [z, upd_same] at hR; cases hR
      have hR0 : H R = none := by rwa [upd_ne hRp] at hR
      refine ⟨1800, rfl, by omega, by omega, ?_⟩
      refine for_range (lo := 0) (n := 1800) (fun i σ H' => ∃ (ns : List Int) (st' : List V) (left most : Int) (x6 x7 : Option V), σ = [some (.ref p), none, none, some (.int left), some (.int most), some (.ref R), x6, x7] ∧ But p H H' ∧ H' p = some (.lst st') ∧ PoolOk st' ∧ H' R = some (.lst (ns.map V.int)) ∧ 0 ≤ left ∧ left ≤ 1800 ∧ (left ≠ 0 → 1 ≤ most) ∧ most ≤ 1800 ∧ ns.length ≤ i ∧ Fall ns ∧ ns.sum = t - left ∧ ∀ y, ns.getLast? = some y → most ≤ y)
        ⟨[], st2, t, t, none, none, rfl, But.set.trans (.of (.new hR)), by rw [upd_ne (Ne.symm hRp)]; exact upd_same, ok2, upd_same, t0, by omega, fun _ => by omega, by omega, Nat.le_refl _, fun i n e => by simp at e, by simp, fun y e => by cases e⟩ ?_ ?_
      · rintro i σ H' hi ⟨ns, st', left, most, x6, x7, rfl, bt, hp', ok', hl, l0, l1, m0, m1, ln, hf, hsum, hla⟩
        refine ⟨_, rfl, rfl, _, rfl, ?_⟩
        refine ite2 (fun c => ?_) (fun c => ?_)
        · exact ⟨_, rfl, q H' R ns st' bt hp' ok' hR0 hl ⟨by omega, hf, by omega⟩⟩
        have c0 : left ≠ 0 := by simpa using dno' c
        have mm := m0 c0
        refine ⟨_, rfl, _, rfl, _, rfl, most, left, rfl, ?_⟩
        have k1 : 1 ≤ (if left < most then left else most) := by split <;> omega
        have k2 : (if left < most then left else most) ≤ left ∧ (if left < most then left else most) ≤ most := by split <;> omega
        generalize (if left < most then left else most) = mn at k1 k2 ⊢
        refine ⟨p, st', mn, rfl, by omega, ?_, hp', ok', fun v st3 v0 v1 ok3 => ⟨_, _, rfl, rfl, ?_⟩⟩
        · have : mn.natAbs < 2 ^ 12 := by omega
          exact Nat.lt_trans this (by decide)
        have hl3 : upd H' p (.lst st3) R = some (.lst (ns.map V.int)) := by rw [upd_ne hRp]; exact hl
        refine ⟨_, rfl, .inl ⟨rfl, _, SqL.of hl3⟩, _, rfl, R, _, _, rfl, rfl, hl3, by rw [List.length_map, sizeLine_eq]; omega, _, rfl, _, rfl, _, rfl, _, _, rfl, rfl, ?_⟩
        refine ⟨ns ++ [1 + v], st3, left - (1 + v), 1 + v, _, _, rfl, fun b u nb e => ?_, by rw [upd_ne (Ne.symm hRp), upd_same], ok3, by rw [upd_same, List.map_append]; rfl, by omega, by omega, fun _ => by omega, by omega, by rw [List.length_append]; show ns.length + 1 ≤ _; omega, fall_snoc hf (by omega) (fun y hy => by have := hla y hy; omega), by rw [sum_snoc]; omega, fun y e => by rw [List.getLast?_concat] at e; cases e; omega⟩
        rw [upd_ne (fun z => by rw [z, hR0] at e; cases e), upd_ne nb]
        exact bt b u nb e
      · rintro σ H' ⟨ns, st', left, most, x6, x7, rfl, bt, hp', ok', hl, l0, l1, m0, m1, ln, hf, hsum, hla⟩
        exact ⟨_, rfl, q H' R ns st' bt hp' ok' hR0 hl ⟨by omega, hf, by omega⟩⟩
end
end K34

set_option maxRecDepth 100000
set_option maxHeartbeats 8000000
namespace K34
open PySem PySem.Spec PyProof.Rows L2 WT
theorem ixN_nat {n j : Nat} (h : j < n) : ixN n (j : Int) = some j := by
  unfold ixN
  rw [if_pos (by omega), if_pos (by omega)]
  simp
theorem flat_one {α : Type} (v : α) : ∀ n : Nat, (List.replicate n [v]).flatten = List.replicate n v
  | 0 => rfl
  | n + 1 => by rw [List.replicate_succ, List.flatten_cons, flat_one v n, List.replicate_succ]; rfl
/-- the pool at p turned, a new list of ns at L -/
structure Cur (p L : Addr) (H H' : Hp) (ns : List Int) : Prop where
  bt : But p H H'
  hp : ∃ st, H' p = some (.lst st) ∧ PoolOk st
  hl : H' L = some (.lst (ns.map V.int))
theorem Cur.draw {p L : Addr} {H H' : Hp} {ns : List Int} (h : Cur p L H H' ns) (n : L ≠ p) {st : List V} (ok : PoolOk st) : Cur p L H (upd H' p (.lst st)) ns :=
  ⟨h.bt.trans .set, ⟨st, upd_same, ok⟩, by rw [upd_ne n]; exact h.hl⟩
theorem Cur.put {p L : Addr} {H H' : Hp} {ns : List Int} (h : Cur p L H H' ns) (n : L ≠ p) (hL : H L = none) (ms : List Int) : Cur p L H (upd H' L (.lst (ms.map V.int))) ms := by
  obtain ⟨st, e, ok⟩ := h.hp
  exact ⟨fun b o nb eb => by
    rw [upd_ne (fun z => by rw [z, hL] at eb; cases eb)]
    exact h.bt _ _ nb eb, ⟨st, by rw [upd_ne (Ne.symm n)]; exact e, ok⟩, upd_same⟩
theorem sum_set : ∀ {ns : List Int} {i : Nat} {v x : Int}, ns[i]? = some x → (ns.set i v).sum = ns.sum - x + v
  | [], i, v, x, h => by cases h
  | a :: ns, 0, v, x, h => by cases h; rw [List.set_cons_zero, List.sum_cons, List.sum_cons]; omega
  | a :: ns, i + 1, v, x, h => by
    rw [List.getElem?_cons_succ] at h
    rw [List.set_cons_succ, List.sum_cons, List.sum_cons, sum_set h]; omega
theorem le_sum : ∀ {ns : List Int}, (∀ x ∈ ns, 0 ≤ x) → 0 ≤ ns.sum ∧ ∀ x ∈ ns, x ≤ ns.sum
  | [], _ => ⟨by simp, fun x hx => by cases hx⟩
  | a :: ns, h => by
    obtain ⟨h1, h2⟩ := le_sum (ns := ns) (fun x hx => h x (by simp [hx]))
    have := h a (by simp)
    refine ⟨by rw [List.sum_cons]; omega, fun x hx => ?_⟩
    rw [List.sum_cons]
    rcases List.mem_cons.mp hx with rfl | hx
    · omega
    · have := h2 x hx; omega
theorem sum_take {ns : List Int} (h : ∀ x ∈ ns, 0 ≤ x) (k : Nat) : (ns.take k).sum ≤ ns.sum := by
  have e : ns.sum = (ns.take k).sum + (ns.drop k).sum := by
    conv => lhs; rw [← List.take_append_drop k ns]
    rw [List.sum_append]
  have := (le_sum (ns := ns.drop k) (fun x hx => h x (List.mem_of_mem_drop hx))).1
  omega
theorem fill {row : List Int} {n i : Nat} {x : Int} (hi : i < n) (hx : row[i]? = some x) : (row.take i ++ List.replicate (n - i) 0).set i x = row.take (i + 1) ++ List.replicate (n - (i + 1)) 0 := by
  have hl : i < row.length := (List.getElem?_eq_some_iff.mp hx).1
  have tl : (row.take i).length = i := by rw [List.length_take]; omega
  rw [List.take_succ, hx, List.set_append_right _ _ (by omega), tl, Nat.sub_self, show n - i = (n - (i + 1)) + 1 by omega, List.replicate_succ, List.set_cons_zero, List.append_assoc]
  rfl
theorem mem_set {ns : List Int} {i : Nat} {v x : Int} (h : x ∈ ns.set i v) : x ∈ ns ∨ x = v := List.mem_or_eq_of_mem_set h
section
variable {w : World} {K : PySem.W.Frag} {mg : Str → Option Value} {base : Heap}
def spNumbers (K : PySem.W.Frag) : Sp := fun vs H Q _ => ∃ (p r : Addr) (st : List V) (row : List Int), vs = [.ref p, .ref r] ∧ H p = some (.lst st) ∧ PoolOk st ∧ r ≠ p ∧ H r = some (.lst (row.map V.int)) ∧ row.length ≤ 2000 ∧ (∀ x ∈ row, 0 ≤ x) ∧ row.sum ≤ 2000 ∧
  NewRow p H (fun ns => ns.length ≤ 30 ∧ ∀ x ∈ ns, 0 ≤ x ∧ x ≤ top) Q
theorem ok_law_numbers (T : Tx K mg) : Ok PG w K mg base CX0 3 (a_law_numbers K) p_law_numbers (spNumbers K) := by
  refine Ok.of 2 T.f_law_numbers sc_law_numbers bi_law_numbers (by decide) (fun vs H Q E h => ?_) (fun cdv A outer s H vs Q E hr h => ?_)
  · obtain ⟨_, _, _, _, rfl, _⟩ := h
    rfl
  · obtain ⟨p, r, st, row, rfl, hp, ok, nrp, hrw, lr, h0, hs, q⟩ := h
    have nd := sc_law_numbers.nd
    refine ⟨_, pss_cons (ps_set (i := 2) nd rfl (.inl rfl) (pc (ok_law_draw T) hr T.g_law_draw pass0 (pa_cons (pv 0) (pa_cons pe_int pa_nil))))
      (pss_cons (ps_if (pt_cmpR op_eq (pc (ok_law_draw T) hr T.g_law_draw pass0 (pa_cons (pv 0) (pa_cons pe_int pa_nil))) pe_int (nomark _)) (pss_one (ps_set (i := 2) nd rfl (.inl rfl) (pc (ok_law_draw T) hr T.g_law_draw pass0 (pa_cons (pv 0) (pa_cons pe_int pa_nil))))) pss_nil)
      (pss_cons (ps_if (pt_cmpR op_eq (pc (ok_law_draw T) hr T.g_law_draw pass0 (pa_cons (pv 0) (pa_cons pe_int pa_nil))) pe_int (nomark _)) (pss_cons (ps_set (i := 3) nd rfl (.inr rfl) (pe_ix ix_list (pe_lst (pa_cons pe_int (pa_cons pe_int (pa_cons pe_int (pa_cons (pe_op op_add (pe_op op_pow pe_int pe_int) pe_int) pa_nil))))) (pc (ok_law_draw T) hr T.g_law_draw pass0 (pa_cons (pv 0) (pa_cons pe_int pa_nil))) (fun _ _ => rfl)))
        (pss_one (ps_ret (pe_lc (own := [("person", 4)]) (g := gName 4) (tt := tYes) rfl nd (pi_range1 rfl T.m_range (pa_cons (pv 2) pa_nil)) (blkOk_by (N := n_law_numbers) (sc := defScope s_law_numbers) (by decide +kernel)) (fun _ _ _ _ _ => pg_name (i := 4) nd rfl (Or.inl rfl)) (fun _ _ _ _ _ => pts_nil) (fun _ _ _ _ _ => pc (ok_law_draw T) hr T.g_law_draw pass0 (pa_cons (pv 0) (pa_cons (pv 3) pa_nil))))))) pss_nil)
      (pss_cons (ps_set (i := 5) nd rfl (.inl rfl) (pe_op op_rep (pe_lst (pa_cons pe_int pa_nil)) (pv 2)))
      (pss_cons (ps_for (passX rfl) rfl (pi_range1 rfl T.m_range (pa_cons (pe_callB (call_min2 rfl) (by rfl) T.m_min (by decide +kernel) (pa_cons (pv 2) (pa_cons (pe_callB call_len_seq (by rfl) T.m_len PySem.boot_len (pa_cons (pv 1) pa_nil)) pa_nil))) pa_nil)) (pg_name (i := 6) nd rfl (.inl rfl))
        (pss_one (ps_asg (pe_ix ix_list (pv 1) (pv 6) (fun _ _ => rfl)) (pg_sub (pv 5) (pv 6) set_list))))
      (pss_cons (ps_if (pt_cmpR op_eq (pv 2) pe_int (nomark _)) (pss_one (ps_ret (pv 5))) pss_nil)
      (pss_cons (ps_if (pt_cmpR op_gt (pc (ok_law_draw T) hr T.g_law_draw pass0 (pa_cons (pv 0) (pa_cons pe_int pa_nil))) pe_int (nomark _)) (pss_cons (ps_set (i := 6) nd rfl (.inl rfl) (pc (ok_law_draw T) hr T.g_law_draw pass0 (pa_cons (pv 0) (pa_cons (pv 2) pa_nil))))
        (pss_one (ps_asg (pe_op op_sub (pe_op op_add (pe_ix ix_list (pv 5) (pv 6) (fun _ _ => rfl)) (pe_callB (cr_sum rfl) (by rfl) T.m_sum (by decide +kernel) (pa_cons (pv 1) pa_nil))) (pe_callB (cr_sum rfl) (by rfl) T.m_sum (by decide +kernel) (pa_cons (pv 5) pa_nil))) (pg_sub (pv 5) (pv 6) set_list)))) pss_nil)
      (pss_cons (ps_for (passX rfl) rfl (pi_range1 rfl T.m_range (pa_cons (pc (ok_law_draw T) hr T.g_law_draw pass0 (pa_cons (pv 0) (pa_cons pe_int pa_nil))) pa_nil)) (pg_name (i := 7) nd rfl (.inl rfl))
        (pss_cons (ps_set (i := 8) nd rfl (.inl rfl) (pc (ok_law_draw T) hr T.g_law_draw pass0 (pa_cons (pv 0) (pa_cons (pv 2) pa_nil))))
          (pss_cons (ps_set (i := 9) nd rfl (.inl rfl) (pc (ok_law_draw T) hr T.g_law_draw pass0 (pa_cons (pv 0) (pa_cons (pv 2) pa_nil))))
          (pss_one (ps_if (pt_cmpR op_gt (pe_ix ix_list (pv 5) (pv 8) (fun _ _ => rfl)) pe_int (nomark _)) (pss_cons (ps_asg (pe_op op_sub (pe_ix ix_list (pv 5) (pv 8) (fun _ _ => rfl)) pe_int) (pg_sub (pv 5) (pv 8) set_list))
            (pss_one (ps_asg (pe_op op_add (pe_ix ix_list (pv 5) (pv 9) (fun _ _ => rfl)) pe_int) (pg_sub (pv 5) (pv 9) set_list)))) pss_nil)))))
      (pss_cons (ps_for (passX rfl) rfl (pi_range1 rfl T.m_range (pa_cons (pv 2) pa_nil)) (pg_name (i := 6) nd rfl (.inl rfl))
        (pss_cons (ps_set (i := 10) nd rfl (.inl rfl) (pc (ok_law_draw T) hr T.g_law_draw pass0 (pa_cons (pv 0) (pa_cons (pv 2) pa_nil))))
          (pss_cons (ps_set (i := 11) nd rfl (.inl rfl) (pe_ix ix_list (pv 5) (pv 6) (fun _ _ => rfl)))
          (pss_cons (ps_asg (pe_ix ix_list (pv 5) (pv 10) (fun _ _ => rfl)) (pg_sub (pv 5) (pv 6) set_list))
          (pss_one (ps_asg (pv 11) (pg_sub (pv 5) (pv 10) set_list)))))))
      (pss_one (ps_ret (pv 5))))))))))), ?_⟩
    refine seqQ (fun σ' H' => ∃ (m0 : Int) (st1 : List V), σ' = [some (.ref p), some (.ref r), some (.int m0), none, none, none, none, none, none, none, none, none] ∧ 0 ≤ m0 ∧ m0 < 9 ∧ H' = upd H p (.lst st1) ∧ PoolOk st1) (fun σ' H' z => ?_) (fun next => ⟨_, rfl, p, st, 9, rfl, by decide, by decide, hp, ok, fun m0 st1 m00 m01 ok1 => next _ _ ⟨m0, st1, rfl, m00, m01, rfl, ok1⟩⟩)
    obtain ⟨m0, st1, rfl, m00, m01, rfl, ok1⟩ := z
    -- the people
    refine seqQ (fun σ' H' => ∃ (n : Nat) (st' : List V), σ' = [some (.ref p), some (.ref r), some (.int (n : Nat)), none, none, none, none, none, none, none, none, none] ∧ n ≤ 30 ∧ H' = upd H p (.lst st') ∧ PoolOk st') (fun σ' H' z => ?_) (fun next => ?_)
    · obtain ⟨n, st2, rfl, n30, rfl, ok2⟩ := z
      have hr2 : upd H p (.lst st2) r = some (.lst (row.map V.int)) := by rw [upd_ne nrp]; exact hrw
      refine seqQ (fun σ' H' => ∃ (st' : List V), σ' = [some (.ref p), some (.ref r), some (.int (n : Nat)), none, none, none, none, none, none, none, none, none] ∧ H' = upd H p (.lst st') ∧ PoolOk st') (fun σ' H' z => ?_) (fun next => ?_)
      · obtain ⟨st3, rfl, rfl, ok3⟩ := z
        have hr3 : upd H p (.lst st3) r = some (.lst (row.map V.int)) := by rw [upd_ne nrp]; exact hrw
        refine ⟨by show 1 ≤ sizeLine; decide, fun z hz => ?_⟩
        refine ⟨_, rfl, z, (n : Nat), _, rfl, rfl, upd_same, by omega, by omega, by rw [sizeLine_eq]; show 1 * _ ≤ _; omega, fun L hL => ?_⟩
        rw [flat_one]
        have nzp : z ≠ p := fun e => by rw [e, upd_same] at hz; cases hz
        have nLp : L ≠ p := fun e => by rw [e, upd_ne (Ne.symm nzp), upd_same] at hL; cases hL
        have hL0 : H L = none := by
          by_cases e : L = z
          · rw [e, upd_same] at hL; cases hL
          · rw [upd_ne e, upd_ne nLp] at hL; exact hL
        have hz0 : H z = none := by rwa [upd_ne nzp] at hz
        have c0 : Cur p L H (upd (upd (upd H p (.lst st3)) z (.lst [V.int 0])) L (.lst (List.replicate ((n : Nat) : Int).toNat (V.int 0)))) (row.take 0 ++ List.replicate (n - 0) 0) := by
          refine ⟨(But.set.trans (.of (.new hz))).trans (.of (.new hL)), ⟨st3, ?_, ok3⟩, ?_⟩
          · rw [upd_ne (Ne.symm nLp), upd_ne (Ne.symm nzp), upd_same]
          · rw [upd_same]; simp
        generalize upd (upd (upd H p (.lst st3)) z (.lst [V.int 0])) L (.lst (List.replicate ((n : Nat) : Int).toNat (V.int 0))) = C0 at c0 ⊢
        have hrC : ∀ {G : Hp} {ns : List Int}, Cur p L H G ns → G r = some (.lst (row.map V.int)) := fun {G ns} c => c.bt _ _ nrp hrw
        refine ⟨_, rfl, _, rfl, r, _, rfl, .inl (SqL.of (hrC c0)), _, _, rfl, ?_⟩
        have mn : ∃ k : Nat, (if ((row.map V.int).length : Int) < ((n : Nat) : Int) then ((row.map V.int).length : Int) else ((n : Nat) : Int)) = (k : Nat) ∧ k ≤ n ∧ k ≤ row.length := by
          rw [List.length_map]
          split
          · exact ⟨row.length, rfl, by omega, Nat.le_refl _⟩
          · exact ⟨n, rfl, Nat.le_refl _, by omega⟩
        obtain ⟨k, ek, kn, kr⟩ := mn
        rw [ek]
        refine ⟨(k : Nat), rfl, by omega, by omega, ?_⟩
        refine for_range (lo := 0) (n := ((k : Nat) : Int).toNat) (fun i σ H' => ∃ x6, σ = [some (.ref p), some (.ref r), some (.int (n : Nat)), none, none, some (.ref L), x6, none, none, none, none, none] ∧ Cur p L H H' (row.take i ++ List.replicate (n - i) 0)) ⟨_, rfl, c0⟩ ?_ ?_
        · rintro i σ H' hi ⟨x6, rfl, c⟩
          rw [Int.zero_add]
          have hi : i < k := by omega
          have hir : i < row.length := by omega
          refine ⟨_, rfl, _, rfl, r, _, _, _, rfl, rfl, SqL.of (hrC c), atI_nat (by rw [List.getElem?_map, List.getElem?_eq_getElem hir]; rfl), ?_⟩
          refine ⟨_, rfl, _, rfl, L, _, (i : Nat), i, rfl, rfl, c.hl, ixN_nat (by rw [List.length_map, List.length_append, List.length_take, List.length_replicate]; omega), ?_⟩
          rw [← List.map_set, fill (by omega) (List.getElem?_eq_getElem hir)]
          exact ⟨_, rfl, c.put nLp hL0 _⟩
        · rintro σ H' ⟨x6, rfl, c⟩
          have ek : ((k : Nat) : Int).toNat = k := by omega
          rw [ek] at c
          have A : (row.take k ++ List.replicate (n - k) 0).length = n := by rw [List.length_append, List.length_take, List.length_replicate]; omega
          have B : ∀ x ∈ row.take k ++ List.replicate (n - k) 0, 0 ≤ x := fun x hx => by
            rcases List.mem_append.mp hx with hx | hx
            · exact h0 x (List.mem_of_mem_take hx)
            · rw [(List.mem_replicate.mp hx).2]; exact Int.le_refl _
          have S : (row.take k ++ List.replicate (n - k) 0).sum ≤ row.sum := by
            rw [List.sum_append, show (List.replicate (n - k) (0 : Int)).sum = 0 by simp]
            have := sum_take h0 k
            omega
          generalize row.take k ++ List.replicate (n - k) 0 = ns at c A B S
          refine ⟨_, rfl, rfl, _, rfl, ite2 (fun cz => ?_) (fun cz => ?_)⟩
          · obtain ⟨st', e, ok'⟩ := c.hp
            refine ⟨_, rfl, q _ L ns st' c.bt e ok' hL0 c.hl ⟨by omega, fun x hx => ⟨B x hx, ?_⟩⟩⟩
            have := (le_sum B).2 x hx
            show x ≤ 1000000000000000000000000000000
            omega
          · have cz : n ≠ 0 := by simpa using cz
            have pos : 0 < ((n : Nat) : Int) := by omega
            have dn : ((n : Nat) : Int).natAbs < 2 ^ 200 := draw_ok pos (by omega)
            refine seqQ (fun σ' H1 => σ' = [some (.ref p), some (.ref r), some (.int (n : Nat)), none, none, some (.ref L), x6, none, none, none, none, none] ∧ H' = H1) (fun σ' H1 z => ?_) (fun next => next _ _ ⟨rfl, rfl⟩)
            obtain ⟨rfl, rfl⟩ := z
            refine seqQ (fun σ' H' => ∃ x6 ns, σ' = [some (.ref p), some (.ref r), some (.int (n : Nat)), none, none, some (.ref L), x6, none, none, none, none, none] ∧ Cur p L H H' ns ∧ ns.length = n ∧ (∀ x ∈ ns, 0 ≤ x) ∧ ns.sum ≤ 2000) (fun σ' H' z => ?_) (fun next => ?_)
            · obtain ⟨x6, ns, rfl, c, A, B, S⟩ := z
              obtain ⟨st', e, ok'⟩ := c.hp
              refine ⟨_, rfl, p, st', 5, rfl, by decide, by decide, e, ok', fun m st5 m0 m1 ok5 => ⟨m, rfl, by omega, by omega, ?_⟩⟩
              refine for_range (lo := 0) (n := m.toNat) (fun i σ H' => ∃ x7 x8 x9 ns, σ = [some (.ref p), some (.ref r), some (.int (n : Nat)), none, none, some (.ref L), x6, x7, x8, x9, none, none] ∧ Cur p L H H' ns ∧ ns.length = n ∧ (∀ x ∈ ns, 0 ≤ x) ∧ ns.sum ≤ 2000) ⟨_, _, _, ns, rfl, c.draw nLp ok5, A, B, S⟩ ?_ ?_
              · rintro i σ G hi ⟨x7, x8, x9, ns, rfl, c, A, B, S⟩
                obtain ⟨st6, e6, ok6⟩ := c.hp
                refine ⟨_, rfl, _, rfl, p, st6, n, rfl, pos, dn, e6, ok6, fun g st7 g0 g1 ok7 => ?_⟩
                have c7 := c.draw nLp ok7
                obtain ⟨g, rfl⟩ : ∃ g' : Nat, g = (g' : Nat) := ⟨g.toNat, by omega⟩
                refine ⟨_, rfl, _, rfl, p, st7, n, rfl, pos, dn, upd_same, ok7, fun t st8 t0 t1 ok8 => ?_⟩
                have c8 := c7.draw nLp ok8
                obtain ⟨t, rfl⟩ : ∃ t' : Nat, t = (t' : Nat) := ⟨t.toNat, by omega⟩
                generalize upd (upd G p (.lst st7)) p (.lst st8) = G8 at c8 ⊢
                have hg : g < ns.length := by omega
                have at1 : ∀ {ms : List Int} {j : Nat} (h : j < ms.length), atI (ms.map V.int) ((j : Nat) : Int) = some (V.int ms[j]) := fun {ms j} h => atI_nat (by rw [List.getElem?_map, List.getElem?_eq_getElem h]; rfl)
                refine ⟨_, rfl, _, rfl, L, _, _, _, rfl, rfl, SqL.of c8.hl, at1 hg, _, _, rfl, rfl, _, rfl, ite2 (fun cg => ?_) (fun cg => ⟨_, _, _, ns, rfl, c8, A, B, S⟩)⟩
                have cg : ns[g] > 0 := of_decide_eq_true cg
                refine ⟨_, rfl, _, rfl, L, _, _, _, rfl, rfl, SqL.of c8.hl, at1 hg, _, _, rfl, rfl, ?_⟩
                refine ⟨_, rfl, _, rfl, L, _, (g : Nat), g, rfl, rfl, c8.hl, ixN_nat (by rw [List.length_map]; exact hg), ?_⟩
                rw [← List.map_set]
                have c9 := c8.put nLp hL0 (ns.set g (ns[g] - 1))
                have A9 : (ns.set g (ns[g] - 1)).length = n := by rw [List.length_set]; exact A
                have B9 : ∀ x ∈ ns.set g (ns[g] - 1), 0 ≤ x := fun x hx => by
                  rcases mem_set hx with hx | rfl
                  · exact B x hx
                  · omega
                have S9 : (ns.set g (ns[g] - 1)).sum = ns.sum - 1 := by rw [sum_set (List.getElem?_eq_getElem hg)]; omega
                generalize ns.set g (ns[g] - 1) = ms at c9 A9 B9 S9 ⊢
                generalize upd G8 L (.lst (ms.map V.int)) = G9 at c9 ⊢
                have ht : t < ms.length := by omega
                refine ⟨_, rfl, _, rfl, L, _, _, _, rfl, rfl, SqL.of c9.hl, at1 ht, _, _, rfl, rfl, ?_⟩
                refine ⟨_, rfl, _, rfl, L, _, (t : Nat), t, rfl, rfl, c9.hl, ixN_nat (by rw [List.length_map]; exact ht), ?_⟩
                rw [← List.map_set]
                refine ⟨_, _, _, _, rfl, c9.put nLp hL0 _, by rw [List.length_set]; exact A9, fun x hx => ?_, ?_⟩
                · rcases mem_set hx with hx | rfl
                  · exact B9 x hx
                  · have := B9 _ (List.getElem_mem ht); omega
                · rw [sum_set (List.getElem?_eq_getElem ht)]; omega
              · rintro σ G ⟨x7, x8, x9, ns, rfl, c, A, B, S⟩
                refine ⟨_, rfl, (n : Nat), rfl, by omega, by omega, ?_⟩
                refine for_range (lo := 0) (n := ((n : Nat) : Int).toNat) (fun i σ H' => ∃ x6 x10 x11 ns, σ = [some (.ref p), some (.ref r), some (.int (n : Nat)), none, none, some (.ref L), x6, x7, x8, x9, x10, x11] ∧ Cur p L H H' ns ∧ ns.length = n ∧ ∀ x ∈ ns, 0 ≤ x ∧ x ≤ 2000) ⟨_, _, _, ns, rfl, c, A, fun x hx => ⟨B x hx, by have := (le_sum B).2 x hx; omega⟩⟩ ?_ ?_
                · rintro i σ G1 hi ⟨x6, x10, x11, ns, rfl, c, A, B⟩
                  rw [Int.zero_add]
                  have hi : i < ns.length := by omega
                  obtain ⟨st6, e6, ok6⟩ := c.hp
                  refine ⟨_, rfl, _, rfl, p, st6, n, rfl, pos, dn, e6, ok6, fun o st7 o0 o1 ok7 => ?_⟩
                  have c7 := c.draw nLp ok7
                  obtain ⟨o, rfl⟩ : ∃ o' : Nat, o = (o' : Nat) := ⟨o.toNat, by omega⟩
                  generalize upd G1 p (.lst st7) = G7 at c7 ⊢
                  have ho : o < ns.length := by omega
                  have at1 : ∀ {ms : List Int} {j : Nat} (h : j < ms.length), atI (ms.map V.int) ((j : Nat) : Int) = some (V.int ms[j]) := fun {ms j} h => atI_nat (by rw [List.getElem?_map, List.getElem?_eq_getElem h]; rfl)
                  refine ⟨_, rfl, _, rfl, L, _, _, _, rfl, rfl, SqL.of c7.hl, at1 hi, ?_⟩
                  refine ⟨_, rfl, _, rfl, L, _, _, _, rfl, rfl, SqL.of c7.hl, at1 ho, ?_⟩
                  refine ⟨_, rfl, _, rfl, L, _, (i : Nat), i, rfl, rfl, c7.hl, ixN_nat (by rw [List.length_map]; exact hi), ?_⟩
                  rw [← List.map_set]
                  have c9 := c7.put nLp hL0 (ns.set i ns[o])
                  refine ⟨_, rfl, _, rfl, _, rfl, L, _, (o : Nat), o, rfl, rfl, c9.hl, ixN_nat (by rw [List.length_map, List.length_set]; exact ho), ?_⟩
                  rw [← List.map_set]
                  refine ⟨_, _, _, _, rfl, c9.put nLp hL0 _, by rw [List.length_set, List.length_set]; exact A, fun x hx => ?_⟩
                  rcases mem_set hx with hx | rfl
                  · rcases mem_set hx with hx | rfl
                    · exact B x hx
                    · exact B _ (List.getElem_mem ho)
                  · exact B _ (List.getElem_mem hi)
                · rintro σ G1 ⟨x6, x10, x11, ns, rfl, c, A, B⟩
                  obtain ⟨st', e, ok'⟩ := c.hp
                  refine ⟨_, rfl, q _ L ns st' c.bt e ok' hL0 c.hl ⟨by omega, fun x hx => ⟨(B x hx).1, ?_⟩⟩⟩
                  have := (B x hx).2
                  show x ≤ 1000000000000000000000000000000
                  omega
            · obtain ⟨st', e, ok'⟩ := c.hp
              refine ⟨_, rfl, p, st', 4, rfl, by decide, by decide, e, ok', fun v st5 _ _ ok5 => ⟨_, _, rfl, rfl, _, rfl, ite2 (fun _ => ?_) (fun _ => ?_)⟩⟩
              · refine ⟨_, rfl, _, rfl, p, st5, n, rfl, pos, dn, upd_same, ok5, fun pl st6 p0 p1 ok6 => ?_⟩
                have c6 := (c.draw nLp ok5).draw nLp ok6
                obtain ⟨pl, rfl⟩ : ∃ o' : Nat, pl = (o' : Nat) := ⟨pl.toNat, by omega⟩
                generalize upd (upd H' p (.lst st5)) p (.lst st6) = G6 at c6 ⊢
                have hpl : pl < ns.length := by omega
                refine ⟨_, rfl, _, rfl, L, _, _, _, rfl, rfl, SqL.of c6.hl, atI_nat (by rw [List.getElem?_map, List.getElem?_eq_getElem hpl]; rfl), _, rfl, r, row, rfl, SqL.of (hrC c6), _, _, rfl, rfl, _, rfl, L, ns, rfl, SqL.of c6.hl, _, _, rfl, rfl, ?_⟩
                refine ⟨_, rfl, _, rfl, L, _, (pl : Nat), pl, rfl, rfl, c6.hl, ixN_nat (by rw [List.length_map]; exact hpl), ?_⟩
                rw [← List.map_set]
                refine next _ _ ⟨_, _, rfl, c6.put nLp hL0 _, by rw [List.length_set]; exact A, fun x hx => ?_, ?_⟩
                · rcases mem_set hx with hx | rfl
                  · exact B x hx
                  · have := B _ (List.getElem_mem hpl); omega
                · rw [sum_set (List.getElem?_eq_getElem hpl)]; omega
              · exact next _ _ ⟨_, ns, rfl, c.draw nLp ok5, A, B, by omega⟩
      · refine ⟨_, rfl, p, st2, 4, rfl, by decide, by decide, upd_same, ok2, fun v st3 _ _ ok3 => ⟨rfl, _, rfl, ite2 (fun _ => ?_) (fun _ => ?_)⟩⟩
        · rw [upd_upd]
          refine ⟨_, _, rfl, rfl, ⟨by decide, by decide, by decide⟩, _, _, rfl, rfl, by show 4 ≤ sizeLine; decide, fun z hz => ?_⟩
          have nzp : z ≠ p := fun e => by rw [e, upd_same] at hz; cases hz
          have sz := Same.new (o := .lst [V.int 6, .int 6, .int 6, .int (10 ^ (30 : Int).toNat + 1)]) hz
          refine ⟨_, rfl, p, st3, 4, rfl, by decide, by decide, sz _ _ upd_same, ok3, fun u st4 u0 u1 ok4 => ?_⟩
          obtain ⟨mo, hmo, hat⟩ := pick (ms := [6, 6, 6, 10 ^ (30 : Int).toNat + 1]) u0 u1
          have mob : 0 < mo ∧ mo ≤ top + 1 := by
            simp at hmo
            rcases hmo with rfl | rfl
            · exact ⟨by decide, by decide⟩
            · exact ⟨by decide, by decide⟩
          have hz4 : upd (upd (upd H p (.lst st3)) z (.lst [V.int 6, .int 6, .int 6, .int (10 ^ (30 : Int).toNat + 1)])) p (.lst st4) z = some (.lst [V.int 6, .int 6, .int 6, .int (10 ^ (30 : Int).toNat + 1)]) := by rw [upd_ne nzp, upd_same]
          refine ⟨z, _, u, V.int mo, rfl, rfl, SqL.of hz4, hat, ?_⟩
          have b4 : But p H (upd (upd (upd H p (.lst st3)) z (.lst [V.int 6, .int 6, .int 6, .int (10 ^ (30 : Int).toNat + 1)])) p (.lst st4)) := (But.set.trans (.of sz)).trans .set
          have hp4 : upd (upd (upd H p (.lst st3)) z (.lst [V.int 6, .int 6, .int 6, .int (10 ^ (30 : Int).toNat + 1)])) p (.lst st4) p = some (.lst st4) := upd_same
          generalize upd (upd (upd H p (.lst st3)) z (.lst [V.int 6, .int 6, .int 6, .int (10 ^ (30 : Int).toNat + 1)])) p (.lst st4) = G at b4 hp4 ⊢
          refine ⟨_, rfl, (n : Nat), rfl, by omega, by omega, fun D hD => ?_⟩
          have nDp : D ≠ p := fun z => by rw [z, hp4] at hD; cases hD
          have hD0 : H D = none := by
            cases e : H D with
            | none => rfl
            | some o => rw [b4 D o nDp e] at hD; cases hD
          refine lc_range (lo := 0) (n := ((n : Nat) : Int).toNat) (fun i H' => ∃ (es : List Int) (st' : List V), But p H H' ∧ H' p = some (.lst st') ∧ PoolOk st' ∧ H' D = some (.lst (es.map V.int)) ∧ es.length = i ∧ ∀ x ∈ es, 0 ≤ x ∧ x ≤ top) ⟨[], st4, b4.trans (.of (.new hD)), Same.new hD _ _ hp4, ok4, upd_same, rfl, fun x hx => by cases hx⟩ (fun i H' hi z => ?_) (fun H' z => ?_)
          · obtain ⟨es, st', bt, hp', ok', hl, hn, hb⟩ := z
            refine ⟨rfl, yesT ?_⟩
            refine ⟨_, rfl, _, rfl, p, st', mo, rfl, mob.1, draw_ok mob.1 (by have := mob.2; have t2 : top + 1 < 2 ^ 190 := by decide
                                                                              omega), hp', ok', fun u st4 u0 u1 ok4 => ?_⟩
            refine ⟨es.map V.int, by rw [upd_ne nDp]; exact hl, by rw [List.length_map, sizeLine_eq]; omega, es ++ [u], st4, fun b o nb eb => ?_, by rw [upd_ne (Ne.symm nDp), upd_same], ok4, by rw [upd_same, List.map_append]; rfl, by rw [List.length_append, hn]; rfl, fun x hx => ?_⟩
            · rw [upd_ne (fun z => by rw [z, hD0] at eb; cases eb), upd_ne nb]
              exact bt _ _ nb eb
            · rcases List.mem_append.mp hx with hx | hx
              · exact hb x hx
              · rw [List.mem_singleton.mp hx]; have := mob.2; omega
          · obtain ⟨es, st', bt, hp', ok', hl, hn, hb⟩ := z
            exact q H' D es st' bt hp' ok' hD0 hl ⟨by omega, hb⟩
        · rw [upd_upd]
          exact next _ _ ⟨st3, rfl, rfl, ok3⟩
    · refine ⟨_, rfl, p, st1, 6, rfl, by decide, by decide, upd_same, ok1, fun v st2 _ _ ok2 => ⟨rfl, _, rfl, ite2 (fun _ => ?_) (fun _ => ?_)⟩⟩
      · refine ⟨_, rfl, p, st2, 31, rfl, by decide, by decide, upd_same, ok2, fun m st3 m0 m1 ok3 => ?_⟩
        obtain ⟨n, rfl⟩ : ∃ n : Nat, m = (n : Nat) := ⟨m.toNat, by omega⟩
        exact next _ _ ⟨n, st3, rfl, by omega, by rw [upd_upd, upd_upd], ok3⟩
      · obtain ⟨n, rfl⟩ : ∃ n : Nat, m0 = (n : Nat) := ⟨m0.toNat, by omega⟩
        exact next _ _ ⟨n, st2, rfl, by omega, by rw [upd_upd], ok2⟩
end
end K34

set_option maxRecDepth 100000
set_option maxHeartbeats 8000000
namespace K34
open PySem PySem.Spec PyProof.Rows L2 WT
section
variable {w : World} {K : PySem.W.Frag} {mg : Str → Option Value} {base : Heap}
def spBentR (K : PySem.W.Frag) : Sp := fun vs H Q _ => ∃ (p r : Addr) (st : List V) (row : List Int), vs = [.ref p, .ref r] ∧ H p = some (.lst st) ∧ PoolOk st ∧ r ≠ p ∧ H r = some (.lst (row.map V.int)) ∧ row.length ≤ 2000 ∧ NewRow p H (fun ns => ns.length ≤ 2001) Q
theorem ok_law_bent_row (T : Tx K mg) : Ok PG w K mg base CX0 3 (a_law_bent_row K) p_law_bent_row (spBentR K) := by
  refine Ok.of 2 T.f_law_bent_row sc_law_bent_row bi_law_bent_row (by decide) (fun vs H Q E h => ?_) (fun cdv A outer s H vs Q E hr h => ?_)
  · obtain ⟨_, _, _, _, rfl, _⟩ := h
    rfl
  · obtain ⟨p, r, st, row, rfl, hp, ok, nrp, hrw, lr, q⟩ := h
    have nd := sc_law_bent_row.nd
    refine ⟨_, pss_cons (ps_set (i := 2) nd rfl (.inl rfl) (pe_callTy call_list_of (by rfl) T.m_list (by decide +kernel) (pa_cons (pv 1) pa_nil)))
      (pss_cons (ps_set (i := 3) nd rfl (.inl rfl) (pc (ok_law_draw T) hr T.g_law_draw pass0 (pa_cons (pv 0) (pa_cons pe_int pa_nil))))
      (pss_cons (ps_set (i := 4) nd rfl (.inl rfl) (pc (ok_law_draw T) hr T.g_law_draw pass0 (pa_cons (pv 0) (pa_cons (pe_op op_add (pe_callB call_len_seq (by rfl) T.m_len PySem.boot_len (pa_cons (pv 1) pa_nil)) pe_int) pa_nil))))
      (pss_cons (ps_if (PW.pt (pw_and (pt_cmpR op_lt (pv 3) pe_int (nomark _)) (pw_and1 (pt_cmpR op_eq (pv 4) (pe_callB call_len_seq (by rfl) T.m_len PySem.boot_len (pa_cons (pv 1) pa_nil)) (nomark _))))) (pss_one (ps_expr (pe_bm PySem.F.plainAttrs_list PySem.F.slot_list_append PySem.F.type_list_append mt_append (pv 2) (pa_cons pe_int pa_nil)))) (pss_one (ps_if (pt_cmpR op_eq (pv 3) pe_int (nomark _)) (pss_one (ps_asg pe_int (pg_sub (pv 2) (pv 4) set_list))) (pss_one (ps_if (pt_cmpR op_eq (pv 3) pe_int (nomark _)) (pss_one (ps_asg (pe_un un_neg pe_int) (pg_sub (pv 2) (pv 4) set_list))) (pss_one (ps_if (PW.pt (pw_and (pt_cmpR op_eq (pv 3) pe_int (nomark _)) (pw_and (pt_cmpR op_gt (pv 4) pe_int (nomark _)) (pw_and1 (pt_cmpR op_le (pe_callB (cr_sum rfl) (by rfl) T.m_sum (by decide +kernel) (pa_cons (pv 1) pa_nil)) pe_int (nomark _)))))) (pss_one (ps_asg (pe_op op_add (pe_ix ix_list (pv 2) (pe_op op_sub (pv 4) pe_int) (fun _ _ => rfl)) pe_int) (pg_sub (pv 2) (pv 4) set_list))) pss_nil)))))))
      (pss_one (ps_ret (pv 2)))))), ?_⟩
    refine ⟨_, rfl, r, _, rfl, .inl (SqL.of hrw), fun L hL => ?_⟩
    have nLp : L ≠ p := fun z => by rw [z, hp] at hL; cases hL
    have c0 : Cur p L H (upd H L (.lst (row.map V.int))) row := ⟨.of (.new hL), ⟨st, by rw [upd_ne (Ne.symm nLp)]; exact hp, ok⟩, upd_same⟩
    generalize upd H L (.lst (row.map V.int)) = G0 at c0 ⊢
    obtain ⟨st1, e1, ok1⟩ := c0.hp
    refine ⟨_, rfl, p, st1, 24, rfl, by decide, by decide, e1, ok1, fun way st2 w0 w1 ok2 => ?_⟩
    have c2 := c0.draw nLp ok2
    refine ⟨_, rfl, _, rfl, r, _, rfl, .inl (SqL.of (c2.bt _ _ nrp hrw)), ?_⟩
    rw [List.length_map]
    refine ⟨_, _, rfl, rfl, p, st2, _, rfl, by omega, draw_ok (by omega) (by omega), upd_same, ok2, fun pl st3 p0 p1 ok3 => ?_⟩
    have c3 := c2.draw nLp ok3
    obtain ⟨pl, rfl⟩ : ∃ n : Nat, pl = (n : Nat) := ⟨pl.toNat, by omega⟩
    generalize upd (upd G0 p (.lst st2)) p (.lst st3) = G3 at c3 ⊢
    refine seqQ (fun σ' H' => σ' = [some (.ref p), some (.ref r), some (.ref L), some (.int way), some (.int (pl : Nat))] ∧ G3 = H') (fun σ' H' z => ?_) (fun next => next _ _ ⟨rfl, rfl⟩)
    obtain ⟨rfl, rfl⟩ := z
    refine seqQ (fun σ' H' => ∃ ns, σ' = [some (.ref p), some (.ref r), some (.ref L), some (.int way), some (.int (pl : Nat))] ∧ Cur p L H H' ns ∧ ns.length ≤ 2001) (fun σ' H' z => ?_) (fun next => ?_)
    · obtain ⟨ns, rfl, c, ln⟩ := z
      obtain ⟨st', e, ok'⟩ := c.hp
      exact ⟨_, rfl, q _ L ns st' c.bt e ok' hL c.hl ln⟩
    · have fin := fun (j : Nat) (v : Int) (hj : j < row.length) => next _ (upd G3 L (.lst ((row.map V.int).set j (V.int v)))) ⟨row.set j v, rfl, (by have z := c3.put nLp hL (row.set j v); rwa [List.map_set] at z), by rw [List.length_set]; omega⟩
      have ix : ∀ (j : Nat), j < row.length → ixN (row.map V.int).length ((j : Nat) : Int) = some j := fun j hj => ixN_nat (by rw [List.length_map]; exact hj)
      have stay := next _ G3 ⟨row, rfl, c3, by omega⟩
      refine ⟨_, rfl, _, _, rfl, rfl, _, rfl, ite2 (fun cw => ?_) (fun cw => ?_)⟩
      · refine ⟨_, rfl, _, rfl, r, _, rfl, .inl (SqL.of (c3.bt _ _ nrp hrw)), ?_⟩
        rw [List.length_map]
        refine ⟨rfl, _, rfl, ite2 (fun cp => ?_) (fun cp => ?_)⟩
        · refine ⟨_, rfl, .inl ⟨rfl, _, SqL.of c3.hl⟩, L, _, _, rfl, rfl, c3.hl, by rw [List.length_map, sizeLine_eq]; omega, ?_⟩
          have z := next _ _ ⟨row ++ [0], rfl, c3.put nLp hL (row ++ [0]), by rw [List.length_append]; show _ + 1 ≤ _; omega⟩
          rw [List.map_append] at z
          exact z
        · have cp : pl ≠ row.length := by
            have : ¬ ((pl : Nat) : Int) = (row.length : Nat) := by simpa using cp
            omega
          have hj : pl < row.length := by omega
          refine ⟨_, rfl, rfl, _, rfl, ite2 (fun _ => ?_) (fun _ => ?_)⟩
          · exact ⟨_, rfl, _, rfl, L, _, (pl : Nat), pl, rfl, rfl, c3.hl, ix pl hj, fin pl 0 hj⟩
          · refine ⟨_, rfl, rfl, _, rfl, ite2 (fun _ => ?_) (fun _ => ?_)⟩
            · exact ⟨3, rfl, _, rfl, _, rfl, L, _, (pl : Nat), pl, rfl, rfl, c3.hl, ix pl hj, fin pl (-3) hj⟩
            · refine ⟨_, rfl, rfl, _, rfl, ite2 (fun _ => ?_) (fun _ => stay)⟩
              refine ⟨_, rfl, _, _, rfl, rfl, _, rfl, ite2 (fun cz => ?_) (fun _ => stay)⟩
              have cz : ((pl : Nat) : Int) > 0 := of_decide_eq_true cz
              refine ⟨_, rfl, r, row, rfl, SqL.of (c3.bt _ _ nrp hrw), _, _, rfl, rfl, _, rfl, ite2 (fun _ => ?_) (fun _ => stay)⟩
              obtain ⟨k, rfl⟩ : ∃ k, pl = k + 1 := ⟨pl - 1, by omega⟩
              have hk : k < row.length := by omega
              refine ⟨_, rfl, _, rfl, _, _, rfl, rfl, L, _, _, _, rfl, rfl, SqL.of c3.hl, (by rw [show ((k + 1 : Nat) : Int) - 1 = (k : Nat) by omega]; exact atI_nat (by rw [List.getElem?_map, List.getElem?_eq_getElem hk]; rfl)), _, _, rfl, rfl, ?_⟩
              exact ⟨_, rfl, _, rfl, L, _, ((k + 1 : Nat) : Int), k + 1, rfl, rfl, c3.hl, ix (k + 1) hj, fin (k + 1) _ hj⟩
      · have cw : 3 ≤ way := by have := dno' cw; omega
        refine ⟨_, rfl, rfl, _, rfl, ite2 (fun c => ?_) (fun _ => ?_)⟩
        · exact absurd c (by simp; omega)
        · refine ⟨_, rfl, rfl, _, rfl, ite2 (fun c => ?_) (fun _ => ?_)⟩
          · exact absurd c (by simp; omega)
          · refine ⟨_, rfl, rfl, _, rfl, ite2 (fun c => ?_) (fun _ => stay)⟩
            exact absurd c (by simp; omega)
def spBentN (K : PySem.W.Frag) : Sp := fun vs H Q _ => ∃ (p r : Addr) (st : List V) (row : List Int), vs = [.ref p, .ref r] ∧ H p = some (.lst st) ∧ PoolOk st ∧ r ≠ p ∧ H r = some (.lst (row.map V.int)) ∧ row.length ≤ 30 ∧ NewRow p H (fun ns => ns.length ≤ 40) Q
theorem ok_law_bent_numbers (T : Tx K mg) : Ok PG w K mg base CX0 3 (a_law_bent_numbers K) p_law_bent_numbers (spBentN K) := by
  refine Ok.of 2 T.f_law_bent_numbers sc_law_bent_numbers bi_law_bent_numbers (by decide) (fun vs H Q E h => ?_) (fun cdv A outer s H vs Q E hr h => ?_)
  · obtain ⟨_, _, _, _, rfl, _⟩ := h
    rfl
  · obtain ⟨p, r, st, row, rfl, hp, ok, nrp, hrw, lr, q⟩ := h
    have nd := sc_law_bent_numbers.nd
    refine ⟨_, pss_cons (ps_set (i := 2) nd rfl (.inl rfl) (pe_callTy call_list_of (by rfl) T.m_list (by decide +kernel) (pa_cons (pv 1) pa_nil)))
      (pss_cons (ps_if (pt_cmpR op_eq (pc (ok_law_draw T) hr T.g_law_draw pass0 (pa_cons (pv 0) (pa_cons pe_int pa_nil))) pe_int (nomark _)) (pss_one (ps_set (i := 2) nd rfl (.inl rfl) (pe_op op_cat (pv 2) (pe_op op_rep (pe_lst (pa_cons pe_int pa_nil)) (pe_op op_sub (pe_op op_add pe_int (pc (ok_law_draw T) hr T.g_law_draw pass0 (pa_cons (pv 0) (pa_cons pe_int pa_nil)))) (pe_callB call_len_seq (by rfl) T.m_len PySem.boot_len (pa_cons (pv 2) pa_nil))))))) pss_nil)
      (pss_cons (ps_set (i := 3) nd rfl (.inl rfl) (pc (ok_law_draw T) hr T.g_law_draw pass0 (pa_cons (pv 0) (pa_cons pe_int pa_nil))))
      (pss_cons (ps_if (PW.pt (pw_and (pt_cmpR op_lt (pv 3) pe_int (nomark _)) (pw_and1 (pt_cmpR op_gt (pe_callB call_len_seq (by rfl) T.m_len PySem.boot_len (pa_cons (pv 2) pa_nil)) pe_int (nomark _))))) (pss_cons (ps_set (i := 4) nd rfl (.inl rfl) (pc (ok_law_draw T) hr T.g_law_draw pass0 (pa_cons (pv 0) (pa_cons (pe_callB call_len_seq (by rfl) T.m_len PySem.boot_len (pa_cons (pv 2) pa_nil)) pa_nil))))
        (pss_cons (ps_asg (pe_un un_neg pe_int) (pg_sub (pv 2) (pv 4) set_list))
        (pss_one (ps_if (pt_cmpR op_eq (pv 3) pe_int (nomark _)) (pss_one (ps_asg (pe_op op_add (pe_op op_pow pe_int pe_int) pe_int) (pg_sub (pv 2) (pv 4) set_list))) pss_nil)))) pss_nil)
      (pss_one (ps_ret (pv 2)))))), ?_⟩
    refine seqQ (fun σ' H' => ∃ L, σ' = [some (.ref p), some (.ref r), some (.ref L), none, none] ∧ L ≠ p ∧ H L = none ∧ Cur p L H H' row) (fun σ' H1 z => ?_) (fun next => ⟨_, rfl, r, _, rfl, .inl (SqL.of hrw), fun L hL => ?_⟩)
    · obtain ⟨L, rfl, nLp, hL, c⟩ := z
      refine seqQ (fun σ' H' => ∃ L ns, σ' = [some (.ref p), some (.ref r), some (.ref L), none, none] ∧ L ≠ p ∧ H L = none ∧ Cur p L H H' ns ∧ ns.length ≤ 40) (fun σ' H2 z => ?_) (fun next => ?_)
      · obtain ⟨L, ns, rfl, nLp, hL, c, ln⟩ := z
        obtain ⟨st1, e1, ok1⟩ := c.hp
        refine ⟨_, rfl, p, st1, 16, rfl, by decide, by decide, e1, ok1, fun way st2 w0 w1 ok2 => ?_⟩
        have c2 := c.draw nLp ok2
        refine seqQ (fun σ' H' => σ' = [some (.ref p), some (.ref r), some (.ref L), some (.int way), none] ∧ upd H2 p (.lst st2) = H') (fun σ' H' z => ?_) (fun next => next _ _ ⟨rfl, rfl⟩)
        obtain ⟨rfl, rfl⟩ := z
        generalize upd H2 p (.lst st2) = G2 at c2 ⊢
        refine seqQ (fun σ' H' => ∃ x4 ns, σ' = [some (.ref p), some (.ref r), some (.ref L), some (.int way), x4] ∧ Cur p L H H' ns ∧ ns.length ≤ 40) (fun σ' H3 z => ?_) (fun next => ?_)
        · obtain ⟨x4, ns, rfl, c, ln⟩ := z
          obtain ⟨st', e, ok'⟩ := c.hp
          exact ⟨_, rfl, q _ L ns st' c.bt e ok' hL c.hl ln⟩
        · have stay := next _ G2 ⟨none, ns, rfl, c2, ln⟩
          refine ⟨_, rfl, _, _, rfl, rfl, _, rfl, ite2 (fun cw => ?_) (fun _ => stay)⟩
          refine ⟨_, rfl, L, _, rfl, .inl (SqL.of c2.hl), _, _, rfl, rfl, _, rfl, ?_⟩
          rw [List.length_map]
          refine ite2 (fun cl => ?_) (fun _ => stay)
          have cl : (ns.length : Int) > 0 := of_decide_eq_true cl
          obtain ⟨st3, e3, ok3⟩ := c2.hp
          refine ⟨_, rfl, _, rfl, L, _, rfl, .inl (SqL.of c2.hl), p, st3, _, rfl, by rw [List.length_map]; omega, by rw [List.length_map]; exact draw_ok (by omega) (by omega), e3, ok3, fun pl st4 p0 p1 ok4 => ?_⟩
          rw [List.length_map] at p1
          have c4 := c2.draw nLp ok4
          obtain ⟨pl, rfl⟩ : ∃ n : Nat, pl = (n : Nat) := ⟨pl.toNat, by omega⟩
          have hj : pl < ns.length := by omega
          refine ⟨1, rfl, _, rfl, _, rfl, L, _, (pl : Nat), pl, rfl, rfl, c4.hl, ixN_nat (by rw [List.length_map]; exact hj), ?_⟩
          rw [← List.map_set]
          have c5 := c4.put nLp hL (ns.set pl (-1))
          refine ⟨_, rfl, rfl, _, rfl, ite2 (fun _ => ?_) (fun _ => ?_)⟩
          · refine ⟨_, _, rfl, rfl, ⟨by decide, by decide, by decide⟩, _, _, rfl, rfl, _, rfl, _, rfl, L, _, (pl : Nat), pl, rfl, rfl, c5.hl, ixN_nat (by rw [List.length_map, List.length_set]; exact hj), ?_⟩
            rw [← List.map_set]
            exact next _ _ ⟨_, _, rfl, c5.put nLp hL _, by rw [List.length_set, List.length_set]; exact ln⟩
          · exact next _ _ ⟨_, _, rfl, c5, by rw [List.length_set]; exact ln⟩
      · obtain ⟨st1, e1, ok1⟩ := c.hp
        refine ⟨_, rfl, p, st1, 8, rfl, by decide, by decide, e1, ok1, fun v st2 _ _ ok2 => ⟨rfl, _, rfl, ite2 (fun _ => ?_) (fun _ => ?_)⟩⟩
        · have c2 := c.draw nLp ok2
          have hp2 : upd H1 p (.lst st2) p = some (.lst st2) := upd_same
          generalize upd H1 p (.lst st2) = G2 at c2 hp2 ⊢
          refine ⟨_, rfl, by show 1 ≤ sizeLine; decide, fun z hz => ?_⟩
          have nzp : z ≠ p := fun e => by rw [e, hp2] at hz; cases hz
          have s3 := Same.new (o := .lst [V.int 1]) hz
          refine ⟨_, rfl, p, st2, 3, rfl, by decide, by decide, s3 _ _ hp2, ok2, fun u st4 u0 u1 ok4 => ⟨_, _, rfl, rfl, ?_⟩⟩
          have hL4 : upd (upd G2 z (.lst [V.int 1])) p (.lst st4) L = some (.lst (row.map V.int)) := by rw [upd_ne nLp]; exact s3 _ _ c2.hl
          have hz4 : upd (upd G2 z (.lst [V.int 1])) p (.lst st4) z = some (.lst [V.int 1]) := by rw [upd_ne nzp, upd_same]
          have b4 : But p H (upd (upd G2 z (.lst [V.int 1])) p (.lst st4)) := (c2.bt.trans (.of s3)).trans .set
          have hp4 : upd (upd G2 z (.lst [V.int 1])) p (.lst st4) p = some (.lst st4) := upd_same
          generalize upd (upd G2 z (.lst [V.int 1])) p (.lst st4) = G4 at hL4 hz4 b4 hp4 ⊢
          refine ⟨_, rfl, L, _, rfl, .inl (SqL.of hL4), _, _, rfl, rfl, ?_⟩
          rw [List.length_map]
          refine ⟨z, _, _, rfl, rfl, hz4, by omega, by omega, by rw [sizeLine_eq]; show 1 * _ ≤ _; omega, fun R hR => ?_⟩
          rw [flat_one]
          have s5 := Same.new (o := .lst (List.replicate (31 + u - (row.length : Int)).toNat (V.int 1))) hR
          refine ⟨L, R, _, _, rfl, rfl, s5 _ _ hL4, upd_same, by rw [List.length_map, List.length_replicate, sizeLine_eq]; omega, fun M hM => ?_⟩
          have s6 := s5.new' (o := .lst (row.map V.int ++ List.replicate (31 + u - (row.length : Int)).toNat (V.int 1))) hM
          have nMp : M ≠ p := fun e => by rw [e, s5 _ _ hp4] at hM; cases hM
          have hM4 : G4 M = none := s5.free hM
          refine next _ _ ⟨M, row ++ List.replicate (31 + u - (row.length : Int)).toNat 1, rfl, nMp, ?_, ⟨b4.trans (.of s6), ⟨st4, s6 _ _ hp4, ok4⟩, by rw [upd_same]; simp⟩, by rw [List.length_append, List.length_replicate]; omega⟩
          cases e : H M with
          | none => rfl
          | some o => rw [b4 M o nMp e] at hM4; cases hM4
        · exact next _ _ ⟨L, row, rfl, nLp, hL, c.draw nLp ok2, by omega⟩
    · have nLp : L ≠ p := fun z => by rw [z, hp] at hL; cases hL
      exact next _ _ ⟨L, rfl, nLp, hL, .of (.new hL), ⟨st, by rw [upd_ne (Ne.symm nLp)]; exact hp, ok⟩, upd_same⟩
end
end K34

set_option maxRecDepth 100000
set_option maxHeartbeats 4000000
/-! # rows of numbers: ==, != -/
namespace L2
open PySem PySem.Spec PyProof.Rows
theorem dp_ints {K : PySem.W.Frag} {H : Hp} : ∀ (ns : List Int), DpAll K H (ns.map V.int) (ns.map PyData.int)
  | [] => .nil
  | n :: ns => .cons (.int n) (dp_ints ns)
theorem eqvAll_ints : ∀ (ns ms : List Int), PyData.eqvAll (ns.map PyData.int) (ms.map PyData.int) = decide (ns = ms)
  | [], [] => rfl
  | [], _ :: _ => rfl
  | _ :: _, [] => rfl
  | n :: ns, m :: ms => by
    rw [List.map_cons, List.map_cons, PyData.eqvAll, eqvAll_ints ns ms]
    show (decide (n = m) && decide (ns = ms)) = _
    by_cases h : n = m <;> by_cases h' : ns = ms <;> simp [h, h']
theorem shaped_tup (ns : List Int) : SeqAt.shaped (.tuple (ns.map PyData.int)) = true := by
  simp [SeqAt.shaped, PyData.canLay0, PyData.depth, PySem.W.ke_canLayAll0, PySem.W.ke_depthAll]
theorem shaped_lst (ns : List Int) : SeqAt.shaped (.list (ns.map PyData.int)) = true := by
  simp [SeqAt.shaped, PyData.canLay0, PyData.depth, PySem.W.ke_canLayAll0, PySem.W.ke_depthAll]
section
variable {X : Cx}
/-- two rows of numbers, both tuples or both lists -/
def rEqRow (K : PySem.W.Frag) (neg : Bool) : R2 := fun x y H Q => ∃ (a b : Addr) (ns ms : List Int), x = .ref a ∧ y = .ref b ∧ ((SqT K H a (ns.map V.int) ∧ SqT K H b (ms.map V.int)) ∨ (SqL K H a (ns.map V.int) ∧ SqL K H b (ms.map V.int))) ∧ Q (.bl (if neg = true then !decide (ns = ms) else decide (ns = ms))) H
theorem op_eqRow (hu : X.A.units + 64 < cLine) : OpR X (compareOp .Eq) (rEqRow X.K false) := by
  intro pins s σ H x y v u Q I rx ry h
  obtain ⟨a, b, ns, ms, rfl, rfl, hs, q⟩ := h
  rcases hs with ⟨h1, h2⟩ | ⟨h1, h2⟩
  · refine op_eqD hu pins s σ H _ _ v u Q I rx ry ⟨.tuple (ns.map PyData.int), .tuple (ms.map PyData.int), .tup h1 (dp_ints ns), .tup h2 (dp_ints ms), shaped_tup ns, shaped_tup ms, ?_⟩
    rw [PyData.eqv, eqvAll_ints]
    exact q
  · refine op_eqD hu pins s σ H _ _ v u Q I rx ry ⟨.list (ns.map PyData.int), .list (ms.map PyData.int), .lst h1 (dp_ints ns), .lst h2 (dp_ints ms), shaped_lst ns, shaped_lst ms, ?_⟩
    rw [PyData.eqv, eqvAll_ints]
    exact q
theorem op_neRow (hu : X.A.units + 64 < cLine) : OpR X (compareOp .NotEq) (rEqRow X.K true) := by
  intro pins s σ H x y v u Q I rx ry h
  obtain ⟨a, b, ns, ms, rfl, rfl, hs, q⟩ := h
  rcases hs with ⟨h1, h2⟩ | ⟨h1, h2⟩
  · refine op_neD hu pins s σ H _ _ v u Q I rx ry ⟨.tuple (ns.map PyData.int), .tuple (ms.map PyData.int), .tup h1 (dp_ints ns), .tup h2 (dp_ints ms), shaped_tup ns, shaped_tup ms, ?_⟩
    rw [PyData.eqv, eqvAll_ints]
    exact q
  · refine op_neD hu pins s σ H _ _ v u Q I rx ry ⟨.list (ns.map PyData.int), .list (ms.map PyData.int), .lst h1 (dp_ints ns), .lst h2 (dp_ints ms), shaped_lst ns, shaped_lst ms, ?_⟩
    rw [PyData.eqv, eqvAll_ints]
    exact q
end
end L2

set_option maxRecDepth 100000
set_option maxHeartbeats 8000000
namespace K34
open PySem PySem.Spec PyProof.Rows L2 WT
inductive Fau where
  | fall (i : Nat)
  | long
  | bad (i : Nat) (n : Int)
  | none
def FauOk (row ns : List Int) : Fau → Prop
  | .fall i => Wrong row i
  | .long => Fall row ∧ 30 < ns.length
  | .bad i n => Fall row ∧ ns.length ≤ 30 ∧ K34.bad top 0 ns = some (i, n)
  | .none => Fall row ∧ ns.length ≤ 30 ∧ K34.bad top 0 ns = Option.none
abbrev tellF (ns : List Int) : Fau → List V
  | .fall i => [.str "NotFalling", .int ((i : Nat) : Int), .bl true, .bl true, .bl false, .bl false]
  | .long => [.str "TooLong", .int ((ns.length : Nat) : Int), .bl true, .bl true, .bl false, .bl false]
  | .bad i n => [.str "BadNumber", .int ((i : Nat) : Int), .int n, .bl true, .bl true, .bl false, .bl false]
  | .none => [.str "none"]
section
variable {w : World} {K : PySem.W.Frag} {mg : Str → Option Value} {base : Heap}
theorem at1 {ms : List Int} {j : Nat} (h : j < ms.length) : atI (ms.map V.int) ((j : Nat) : Int) = some (V.int ms[j]) := atI_nat (by rw [List.getElem?_map, List.getElem?_eq_getElem h]; rfl)
def spFault (K : PySem.W.Frag) : Sp := fun vs H Q _ => ∃ (r a : Addr) (row ns : List Int), vs = [.ref r, .ref a] ∧ SqL K H r (row.map V.int) ∧ SqL K H a (ns.map V.int) ∧ row.length ≤ 3000 ∧ ns.length ≤ 3000 ∧
  ∀ F t, FauOk row ns F → H t = none → Q (.ref t) (upd H t (.tup (tellF ns F)))
theorem ok_law_fault (T : Tx K mg) : Ok PG w K mg base CX0 2 (a_law_fault K) p_law_fault (spFault K) := by
  refine Ok.of 1 T.f_law_fault sc_law_fault bi_law_fault (by decide) (fun vs H Q E h => ?_) (fun cdv A outer s H vs Q E hr h => ?_)
  · obtain ⟨_, _, _, _, rfl, _⟩ := h
    rfl
  · obtain ⟨r, a, row, ns, rfl, hrw, ha, lr, ln, q⟩ := h
    have nd := sc_law_fault.nd
    refine ⟨_, pss_cons (ps_for (passX rfl) rfl (pi_range1 rfl T.m_range (pa_cons (pe_callB call_len_seq (by rfl) T.m_len PySem.boot_len (pa_cons (pv 0) pa_nil)) pa_nil)) (pg_name (i := 2) nd rfl (.inl rfl))
        (pss_one (ps_if (PW.pt (pw_or (pt_cmpR op_lt (pe_ix ix_list (pv 0) (pv 2) (fun _ _ => rfl)) pe_int (nomark _)) (pw_or1 (PW.pt (pw_and (pt_cmpR op_gt (pv 2) pe_int (nomark _)) (pw_and1 (pt_cmpR op_lt (pe_ix ix_list (pv 0) (pe_op op_sub (pv 2) pe_int) (fun _ _ => rfl)) (pe_ix ix_list (pv 0) (pv 2) (fun _ _ => rfl)) (nomark _)))))))) (pss_one (ps_ret (pe_tup (pa_cons pe_str (pa_cons (pv 2) (pa_cons pe_bl (pa_cons pe_bl (pa_cons pe_bl (pa_cons pe_bl pa_nil))))))))) pss_nil)))
      (pss_cons (ps_if (pt_cmpR op_gt (pe_callB call_len_seq (by rfl) T.m_len PySem.boot_len (pa_cons (pv 1) pa_nil)) pe_int (nomark _)) (pss_one (ps_ret (pe_tup (pa_cons pe_str (pa_cons (pe_callB call_len_seq (by rfl) T.m_len PySem.boot_len (pa_cons (pv 1) pa_nil)) (pa_cons pe_bl (pa_cons pe_bl (pa_cons pe_bl (pa_cons pe_bl pa_nil))))))))) pss_nil)
      (pss_cons (ps_for (passX rfl) rfl (pi_range1 rfl T.m_range (pa_cons (pe_callB call_len_seq (by rfl) T.m_len PySem.boot_len (pa_cons (pv 1) pa_nil)) pa_nil)) (pg_name (i := 2) nd rfl (.inl rfl))
        (pss_one (ps_if (PW.pt (pw_or (pt_cmpR op_lt (pe_ix ix_list (pv 1) (pv 2) (fun _ _ => rfl)) pe_int (nomark _)) (pw_or1 (pt_cmpR op_gt (pe_ix ix_list (pv 1) (pv 2) (fun _ _ => rfl)) (pe_op op_pow pe_int pe_int) (nomark _))))) (pss_one (ps_ret (pe_tup (pa_cons pe_str (pa_cons (pv 2) (pa_cons (pe_ix ix_list (pv 1) (pv 2) (fun _ _ => rfl)) (pa_cons pe_bl (pa_cons pe_bl (pa_cons pe_bl (pa_cons pe_bl pa_nil)))))))))) pss_nil)))
      (pss_one (ps_ret (pe_tup (pa_cons pe_str pa_nil)))))), ?_⟩
    have six : 6 ≤ sizeLine := by decide
    have seven : 7 ≤ sizeLine := by decide
    refine ⟨_, rfl, r, _, rfl, .inl hrw, _, rfl, by omega, by rw [List.length_map]; omega, ?_⟩
    refine for_range (lo := 0) (n := (row.map V.int).length) (fun i σ H' => ∃ x2, σ = [some (.ref r), some (.ref a), x2] ∧ H' = H ∧ ∀ j, j < i → At row j) ⟨_, rfl, rfl, fun j hj => by omega⟩ ?_ ?_
    · rintro i σ H' hi ⟨x2, rfl, rfl, hb⟩
      rw [Int.zero_add]
      rw [List.length_map] at hi
      have e : row[i]? = some row[i] := List.getElem?_eq_getElem hi
      have no : ¬ At row i → ∀ x, H' x = none → Q (.ref x) (upd H' x (.tup (tellF ns (.fall i)))) := fun c x hx => q _ x ⟨hb, c⟩ hx
      have go : At row i → ∃ x2, [some (V.ref r), some (.ref a), some (.int ((i : Nat) : Int))] = [some (V.ref r), some (.ref a), x2] ∧ H' = H' ∧ ∀ j, j < i + 1 → At row j := fun c => ⟨_, rfl, rfl, fun j hj => by
        by_cases z : j < i
        · exact hb j z
        · obtain rfl : j = i := by omega
          exact c⟩
      refine ⟨_, rfl, _, rfl, r, _, _, _, rfl, rfl, hrw, at1 hi, _, _, rfl, rfl, _, rfl, ite2 (fun c => iteT ?_) (fun c => ?_)⟩
      · exact ⟨_, rfl, six, fun x hx => no (at_no1 e (of_decide_eq_true c)) x hx⟩
      · have c0 : 1 ≤ row[i] := by have := dno' c; omega
        refine ⟨_, rfl, _, _, rfl, rfl, _, rfl, ite2 (fun c1 => ?_) (fun c1 => ?_)⟩
        · have c1 : ((i : Nat) : Int) > 0 := of_decide_eq_true c1
          obtain ⟨k, rfl⟩ : ∃ k, i = k + 1 := ⟨i - 1, by omega⟩
          have hk : k < row.length := by omega
          refine ⟨_, rfl, _, rfl, _, _, rfl, rfl, r, _, _, _, rfl, rfl, hrw, (by rw [show ((k + 1 : Nat) : Int) - 1 = (k : Nat) by omega]; exact at1 hk), _, rfl, _, rfl, r, _, _, _, rfl, rfl, hrw, at1 hi, _, _, rfl, rfl, _, rfl, ite2 (fun c2 => ?_) (fun c2 => ?_)⟩
          · exact ⟨_, rfl, six, fun x hx => no (at_no2 e (List.getElem?_eq_getElem hk) (of_decide_eq_true c2)) x hx⟩
          · refine go (at_yes e c0 fun j m hj em => ?_)
            obtain rfl : j = k := by omega
            rw [List.getElem?_eq_getElem hk] at em
            cases em
            have := dno' c2
            omega
        · refine go (at_yes e c0 fun j m hj em => ?_)
          have := dno' c1
          omega
    · rintro σ H' ⟨x2, rfl, rfl, hb⟩
      rw [List.length_map] at hb
      have fl := fall_of hb
      refine ⟨_, rfl, a, _, rfl, .inl ha, _, _, rfl, rfl, _, rfl, ?_⟩
      rw [List.length_map]
      refine ite2 (fun c => ?_) (fun c => ?_)
      · refine ⟨_, rfl, a, _, rfl, .inl ha, ?_⟩
        rw [List.length_map]
        exact ⟨six, fun x hx => q .long x ⟨fl, by have := of_decide_eq_true c; omega⟩ hx⟩
      · have l30 : ns.length ≤ 30 := by have := dno' c; omega
        refine ⟨_, rfl, a, _, rfl, .inl ha, _, rfl, by omega, by rw [List.length_map]; omega, ?_⟩
        refine for_range (lo := 0) (n := (ns.map V.int).length) (fun i σ H2 => ∃ x2, σ = [some (.ref r), some (.ref a), x2] ∧ H2 = H' ∧ bad top (0 + i) (ns.drop i) = bad top 0 ns) ⟨_, rfl, rfl, rfl⟩ ?_ ?_
        · rintro i σ H2 hi ⟨x2, rfl, rfl, hb⟩
          rw [Int.zero_add]
          rw [List.length_map] at hi
          obtain ⟨b1, b2⟩ := bad_step hb (List.getElem?_eq_getElem hi)
          have no : ¬ (0 ≤ ns[i] ∧ ns[i] ≤ top) → ∀ x, H2 x = none → Q (.ref x) (upd H2 x (.tup (tellF ns (.bad i ns[i])))) := fun c x hx => q _ x ⟨fl, l30, by have := b2 c; rwa [Nat.zero_add] at this⟩ hx
          refine ⟨_, rfl, _, rfl, a, _, _, _, rfl, rfl, ha, at1 hi, _, _, rfl, rfl, _, rfl, ite2 (fun c => iteT ?_) (fun c => ?_)⟩
          · exact ⟨_, rfl, _, rfl, _, rfl, a, _, _, _, rfl, rfl, ha, at1 hi, seven, fun x hx => no (fun y => by have := of_decide_eq_true c; omega) x hx⟩
          · refine ⟨_, rfl, _, rfl, a, _, _, _, rfl, rfl, ha, at1 hi, _, _, rfl, rfl, ⟨by decide, by decide, by decide⟩, _, _, rfl, rfl, _, rfl, ite2 (fun c1 => ?_) (fun c1 => ?_)⟩
            · have t : (10 : Int) ^ (30 : Int).toNat = top := by decide
              exact ⟨_, rfl, _, rfl, _, rfl, a, _, _, _, rfl, rfl, ha, at1 hi, seven, fun x hx => no (fun y => by have := of_decide_eq_true c1; rw [t] at this; omega) x hx⟩
            · have t : (10 : Int) ^ (30 : Int).toNat = top := by decide
              have d1 := dno' c
              have d2 := dno' c1
              rw [t] at d2
              exact ⟨_, rfl, rfl, b1 ⟨by omega, by omega⟩⟩
        · rintro σ H2 ⟨x2, rfl, rfl, hb⟩
          rw [List.length_map] at hb
          exact ⟨by show 1 ≤ sizeLine; decide, fun x hx => q .none x ⟨fl, l30, bad_end (k := 0) hb⟩ hx⟩
def spLGF (K : PySem.W.Frag) : Sp := fun vs H Q _ => ∃ (a : Addr) (ns : List Int), vs = [.ref a] ∧ SqL K H a (ns.map V.int) ∧ ns.length ≤ 1000 ∧ ∀ H' l, Same H H' → H' l = some (.lst ((toI (gf ns ns.length)).map V.int)) → Q (.ref l) H'
theorem toI_len (l : List Nat) : (toI l).length = l.length := List.length_map _
theorem toI_take (l : List Nat) (k : Nat) : (toI l).take k = toI (l.take k) := by rw [toI, toI, List.map_take]
theorem toI_drop (l : List Nat) (k : Nat) : (toI l).drop k = toI (l.drop k) := by rw [toI, toI, List.map_drop]
theorem ok_law_greatest_first (T : Tx K mg) : Ok PG w K mg base CX0 2 (a_law_greatest_first K) p_law_greatest_first (spLGF K) := by
  refine Ok.of 1 T.f_law_greatest_first sc_law_greatest_first bi_law_greatest_first (by decide) (fun vs H Q E h => ?_) (fun cdv A outer s H vs Q E hr h => ?_)
  · obtain ⟨_, _, rfl, _⟩ := h
    rfl
  · obtain ⟨a, ns, rfl, ha, ln, q⟩ := h
    have nd := sc_law_greatest_first.nd
    refine ⟨_, pss_cons (ps_set (i := 1) nd rfl (.inl rfl) (pe_lst pa_nil))
      (pss_cons (ps_for (passX rfl) rfl (pi_range1 rfl T.m_range (pa_cons (pe_callB call_len_seq (by rfl) T.m_len PySem.boot_len (pa_cons (pv 0) pa_nil)) pa_nil)) (pg_name (i := 2) nd rfl (.inr rfl))
        (pss_cons (ps_set (i := 3) nd rfl (.inl rfl) (pe_callB call_len_seq (by rfl) T.m_len PySem.boot_len (pa_cons (pe_lc (own := [("other", 4)]) (g := gName 4) rfl nd (pi_list (pv 1)) (blkOk_by (N := n_law_greatest_first) (sc := defScope s_law_greatest_first) (by decide +kernel)) (fun _ _ _ _ _ => pg_name (i := 4) nd rfl (Or.inl rfl)) (fun _ _ _ _ _ => pts_one (pt_cmpR op_ge (pe_ix (r := rIxL K) (ta := tVar 0) (tb := tVar 4) ix_list (pv 0) (pv 4) (fun _ _ => rfl)) (pe_ix (r := rIxL K) (ta := tVar 0) (tb := tVar 2) ix_list (pv 0) (pv 2) (fun _ _ => rfl)) (nomark _))) (fun _ _ _ _ _ => pv 4)) pa_nil)))
          (pss_one (ps_set (i := 1) nd rfl (.inl rfl) (pe_op op_cat (pe_op op_cat (pe_slice sl_list (pv 1) po_none (po_some (pv 3))) (pe_lst (pa_cons (pv 2) pa_nil))) (pe_slice sl_list (pv 1) (po_some (pv 3)) po_none))))))
      (pss_one (ps_ret (pv 1)))), ?_⟩
    refine ⟨Nat.zero_le _, fun O hO => ?_⟩
    refine ⟨_, rfl, a, _, rfl, .inl ((Same.new hO).seq ha), _, rfl, by omega, by rw [List.length_map]; omega, ?_⟩
    refine for_range (lo := 0) (n := (ns.map V.int).length) (fun i σ H' => ∃ O x2 x3, σ = [some (.ref a), some (.ref O), x2, x3, none] ∧ Same H H' ∧ H' O = some (.lst ((toI (gf ns i)).map V.int))) ⟨O, _, _, rfl, .new hO, upd_same⟩ ?_ ?_
    · rintro i σ H' hi ⟨O, x2, x3, rfl, sm, hl⟩
      rw [Int.zero_add]
      rw [List.length_map] at hi
      have ha' := sm.seq ha
      have vi : ns[i] = val ns i := by rw [val, List.getD_eq_getElem?_getD, List.getElem?_eq_getElem hi]; rfl
      have gl := gf_len ns i
      refine ⟨_, rfl, O, rfl, ⟨_, SqL.of hl⟩, fun F hF => ?_⟩
      refine lc_list (xs := (toI (gf ns i)).map V.int) (fun j H2 => Same H' H2 ∧ H2 F = some (.lst ((toI (((gf ns i).take j).filter fun o => decide (val ns o ≥ val ns i))).map V.int))) ⟨.new hF, upd_same⟩ (fun j H2 _ z => z.1.seq (SqL.of hl)) (fun j x H2 hx z => ?_) (fun H2 z => ?_)
      · obtain ⟨s2, hf⟩ := z
        obtain ⟨n, hn, rfl⟩ := map_get hx
        unfold toI at hn
        rw [List.getElem?_map] at hn
        obtain ⟨o, ho, rfl⟩ := Option.map_eq_some_iff.mp hn
        have hj : j < (gf ns i).length := (List.getElem?_eq_some_iff.mp ho).1
        have on : o < ns.length := by have := gf_lt (List.mem_of_getElem? ho); omega
        have vo : ns[o] = val ns o := by rw [val, List.getD_eq_getElem?_getD, List.getElem?_eq_getElem on]; rfl
        have tk : (gf ns i).take (j + 1) = (gf ns i).take j ++ [o] := by rw [List.take_succ, ho]; rfl
        have fl : (((gf ns i).take j).filter fun o => decide (val ns o ≥ val ns i)).length ≤ 1000 := by
          have := List.length_filter_le (fun o => decide (val ns o ≥ val ns i)) ((gf ns i).take j)
          rw [List.length_take] at this
          omega
        refine ⟨rfl, _, rfl, _, rfl, a, _, _, _, rfl, rfl, s2.seq ha', at1 on, _, rfl, _, rfl, a, _, _, _, rfl, rfl, s2.seq ha', at1 hi, _, _, rfl, rfl, _, rfl, ?_⟩
        rw [vo, vi, tk, List.filter_append]
        refine ite2 (fun c => ?_) (fun c => ?_)
        · rw [List.filter_cons_of_pos (by exact c), List.filter_nil]
          refine ⟨_, rfl, _, hf, by rw [List.length_map, toI_len, sizeLine_eq]; omega, fun b u eb => ?_, ?_⟩
          · rw [upd_ne (fun z => by rw [z, hF] at eb; cases eb)]
            exact s2 _ _ eb
          · rw [upd_same, toI, toI, List.map_append, List.map_append]; rfl
        · rw [List.filter_cons_of_neg (by exact c), List.filter_nil, List.append_nil]
          exact ⟨s2, hf⟩
      · obtain ⟨s2, hf⟩ := z
        rw [List.length_map, toI_len, List.take_length] at hf
        refine ⟨F, _, rfl, .inl (SqL.of hf), ?_⟩
        rw [List.length_map, toI_len]
        have eA : (List.filter (fun o => decide (val ns o ≥ val ns i)) (gf ns i)).length = ahead ns (gf ns i) i := rfl
        rw [eA]
        have aL : ahead ns (gf ns i) i ≤ 1000 := by
          have := List.length_filter_le (fun o => decide (val ns o ≥ val ns i)) (gf ns i)
          rw [eA] at this
          omega
        have hl2 := s2 _ _ hl
        refine ⟨_, rfl, _, rfl, _, rfl, O, _, rfl, SqL.of hl2, fun A hA => ?_⟩
        rw [cutTo, ← List.map_take, toI_take]
        have s3 := Same.new (o := .lst ((toI ((gf ns i).take (ahead ns (gf ns i) i))).map V.int)) hA
        refine ⟨_, rfl, by show 1 ≤ sizeLine; decide, fun B hB => ?_⟩
        have s4 := Same.new (o := .lst [V.int ((i : Nat) : Int)]) hB
        refine ⟨A, B, _, _, rfl, rfl, s4 _ _ upd_same, upd_same, by rw [List.length_map, toI_len, List.length_take, sizeLine_eq]; show _ + 1 ≤ _; omega, fun C hC => ?_⟩
        have s5 := s4.new' (o := .lst ((toI ((gf ns i).take (ahead ns (gf ns i) i))).map V.int ++ [V.int ((i : Nat) : Int)])) hC
        refine ⟨_, rfl, _, rfl, _, rfl, O, _, rfl, SqL.of (s5 _ _ (s3 _ _ hl2)), fun G hG => ?_⟩
        rw [cutFrom, ← List.map_drop, toI_drop]
        have s6 := Same.new (o := .lst ((toI ((gf ns i).drop (ahead ns (gf ns i) i))).map V.int)) hG
        refine ⟨C, G, _, _, rfl, rfl, s6 _ _ upd_same, upd_same, by rw [List.length_append, List.length_map, List.length_map, toI_len, toI_len, List.length_take, List.length_drop, sizeLine_eq]; show _ + 1 + _ ≤ _; omega, fun R hR => ?_⟩
        refine ⟨R, _, _, rfl, ((((sm.trans s2).trans s3).trans s5).trans s6).new' hR, ?_⟩
        rw [upd_same, gf, ins]
        simp [toI]
    · rintro σ H' ⟨O, x2, x3, rfl, sm, hl⟩
      rw [List.length_map] at hl
      exact ⟨_, rfl, q H' O sm hl⟩
end
end K34

set_option maxRecDepth 100000
set_option maxHeartbeats 8000000
namespace K34
open PySem PySem.Spec PyProof.Rows L2 WT
section
variable {w : World} {K : PySem.W.Frag} {mg : Str → Option Value} {base : Heap}
theorem pers_step {ns : List Int} {s i : Nat} : ((List.range (i + 1)).filter fun p => decide (p ∈ (gf ns ns.length).take s)) = if i ∈ (gf ns ns.length).take s then ((List.range i).filter fun p => decide (p ∈ (gf ns ns.length).take s)) ++ [i] else (List.range i).filter fun p => decide (p ∈ (gf ns ns.length).take s) := by
  rw [List.range_succ, List.filter_append]
  split
  · rename_i c; rw [List.filter_cons_of_pos (by simpa using c)]; rfl
  · rename_i c; rw [List.filter_cons_of_neg (by simpa using c)]; simp
theorem mem_toI {p : Nat} {l : List Nat} : ((p : Nat) : Int) ∈ toI l ↔ p ∈ l := by
  unfold toI
  rw [List.mem_map]
  constructor
  · rintro ⟨q, hq, e⟩
    obtain rfl : q = p := by omega
    exact hq
  · exact fun h => ⟨p, h, rfl⟩
def spDue (K : PySem.W.Frag) : Sp := fun vs H Q _ => ∃ (r a : Addr) (row ns : List Int), vs = [.ref r, .ref a] ∧ SqL K H r (row.map V.int) ∧ SqL K H a (ns.map V.int) ∧ ns.length ≤ 1000 ∧ ∀ H' v, Same H H' → IsWit K (fun l => H l = none) H' v row ns (witOf row ns) → Q v H'
theorem ok_law_due (T : Tx K mg) : Ok PG w K mg base CX0 3 (a_law_due K) p_law_due (spDue K) := by
  refine Ok.of 2 T.f_law_due sc_law_due bi_law_due (by decide) (fun vs H Q E h => ?_) (fun cdv A outer s H vs Q E hr h => ?_)
  · obtain ⟨_, _, _, _, rfl, _⟩ := h
    rfl
  · obtain ⟨r, a, row, ns, rfl, hrw, ha, ln, q⟩ := h
    have nd := sc_law_due.nd
    refine ⟨_, pss_cons (ps_if (pt_cmpR op_ne (pe_callB (cr_sum rfl) (by rfl) T.m_sum (by decide +kernel) (pa_cons (pv 1) pa_nil)) (pe_callB (cr_sum rfl) (by rfl) T.m_sum (by decide +kernel) (pa_cons (pv 0) pa_nil)) (nomark _)) (pss_one (ps_ret (pe_tup (pa_cons pe_str (pa_cons (pe_callB (cr_sum rfl) (by rfl) T.m_sum (by decide +kernel) (pa_cons (pv 1) pa_nil)) (pa_cons (pe_callB (cr_sum rfl) (by rfl) T.m_sum (by decide +kernel) (pa_cons (pv 0) pa_nil)) pa_nil)))))) pss_nil)
      (pss_cons (ps_set (i := 2) nd rfl (.inr rfl) (pc (ok_law_greatest_first T) hr T.g_law_greatest_first pass0 (pa_cons (pv 1) pa_nil)))
      (pss_cons (ps_set (i := 3) nd rfl (.inl rfl) pe_int)
      (pss_cons (ps_for (passX rfl) rfl (pi_range2 rfl T.m_range (pa_cons pe_int (pa_cons (pe_op op_add (pe_callB call_len_seq (by rfl) T.m_len PySem.boot_len (pa_cons (pv 2) pa_nil)) pe_int) pa_nil))) (pg_name (i := 4) nd rfl (.inr rfl))
        (pss_cons (ps_set (i := 3) nd rfl (.inl rfl) (pe_op op_add (pv 3) (pe_ix ix_list (pv 1) (pe_ix ix_list (pv 2) (pe_op op_sub (pv 4) pe_int) (fun _ _ => rfl)) (fun _ _ => rfl))))
          (pss_one (ps_if (pt_cmpR op_gt (pv 3) (pe_callB (cr_sum rfl) (by rfl) T.m_sum (by decide +kernel) (pa_cons (pe_slice sl_list (pv 0) po_none (po_some (pv 4))) pa_nil)) (nomark _)) (pss_one (ps_ret (pe_tup (pa_cons pe_str (pa_cons (pv 4) (pa_cons (pe_lc (own := [("person", 5)]) (g := gName 5) rfl nd (pi_range1 rfl T.m_range (pa_cons (pe_callB call_len_seq (by rfl) T.m_len PySem.boot_len (pa_cons (pv 1) pa_nil)) pa_nil)) (blkOk_by (N := n_law_due) (sc := defScope s_law_due) (by decide +kernel)) (fun _ _ _ _ _ => pg_name (i := 5) nd rfl (Or.inl rfl)) (fun _ _ _ _ _ => pts_one (pt_cmpR (r := rIn K false) op_in_seq (pv 5) (pe_slice (r := rSlL K) sl_list (pv 2) po_none (po_some (pv 4))) (by rfl))) (fun _ _ _ _ _ => pv 5)) pa_nil)))))) pss_nil))))
      (pss_one (ps_ret pe_non))))), ?_⟩
    have three : 3 ≤ sizeLine := by decide
    refine ⟨_, rfl, a, ns, rfl, ha, _, rfl, r, row, rfl, hrw, rfl, _, rfl, ite2 (fun c => ?_) (fun c => ?_)⟩
    · have c : ns.sum ≠ row.sum := by simpa using c
      refine ⟨_, rfl, a, ns, rfl, ha, _, rfl, r, row, rfl, hrw, three, fun x hx => ?_⟩
      refine q _ (.ref x) (.new hx) ?_
      rw [wit_sum c]
      exact ⟨x, rfl, SqT.of upd_same⟩
    · have c : ns.sum = row.sum := by simpa using c
      refine ⟨_, rfl, a, ns, rfl, ha, ln, fun H3 o s3 ho => ?_⟩
      have lo : ((toI (gf ns ns.length)).map V.int).length = ns.length := by rw [List.length_map, toI_len, gf_len]
      refine ⟨_, rfl, o, _, rfl, .inl (SqL.of ho), ?_⟩
      rw [lo]
      refine ⟨_, _, rfl, rfl, _, _, rfl, ⟨by omega, by omega, by omega, by omega⟩, ?_⟩
      have hNN : ((ns.length : Int) + 1 - 1).toNat = ns.length := by omega
      refine for_range (lo := 1) (n := ((ns.length : Int) + 1 - 1).toNat) (fun i σ H' => ∃ x4, σ = [some (.ref r), some (.ref a), some (.ref o), some (.int (tog ns i)), x4, none] ∧ Same H3 H' ∧ ∀ j, j < i → over row ns (j + 1) = false) ⟨_, rfl, .refl _, fun j hj => by omega⟩ ?_ ?_
      · rintro i σ H4 hi ⟨x4, rfl, s4, hb⟩
        rw [hNN] at hi
        rw [show (1 : Int) + ((i : Nat) : Int) = ((i + 1 : Nat) : Int) by omega]
        have s14 := s3.trans s4
        have hg : i < (gf ns ns.length).length := by rw [gf_len]; exact hi
        have gi : (gf ns ns.length)[i]? = some (gf ns ns.length)[i] := List.getElem?_eq_getElem hg
        generalize (gf ns ns.length)[i] = p at gi
        have pn : p < ns.length := gf_lt (List.mem_of_getElem? gi)
        have vp : ns[p] = val ns p := by rw [val, List.getD_eq_getElem?_getD, List.getElem?_eq_getElem pn]; rfl
        refine ⟨_, rfl, _, rfl, _, rfl, _, rfl, _, _, rfl, rfl, o, _, _, _, rfl, rfl, SqL.of (s4 _ _ ho), (by rw [show ((i + 1 : Nat) : Int) - 1 = (i : Nat) by omega]; exact atI_nat (by rw [List.getElem?_map, toI, List.getElem?_map, gi]; rfl)), a, _, _, _, rfl, rfl, s14.seq ha, at1 pn, _, _, rfl, rfl, ?_⟩
        have tg : tog ns i + ns[p] = tog ns (i + 1) := by rw [vp, tog_succ gi]
        refine ⟨_, rfl, _, rfl, _, rfl, _, rfl, r, _, rfl, s14.seq hrw, fun G hG => ?_⟩
        rw [cutTo, ← List.map_take]
        have s7 := s14.new' (o := .lst ((row.take (i + 1)).map V.int)) hG
        refine ⟨G, _, rfl, SqL.of upd_same, _, _, rfl, rfl, _, rfl, ?_⟩
        have ov : decide ((row.take (i + 1)).sum < tog ns i + ns[p]) = over row ns (i + 1) := by rw [tg]; rfl
        refine ite2 (fun d => ?_) (fun d => ?_)
        · have s47 : Same H4 (upd H4 G (.lst ((row.take (i + 1)).map V.int))) := .new hG
          have ho7 := s47 _ _ (s4 _ _ ho)
          generalize upd H4 G (.lst ((row.take (i + 1)).map V.int)) = H5 at s7 ho7 ⊢
          refine ⟨_, rfl, _, rfl, a, _, rfl, .inl (s7.seq ha), _, rfl, by omega, by rw [List.length_map]; omega, fun D hD => ?_⟩
          refine lc_range (lo := 0) (n := (ns.map V.int).length) (fun j H' => Same H5 H' ∧ H' D = some (.lst ((toI ((List.range j).filter fun p => decide (p ∈ (gf ns ns.length).take (i + 1)))).map V.int))) ⟨.new hD, upd_same⟩ (fun j H' hj z => ?_) (fun H' z => ?_)
          · obtain ⟨s8, hd⟩ := z
            rw [Int.zero_add]
            rw [List.length_map] at hj
            refine ⟨rfl, _, rfl, _, rfl, _, rfl, _, rfl, o, _, rfl, SqL.of (s8 _ _ ho7), fun S hS => ?_⟩
            rw [cutTo, ← List.map_take, toI_take]
            have s9 := s8.new' (o := .lst ((toI ((gf ns ns.length).take (i + 1))).map V.int)) hS
            have hd9 := (Same.new (o := .lst ((toI ((gf ns ns.length).take (i + 1))).map V.int)) hS) _ _ hd
            have fl : ((List.range j).filter fun p => decide (p ∈ (gf ns ns.length).take (i + 1))).length ≤ j := by
              have := List.length_filter_le (fun p => decide (p ∈ (gf ns ns.length).take (i + 1))) (List.range j)
              rwa [List.length_range] at this
            refine ⟨S, _, rfl, .inl (SqL.of upd_same), rfl, flat_ints _, _, rfl, ?_⟩
            rw [pers_step]
            refine ite2 (fun m => ?_) (fun m => ?_)
            · have m : j ∈ (gf ns ns.length).take (i + 1) := by
                have z : decide (((j : Nat) : Int) ∈ toI ((gf ns ns.length).take (i + 1))) = true := by rw [← inV_ints]; exact m
                exact mem_toI.mp (of_decide_eq_true z)
              rw [if_pos m]
              refine ⟨_, rfl, _, hd9, by rw [List.length_map, toI_len, sizeLine_eq]; omega, fun b u eb => ?_, ?_⟩
              · rw [upd_ne (fun z => by rw [z, hD] at eb; cases eb)]
                exact s9 _ _ eb
              · rw [upd_same, toI, toI, List.map_append, List.map_append]; rfl
            · have m : ¬ j ∈ (gf ns ns.length).take (i + 1) := fun y => m (by
                have z : decide (((j : Nat) : Int) ∈ toI ((gf ns ns.length).take (i + 1))) = true := decide_eq_true (mem_toI.mpr y)
                rw [← inV_ints] at z; exact z)
              rw [if_neg m]
              exact ⟨s9, hd9⟩
          · obtain ⟨s8, hd⟩ := z
            rw [List.length_map] at hd
            have s9 := s7.trans s8
            refine ⟨three, fun x hx => ?_⟩
            refine q _ (.ref x) (s9.new' hx) ?_
            rw [wit_most c hi (by rw [← ov]; exact d) hb]
            exact ⟨x, D, rfl, SqT.of upd_same, Same.new hx _ _ hd, s7.free hD⟩
        · refine ⟨_, (by rw [← tg]; rfl), s4.new' hG, fun j hj => ?_⟩
          by_cases e : j < i
          · exact hb j e
          · obtain rfl : j = i := by omega
            rw [← ov]
            simpa using d
      · rintro σ H4 ⟨x4, rfl, s4, hb⟩
        rw [hNN] at hb
        refine q _ .non (s3.trans s4) ?_
        rw [wit_none c hb]
        rfl
end
end K34

set_option maxRecDepth 100000
set_option maxHeartbeats 8000000
namespace K34
open PySem PySem.Spec PyProof.Rows L2 WT
/-- what a try tells; N: what is said of the told list's place -/
def TryIs (K : PySem.W.Frag) (N : Addr → Prop) (way : Int) (row ns : List Int) (H : Hp) (t : Addr) : Prop :=
  (∃ F, F ≠ .none ∧ FauOk row ns F ∧ SqT K H t (tellF ns F)) ∨ (FauOk row ns .none ∧ ((way = 0 ∧ SqT K H t [.str "told", .bl (decide (witOf row ns = .none))]) ∨ (way ≠ 0 ∧ ∃ v, SqT K H t [.str "told", v] ∧ IsWit K N H v row ns (witOf row ns))))
theorem TryIs.same {K : PySem.W.Frag} {N : Addr → Prop} {way : Int} {row ns : List Int} {H H' : Hp} {t : Addr} (h : TryIs K N way row ns H t) (s : Same H H') : TryIs K N way row ns H' t := by
  rcases h with ⟨F, h1, h2, h3⟩ | ⟨h1, ⟨h2, h3⟩ | ⟨h2, v, h3, h4⟩⟩
  · exact .inl ⟨F, h1, h2, s.seqT h3⟩
  · exact .inr ⟨h1, .inl ⟨h2, s.seqT h3⟩⟩
  · exact .inr ⟨h1, .inr ⟨h2, v, s.seqT h3, h4.same s⟩⟩
section
variable {w : World} {K : PySem.W.Frag} {mg : Str → Option Value} {base : Heap}
def spTry (K : PySem.W.Frag) : Sp := fun vs H Q _ => ∃ (r a : Addr) (row ns : List Int) (way : Int), vs = [.int way, .ref r, .ref a] ∧ SqL K H r (row.map V.int) ∧ IsN K H a ns ∧ ns.length ≤ 2 ^ 20 ∧
  ∀ H' t, Same H H' → TryIs K (fun l => H l = none) way row ns H' t → Q (.ref t) H'
theorem ok_law_try_asked (T : Tx K mg) : Ok PG w K mg base CX0 11 (a_law_try_asked K) p_law_try_asked (spTry K) := by
  refine Ok.of 10 T.f_law_try_asked sc_law_try_asked bi_law_try_asked (by decide) (fun vs H Q E h => ?_) (fun cdv A outer s H vs Q E hr h => ?_)
  · obtain ⟨_, _, _, _, _, rfl, _⟩ := h
    rfl
  · obtain ⟨r, a, row, ns, way, rfl, hrw, hN, ln, q⟩ := h
    have nd := sc_law_try_asked.nd
    have six : 6 ≤ sizeLine := by decide
    have seven : 7 ≤ sizeLine := by decide
    refine ⟨_, pss_cons (ps_set (i := 3) nd rfl (.inl rfl) (pe_tup (pa_cons pe_str pa_nil)))
      (pss_cons (ps_try_any rfl rfl nd takes0
          (fun W pn xe tk _ => (pss_one (ps_if (pt_cmpR op_eq (pv 0) pe_int (nomark _)) (pss_one (ps_set (i := 3) nd rfl (.inl rfl) (pe_tup (pa_cons pe_str (pa_cons (pcS (ok_row_allows T) (hr.mono (by decide)) T.g_row_allows (fun σ => passAt tk σ) (pa_cons (pv 1) (pa_cons (pv 2) pa_nil))) pa_nil))))) (pss_one (ps_set (i := 3) nd rfl (.inl rfl) (pe_tup (pa_cons pe_str (pa_cons (pcS (ok_row_witness T) (hr.mono (by decide)) T.g_row_witness (fun σ => passAt tk σ) (pa_cons (pv 1) (pa_cons (pv 2) pa_nil))) pa_nil))))))))
          (.as (i := 4) ⟨rfl, by decide, .inl T.e_NotFalling.gC⟩ rfl rfl (fun a oe cls d pn hz hf => (pss_one (ps_set (i := 3) nd rfl (.inl rfl) (pe_tup (pa_cons pe_str (pa_cons (pe_xf T.xNotFalling.1 T.nNotFalling_place hz hf (pv 4)) (pa_cons (pe_callB (call_isD T.xNotFalling.2 hz hf) (by rfl) T.m_isinstance (by decide +kernel) (pa_cons (pv 4) (pa_cons (pgC T.gNightsError) pa_nil))) (pa_cons (pe_callB (call_isD T.xNotFalling.2 hz hf) (by rfl) T.m_isinstance (by decide +kernel) (pa_cons (pv 4) (pa_cons (pe_bltn (v := .ty "ValueError") (by rfl) T.m_ValueError (by decide +kernel) rfl) pa_nil))) (pa_cons (pe_callB (call_isD T.xNotFalling.2 hz hf) (by rfl) T.m_isinstance (by decide +kernel) (pa_cons (pv 4) (pa_cons (pgC T.e_TooLong.gC) pa_nil))) (pa_cons (pe_callB (call_isD T.xNotFalling.2 hz hf) (by rfl) T.m_isinstance (by decide +kernel) (pa_cons (pv 4) (pa_cons (pgC T.e_BadNumber.gC) pa_nil))) pa_nil))))))))))
          (.as (i := 4) ⟨rfl, by decide, .inl T.e_TooLong.gC⟩ rfl rfl (fun a oe cls d pn hz hf => (pss_one (ps_set (i := 3) nd rfl (.inl rfl) (pe_tup (pa_cons pe_str (pa_cons (pe_xf T.xTooLong.1 T.nTooLong_count hz hf (pv 4)) (pa_cons (pe_callB (call_isD T.xTooLong.2 hz hf) (by rfl) T.m_isinstance (by decide +kernel) (pa_cons (pv 4) (pa_cons (pgC T.gNightsError) pa_nil))) (pa_cons (pe_callB (call_isD T.xTooLong.2 hz hf) (by rfl) T.m_isinstance (by decide +kernel) (pa_cons (pv 4) (pa_cons (pe_bltn (v := .ty "ValueError") (by rfl) T.m_ValueError (by decide +kernel) rfl) pa_nil))) (pa_cons (pe_callB (call_isD T.xTooLong.2 hz hf) (by rfl) T.m_isinstance (by decide +kernel) (pa_cons (pv 4) (pa_cons (pgC T.e_NotFalling.gC) pa_nil))) (pa_cons (pe_callB (call_isD T.xTooLong.2 hz hf) (by rfl) T.m_isinstance (by decide +kernel) (pa_cons (pv 4) (pa_cons (pgC T.e_BadNumber.gC) pa_nil))) pa_nil))))))))))
          (.as (i := 4) ⟨rfl, by decide, .inl T.e_BadNumber.gC⟩ rfl rfl (fun a oe cls d pn hz hf => (pss_one (ps_set (i := 3) nd rfl (.inl rfl) (pe_tup (pa_cons pe_str (pa_cons (pe_xf T.xBadNumber.1 T.nBadNumber_place hz hf (pv 4)) (pa_cons (pe_xf T.xBadNumber.1 T.nBadNumber_number hz hf (pv 4)) (pa_cons (pe_callB (call_isD T.xBadNumber.2 hz hf) (by rfl) T.m_isinstance (by decide +kernel) (pa_cons (pv 4) (pa_cons (pgC T.gNightsError) pa_nil))) (pa_cons (pe_callB (call_isD T.xBadNumber.2 hz hf) (by rfl) T.m_isinstance (by decide +kernel) (pa_cons (pv 4) (pa_cons (pe_bltn (v := .ty "ValueError") (by rfl) T.m_ValueError (by decide +kernel) rfl) pa_nil))) (pa_cons (pe_callB (call_isD T.xBadNumber.2 hz hf) (by rfl) T.m_isinstance (by decide +kernel) (pa_cons (pv 4) (pa_cons (pgC T.e_NotFalling.gC) pa_nil))) (pa_cons (pe_callB (call_isD T.xBadNumber.2 hz hf) (by rfl) T.m_isinstance (by decide +kernel) (pa_cons (pv 4) (pa_cons (pgC T.e_TooLong.gC) pa_nil))) pa_nil)))))))))))
          .nil))))
      (pss_one (ps_ret (pv 3)))), ?_⟩
    refine ⟨by show 1 ≤ sizeLine; decide, fun wd hwd => ?_⟩
    have s1 : Same H (upd H wd (.tup [.str "none"])) := .new hwd
    refine ⟨_, rfl, rfl, _, rfl, ite2 (fun c0 => ?_) (fun c0 => ?_)⟩
    · obtain rfl : way = 0 := by simpa using c0
      refine ⟨_, rfl, _, rfl, r, a, row, ns, rfl, s1.seq hrw, hN.same s1, ⟨fun i wr => ?_, fun fl l => ?_, fun fl l i n e => ?_⟩, ln, fun fl l e H' sm => ⟨by show 2 ≤ sizeLine; decide, fun x hx => ?_⟩⟩
      · intro H' d sm hd
        have s2 : Same H (upd H' d (xN (i : Nat))) := (s1.trans sm).new' hd
        refine ⟨true, T.mNotFalling_NotFalling, fun _ x hx => ?_, fun z => nomatch z⟩
        refine ⟨_, rfl, rfl, rfl, d, _, _, rfl, upd_same, rfl, ?_⟩
        refine ⟨_, rfl, rfl, _, _, true, d, _, rfl, fun u r => r, rfl, upd_same, T.kNotFalling_NightsError, ?_⟩
        refine ⟨_, rfl, rfl, _, _, true, d, _, rfl, fun u r => r, rfl, upd_same, T.kNotFalling_ValueError, ?_⟩
        refine ⟨_, rfl, rfl, _, _, false, d, _, rfl, fun u r => r, rfl, upd_same, T.kNotFalling_TooLong, ?_⟩
        refine ⟨_, rfl, rfl, _, _, false, d, _, rfl, fun u r => r, rfl, upd_same, T.kNotFalling_BadNumber, ?_⟩
        refine ⟨six, fun w2 hw2 => ?_⟩
        exact ⟨_, rfl, q _ w2 (s2.new' hw2) (.inl ⟨.fall i, (fun z => nomatch z), wr, SqT.of upd_same⟩)⟩
      · intro H' d sm hd
        have s2 : Same H (upd H' d (xT ns.length)) := (s1.trans sm).new' hd
        refine ⟨false, T.mTooLong_NotFalling, ⟨fun z => Bool.noConfusion z, fun _ => ⟨true, T.mTooLong_TooLong, fun _ x hx => ?_, fun z => nomatch z⟩⟩⟩
        refine ⟨_, rfl, rfl, rfl, d, _, _, rfl, upd_same, rfl, ?_⟩
        refine ⟨_, rfl, rfl, _, _, true, d, _, rfl, fun u r => r, rfl, upd_same, T.kTooLong_NightsError, ?_⟩
        refine ⟨_, rfl, rfl, _, _, true, d, _, rfl, fun u r => r, rfl, upd_same, T.kTooLong_ValueError, ?_⟩
        refine ⟨_, rfl, rfl, _, _, false, d, _, rfl, fun u r => r, rfl, upd_same, T.kTooLong_NotFalling, ?_⟩
        refine ⟨_, rfl, rfl, _, _, false, d, _, rfl, fun u r => r, rfl, upd_same, T.kTooLong_BadNumber, ?_⟩
        refine ⟨six, fun w2 hw2 => ?_⟩
        exact ⟨_, rfl, q _ w2 (s2.new' hw2) (.inl ⟨.long, (fun z => nomatch z), ⟨fl, l⟩, SqT.of upd_same⟩)⟩
      · intro H' d sm hd
        have s2 : Same H (upd H' d (xB (i : Nat) n)) := (s1.trans sm).new' hd
        refine ⟨false, T.mBadNumber_NotFalling, ⟨fun z => Bool.noConfusion z, fun _ => ⟨false, T.mBadNumber_TooLong, ⟨fun z => Bool.noConfusion z, fun _ => ⟨true, T.mBadNumber_BadNumber, fun _ x hx => ?_, fun z => nomatch z⟩⟩⟩⟩⟩
        refine ⟨_, rfl, rfl, rfl, d, _, _, rfl, upd_same, rfl, ?_⟩
        refine ⟨_, rfl, rfl, rfl, d, _, _, rfl, upd_same, rfl, ?_⟩
        refine ⟨_, rfl, rfl, _, _, true, d, _, rfl, fun u r => r, rfl, upd_same, T.kBadNumber_NightsError, ?_⟩
        refine ⟨_, rfl, rfl, _, _, true, d, _, rfl, fun u r => r, rfl, upd_same, T.kBadNumber_ValueError, ?_⟩
        refine ⟨_, rfl, rfl, _, _, false, d, _, rfl, fun u r => r, rfl, upd_same, T.kBadNumber_NotFalling, ?_⟩
        refine ⟨_, rfl, rfl, _, _, false, d, _, rfl, fun u r => r, rfl, upd_same, T.kBadNumber_TooLong, ?_⟩
        refine ⟨seven, fun w2 hw2 => ?_⟩
        exact ⟨_, rfl, q _ w2 (s2.new' hw2) (.inl ⟨.bad i n, (fun z => nomatch z), ⟨fl, l, e⟩, SqT.of upd_same⟩)⟩
      · refine ⟨_, rfl, q _ x ((s1.trans sm).new' hx) (.inr ⟨⟨fl, l, e⟩, .inl ⟨rfl, SqT.of upd_same⟩⟩)⟩
    · have c0 : way ≠ 0 := by simpa using c0
      refine ⟨_, rfl, _, rfl, r, a, row, ns, rfl, s1.seq hrw, hN.same s1, ⟨fun i wr => ?_, fun fl l => ?_, fun fl l i n e => ?_⟩, ln, fun fl l e H' v sm hw => ⟨by show 2 ≤ sizeLine; decide, fun x hx => ?_⟩⟩
      · intro H' d sm hd
        have s2 : Same H (upd H' d (xN (i : Nat))) := (s1.trans sm).new' hd
        refine ⟨true, T.mNotFalling_NotFalling, fun _ x hx => ?_, fun z => nomatch z⟩
        refine ⟨_, rfl, rfl, rfl, d, _, _, rfl, upd_same, rfl, ?_⟩
        refine ⟨_, rfl, rfl, _, _, true, d, _, rfl, fun u r => r, rfl, upd_same, T.kNotFalling_NightsError, ?_⟩
        refine ⟨_, rfl, rfl, _, _, true, d, _, rfl, fun u r => r, rfl, upd_same, T.kNotFalling_ValueError, ?_⟩
        refine ⟨_, rfl, rfl, _, _, false, d, _, rfl, fun u r => r, rfl, upd_same, T.kNotFalling_TooLong, ?_⟩
        refine ⟨_, rfl, rfl, _, _, false, d, _, rfl, fun u r => r, rfl, upd_same, T.kNotFalling_BadNumber, ?_⟩
        refine ⟨six, fun w2 hw2 => ?_⟩
        exact ⟨_, rfl, q _ w2 (s2.new' hw2) (.inl ⟨.fall i, (fun z => nomatch z), wr, SqT.of upd_same⟩)⟩
      · intro H' d sm hd
        have s2 : Same H (upd H' d (xT ns.length)) := (s1.trans sm).new' hd
        refine ⟨false, T.mTooLong_NotFalling, ⟨fun z => Bool.noConfusion z, fun _ => ⟨true, T.mTooLong_TooLong, fun _ x hx => ?_, fun z => nomatch z⟩⟩⟩
        refine ⟨_, rfl, rfl, rfl, d, _, _, rfl, upd_same, rfl, ?_⟩
        refine ⟨_, rfl, rfl, _, _, true, d, _, rfl, fun u r => r, rfl, upd_same, T.kTooLong_NightsError, ?_⟩
        refine ⟨_, rfl, rfl, _, _, true, d, _, rfl, fun u r => r, rfl, upd_same, T.kTooLong_ValueError, ?_⟩
        refine ⟨_, rfl, rfl, _, _, false, d, _, rfl, fun u r => r, rfl, upd_same, T.kTooLong_NotFalling, ?_⟩
        refine ⟨_, rfl, rfl, _, _, false, d, _, rfl, fun u r => r, rfl, upd_same, T.kTooLong_BadNumber, ?_⟩
        refine ⟨six, fun w2 hw2 => ?_⟩
        exact ⟨_, rfl, q _ w2 (s2.new' hw2) (.inl ⟨.long, (fun z => nomatch z), ⟨fl, l⟩, SqT.of upd_same⟩)⟩
      · intro H' d sm hd
        have s2 : Same H (upd H' d (xB (i : Nat) n)) := (s1.trans sm).new' hd
        refine ⟨false, T.mBadNumber_NotFalling, ⟨fun z => Bool.noConfusion z, fun _ => ⟨false, T.mBadNumber_TooLong, ⟨fun z => Bool.noConfusion z, fun _ => ⟨true, T.mBadNumber_BadNumber, fun _ x hx => ?_, fun z => nomatch z⟩⟩⟩⟩⟩
        refine ⟨_, rfl, rfl, rfl, d, _, _, rfl, upd_same, rfl, ?_⟩
        refine ⟨_, rfl, rfl, rfl, d, _, _, rfl, upd_same, rfl, ?_⟩
        refine ⟨_, rfl, rfl, _, _, true, d, _, rfl, fun u r => r, rfl, upd_same, T.kBadNumber_NightsError, ?_⟩
        refine ⟨_, rfl, rfl, _, _, true, d, _, rfl, fun u r => r, rfl, upd_same, T.kBadNumber_ValueError, ?_⟩
        refine ⟨_, rfl, rfl, _, _, false, d, _, rfl, fun u r => r, rfl, upd_same, T.kBadNumber_NotFalling, ?_⟩
        refine ⟨_, rfl, rfl, _, _, false, d, _, rfl, fun u r => r, rfl, upd_same, T.kBadNumber_TooLong, ?_⟩
        refine ⟨seven, fun w2 hw2 => ?_⟩
        exact ⟨_, rfl, q _ w2 (s2.new' hw2) (.inl ⟨.bad i n, (fun z => nomatch z), ⟨fl, l, e⟩, SqT.of upd_same⟩)⟩
      · refine ⟨_, rfl, q _ x ((s1.trans sm).new' hx) (.inr ⟨⟨fl, l, e⟩, .inr ⟨c0, v, SqT.of upd_same, (hw.same (.new hx)).mono fun l hl => s1.free hl⟩⟩)⟩
end
end K34

set_option maxRecDepth 100000
set_option maxHeartbeats 8000000
namespace K34
open PySem PySem.Spec PyProof.Rows L2 WT
theorem mk_wok {K : PySem.W.Frag} {H : Hp} {a : Addr} {ns : List Int} (ha : SqA K H a (ns.map V.int)) (l : ns.length ≤ 30) (b : bad top 0 ns = none) (x dx : Addr) (hx : H x = none) (hdx : H dx = none) (hne : dx ≠ x) (Q : VK) (q : ∀ H', Same H H' → IsW K H' x ns → Q .non H') :
    spInit K ([.ref x, .ref a]) (upd (upd H dx (.own x)) x (.ins (c_Telling K) dx [])) Q (fun _ _ _ => False) := by
  obtain ⟨x', a', dx', ns', e, h1, h2, h3, h4, h5⟩ := mk_tell (Q := fun y H' => ∃ p, y = .ref p ∧ Same H H' ∧ IsW K H' p ns) (E := fun _ _ _ => False) ha ⟨fun c => absurd c (by omega), fun _ i n e => (by rw [b] at e; cases e), fun _ _ H' p s g => ⟨p, rfl, s, g⟩⟩ x dx hx hdx hne
  refine ⟨x', a', dx', ns', e, h1, h2, h3, h4, fun c1 c2 H' t s ht => ?_⟩
  obtain ⟨_, p, e', s', g⟩ := h5 c1 c2 H' t s ht
  cases e
  cases e'
  exact q _ s' g
theorem fau_none {row ns : List Int} {F : Fau} (fl : Fall row) (l : ns.length ≤ 30) (b : bad top 0 ns = none) (h : FauOk row ns F) : F = .none := by
  cases F with
  | fall i => exact absurd (fl i) h.2
  | long => have := h.2; omega
  | bad i n => have := h.2.2; rw [b] at this; cases this
  | none => rfl
theorem eqd_atoms {K : PySem.W.Frag} {n : Nat} {H : Hp} {a b : Addr} {xs : List V} (h1 : SqT K H a xs) (h2 : SqT K H b xs) (l : xs.length ≤ 1000) (at' : ∀ x ∈ xs, Atom x) : Eqd K (n + 1) H (.ref a) (.ref b) :=
  .inr ⟨a, b, _, _, rfl, rfl, .inl ⟨h1, h2⟩, rfl, sL l, fun i u v e1 e2 => by rw [e1] at e2; cases e2; exact .atom (at' _ (List.mem_of_getElem? e1))⟩
theorem eqd_wit {K : PySem.W.Frag} {H : Hp} {N M : Addr → Prop} {x y : V} {row ns : List Int} {W : Wit} (ln : ns.length ≤ 30) (h1 : IsWit K N H x row ns W) (h2 : IsWit K M H y row ns W) : Eqd K 2 H x y := by
  cases W with
  | none => rw [show x = .non from h1, show y = .non from h2]; exact .atom .non
  | sums =>
    obtain ⟨t, rfl, a⟩ := h1
    obtain ⟨u, rfl, b⟩ := h2
    exact eqd_atoms a b (by show 3 ≤ 1000; decide) (fun x hx => by simp at hx; rcases hx with rfl | rfl | rfl <;> constructor)
  | most s =>
    obtain ⟨t, l, rfl, a, a2, _⟩ := h1
    obtain ⟨u, m, rfl, b, b2, _⟩ := h2
    exact .inr ⟨t, u, _, _, rfl, rfl, .inl ⟨a, b⟩, rfl, sL (by show 3 ≤ 1000; decide), fun i x y e1 e2 => by
      match i with
      | 0 => cases e1; cases e2; exact .atom (.str _)
      | 1 => cases e1; cases e2; exact .atom (.int _)
      | 2 =>
        cases e1; cases e2
        refine Eqd.row (.inr ⟨SqL.of a2, SqL.of b2⟩) ?_
        rw [toI_len]
        have := List.length_filter_le (fun p => decide (p ∈ (gf ns ns.length).take s)) (List.range ns.length)
        rw [List.length_range] at this
        exact Nat.le_trans this (by omega)
      | i + 3 => cases e1⟩
theorem eqd_told {K : PySem.W.Frag} {n : Nat} {H : Hp} {a b : Addr} {x y : V} (h1 : SqT K H a [.str "told", x]) (h2 : SqT K H b [.str "told", y]) (h : Eqd K n H x y) : Eqd K (n + 1) H (.ref a) (.ref b) :=
  .inr ⟨a, b, _, _, rfl, rfl, .inl ⟨h1, h2⟩, rfl, sL (by show 2 ≤ 1000; decide), fun i u v e1 e2 => by
    match i with
    | 0 => cases e1; cases e2; exact .atom (.str _)
    | 1 => cases e1; cases e2; exact h
    | i + 2 => cases e1⟩
theorem try_told {K : PySem.W.Frag} {N : Addr → Prop} {row ns : List Int} {H : Hp} {t : Addr} (fl : Fall row) (l : ns.length ≤ 30) (b : bad top 0 ns = none) (h : TryIs K N 1 row ns H t) : ∃ v, SqT K H t [.str "told", v] ∧ IsWit K N H v row ns (witOf row ns) := by
  rcases h with ⟨F, h1, h2, h3⟩ | ⟨h1, ⟨h2, h3⟩ | ⟨h2, h3⟩⟩
  · exact absurd (fau_none fl l b h2) h1
  · cases h2
  · exact h3
theorem try_bool {K : PySem.W.Frag} {N : Addr → Prop} {row ns : List Int} {H : Hp} {t : Addr} (fl : Fall row) (l : ns.length ≤ 30) (b : bad top 0 ns = none) (h : TryIs K N 0 row ns H t) : SqT K H t [.str "told", .bl (decide (witOf row ns = .none))] := by
  rcases h with ⟨F, h1, h2, h3⟩ | ⟨h1, ⟨h2, h3⟩ | ⟨h2, h3⟩⟩
  · exact absurd (fau_none fl l b h2) h1
  · exact h3
  · exact absurd rfl h2
section
variable {w : World} {K : PySem.W.Frag} {mg : Str → Option Value} {base : Heap}
def spRight (K : PySem.W.Frag) : Sp := fun vs H Q _ => ∃ (r a : Addr) (row ns : List Int), vs = [.ref r, .ref a] ∧ SqL K H r (row.map V.int) ∧ SqL K H a (ns.map V.int) ∧ Fall row ∧ ns.length ≤ 30 ∧ bad top 0 ns = none ∧ ∀ H', Same H H' → Q (.bl true) H'
theorem ok_law_asked_right (T : Tx K mg) : Ok PG w K mg base CX0 12 (a_law_asked_right K) p_law_asked_right (spRight K) := by
  refine Ok.of 11 T.f_law_asked_right sc_law_asked_right bi_law_asked_right (by decide) (fun vs H Q E h => ?_) (fun cdv A outer s H vs Q E hr h => ?_)
  · obtain ⟨_, _, _, _, rfl, _⟩ := h
    rfl
  · obtain ⟨r, a, row, ns, rfl, hrw, ha, fl, ln, nb, q⟩ := h
    have nd := sc_law_asked_right.nd
    refine ⟨_, pss_cons (ps_set (i := 2) nd rfl (.inl rfl) (pc (ok_law_due T) (hr.mono (by decide)) T.g_law_due pass0 (pa_cons (pv 0) (pa_cons (pv 1) pa_nil))))
      (pss_cons (ps_set (i := 3) nd rfl (.inl rfl) (pe_callTy call_list_of (by rfl) T.m_list (by decide +kernel) (pa_cons (pv 0) pa_nil)))
      (pss_cons (ps_set (i := 4) nd rfl (.inl rfl) (pe_callTy call_list_of (by rfl) T.m_list (by decide +kernel) (pa_cons (pv 1) pa_nil)))
      (pss_cons (ps_for (passX rfl) rfl (pi_range1 rfl T.m_range (pa_cons pe_int pa_nil)) (pg_name (i := 5) nd rfl (.inl rfl))
        (pss_cons (ps_set (i := 6) nd rfl (.inl rfl) (pc (ok_law_try_asked T) hr T.g_law_try_asked pass0 (pa_cons pe_int (pa_cons (pv 3) (pa_cons (pv 4) pa_nil)))))
          (pss_cons (ps_if (PW.pt (pw_or (pt_not (pt_val (pc (ok_law_same T 3) (hr.mono (by decide)) T.g_law_same pass0 (pa_cons (pv 6) (pa_cons (pe_tup (pa_cons pe_str (pa_cons (pv 2) pa_nil))) pa_nil))))) (pw_or1 (pt_not (pt_val (pc (ok_law_same T 1) (hr.mono (by decide)) T.g_law_same pass0 (pa_cons (pc (ok_law_try_asked T) hr T.g_law_try_asked pass0 (pa_cons pe_int (pa_cons (pv 3) (pa_cons (pv 4) pa_nil)))) (pa_cons (pe_tup (pa_cons pe_str (pa_cons (pe_cmpR op_isN (pv 2) pe_non (nomark _)) pa_nil))) pa_nil)))))))) (pss_one (ps_ret pe_bl)) pss_nil)
          (pss_one (ps_if (PW.pt (pw_and (pt_cmpR op_notN (pv 2) pe_non (nomark _)) (pw_and1 (pt_cmpR op_eq (pe_ix ix_tup (pv 2) pe_int (fun _ _ => rfl)) pe_str (nomark _))))) (pss_one (ps_expr (pe_bm PySem.F.plainAttrs_list PySem.F.slot_list_append PySem.F.type_list_append mt_append (pe_ix ix_tup (pe_ix ix_tup (pv 6) pe_int (fun _ _ => rfl)) pe_int (fun _ _ => rfl)) (pa_cons pe_int pa_nil)))) pss_nil)))))
      (pss_cons (ps_if (PW.pt (pw_or (pt_cmpR (op_neRow hr.units) (pv 3) (pv 0) (nomark _)) (pw_or1 (pt_cmpR (op_neRow hr.units) (pv 4) (pv 1) (nomark _))))) (pss_one (ps_ret pe_bl)) pss_nil)
      (pss_cons (ps_set (i := 6) nd rfl (.inl rfl) (pc (ok_law_try_asked T) hr T.g_law_try_asked pass0 (pa_cons pe_int (pa_cons (pv 3) (pa_cons (pmk (ok_Telling_init T) T.kTelling (hr.mono (by decide)) T.gTelling passF (pa_cons (pv 1) pa_nil)) pa_nil)))))
      (pss_one (ps_ret (pe_and (pc (ok_law_same T 3) (hr.mono (by decide)) T.g_law_same pass0 (pa_cons (pv 6) (pa_cons (pe_tup (pa_cons pe_str (pa_cons (pv 2) pa_nil))) pa_nil))) (pe_one (pc (ok_law_same T 1) (hr.mono (by decide)) T.g_law_same pass0 (pa_cons (pc (ok_law_try_asked T) hr T.g_law_try_asked pass0 (pa_cons pe_int (pa_cons (pv 3) (pa_cons (pmk (ok_Telling_init T) T.kTelling (hr.mono (by decide)) T.gTelling passF (pa_cons (pv 1) pa_nil)) pa_nil)))) (pa_cons (pe_tup (pa_cons pe_str (pa_cons (pe_cmpR op_isN (pv 2) pe_non (nomark _)) pa_nil))) pa_nil)))))))))))), ?_⟩
    have two : 2 ≤ sizeLine := by decide
    have l20 : ns.length ≤ 2 ^ 20 := by omega
    refine ⟨_, rfl, _, rfl, r, a, row, ns, rfl, hrw, ha, by omega, fun H1 d s1 hdue => ?_⟩
    refine ⟨_, rfl, r, _, rfl, .inl (s1.seq hrw), fun one h1 => ?_⟩
    have s2 := s1.new' (o := .lst (row.map V.int)) h1
    refine ⟨_, rfl, a, _, rfl, .inl (s2.seq ha), fun two' h2 => ?_⟩
    have s3 := s2.new' (o := .lst (ns.map V.int)) h2
    have hone : upd (upd H1 one (.lst (row.map V.int))) two' (.lst (ns.map V.int)) one = some (.lst (row.map V.int)) := Same.new h2 _ _ upd_same
    have htwo : upd (upd H1 one (.lst (row.map V.int))) two' (.lst (ns.map V.int)) two' = some (.lst (ns.map V.int)) := upd_same
    have hdue := hdue.same ((Same.new (o := .lst (row.map V.int)) h1).new' (o := .lst (ns.map V.int)) h2)
    generalize upd (upd H1 one (.lst (row.map V.int))) two' (.lst (ns.map V.int)) = G at s3 hone htwo hdue ⊢
    -- what a try tells here
    have bools : ∀ {H2 : Hp}, Same G H2 → decide (d = .non) = decide (witOf row ns = .none) := fun _ => hdue.non_iff
    refine ⟨2, rfl, by decide, by decide, ?_⟩
    refine for_range (lo := 0) (n := 2) (fun i σ H' => ∃ x5 x6, σ = [some (.ref r), some (.ref a), some d, some (.ref one), some (.ref two'), x5, x6] ∧ Same G H') ⟨_, _, rfl, .refl _⟩ ?_ ?_
    · rintro i σ H2 hi ⟨x5, x6, rfl, g2⟩
      refine ⟨_, rfl, _, rfl, one, two', row, ns, 1, rfl, SqL.of (g2 _ _ hone), .inl (SqL.of (g2 _ _ htwo)), l20, fun H3 t g3 ht => ?_⟩
      obtain ⟨v, ht, hv⟩ := try_told fl ln nb ht
      have g23 := g2.trans g3
      refine ⟨_, rfl, _, rfl, two, fun u hu => ?_⟩
      have g4 := g23.new' (o := .tup [.str "told", d]) hu
      have s34 : Same H3 (upd H3 u (.tup [.str "told", d])) := .new hu
      refine ⟨_, _, rfl, eqd_told (s34.seqT ht) (SqT.of upd_same) (eqd_wit ln (hv.same s34) (hdue.same g4)), _, rfl, nope rfl ?_⟩
      refine ⟨_, rfl, _, rfl, one, two', row, ns, 0, rfl, SqL.of (g4 _ _ hone), .inl (SqL.of (g4 _ _ htwo)), l20, fun H5 t2 g5 ht2 => ?_⟩
      have ht2 := try_bool fl ln nb ht2
      have g45 := g4.trans g5
      refine ⟨_, rfl, rfl, two, fun u2 hu2 => ?_⟩
      have g6 := g45.new' (o := .tup [.str "told", .bl (decide (d = .non))]) hu2
      have s56 : Same H5 (upd H5 u2 (.tup [.str "told", .bl (decide (d = .non))])) := .new hu2
      refine ⟨_, _, rfl, eqd_told (s56.seqT ht2) (SqT.of upd_same) (by rw [bools g6]; exact .atom (.bl _)), _, rfl, nope rfl ?_⟩
      have ht6 := ((s34.trans g5).trans s56).seqT ht
      have hv6 := hv.same ((s34.trans g5).trans s56)
      generalize upd H5 u2 (.tup [.str "told", .bl (decide (d = .non))]) = H6 at g6 ht6 hv6 ⊢
      have hd6 := hdue.same g6
      have stay : ∃ x5 x6, [some (V.ref r), some (.ref a), some d, some (.ref one), some (.ref two'), some (.int (0 + ((i : Nat) : Int))), some (.ref t)] = [some (V.ref r), some (.ref a), some d, some (.ref one), some (.ref two'), x5, x6] ∧ Same G H6 := ⟨_, _, rfl, g6⟩
      generalize witOf row ns = W at hd6 hv6
      cases W with
      | none =>
        obtain rfl : d = .non := hd6
        exact ⟨_, rfl, rfl, _, rfl, iteF stay⟩
      | sums =>
        obtain ⟨du, rfl, hdu⟩ := hd6
        refine ⟨_, rfl, rfl, _, rfl, iteT ?_⟩
        exact ⟨_, rfl, du, _, _, _, rfl, rfl, hdu, rfl, rfl, _, rfl, nope (by decide) stay⟩
      | most k =>
        obtain ⟨du, dl, rfl, hdu, _⟩ := hd6
        obtain ⟨vu, vl, rfl, hvu, hvl, nl⟩ := hv6
        refine ⟨_, rfl, rfl, _, rfl, iteT ?_⟩
        refine ⟨_, rfl, du, _, _, _, rfl, rfl, hdu, rfl, rfl, _, rfl, yep (by decide) ?_⟩
        refine ⟨_, rfl, t, _, _, _, rfl, rfl, ht6, rfl, vu, _, _, _, rfl, rfl, hvu, rfl, ?_⟩
        refine ⟨.inl ⟨rfl, _, SqL.of hvl⟩, vl, _, _, rfl, rfl, hvl, ?_, _, _, rfl, fun b o eb => ?_⟩
        · rw [List.length_map, toI_len, sizeLine_eq]
          have := List.length_filter_le (fun p => decide (p ∈ (gf ns ns.length).take k)) (List.range ns.length)
          rw [List.length_range] at this
          exact Nat.lt_of_le_of_lt this (by omega)
        · rw [upd_ne (fun z => by rw [z, g2.free nl] at eb; cases eb)]
          exact g6 _ _ eb
    · rintro σ H2 ⟨x5, x6, rfl, g2⟩
      refine ⟨_, rfl, _, rfl, one, r, row, row, rfl, rfl, .inr ⟨SqL.of (g2 _ _ hone), (s3.trans g2).seq hrw⟩, _, rfl, nope (by simp) ?_⟩
      refine ⟨_, rfl, _, rfl, two', a, ns, ns, rfl, rfl, .inr ⟨SqL.of (g2 _ _ htwo), (s3.trans g2).seq ha⟩, _, rfl, nope (by simp) ?_⟩
      refine ⟨_, rfl, _, rfl, fun q1 dq hq hdq hne => mk_wok (.inl ((s3.trans g2).seq ha)) ln nb q1 dq hq hdq hne _ fun H3 g3 hw => ⟨rfl, ?_⟩⟩
      have g23 := g2.trans g3
      refine ⟨one, q1, row, ns, 1, rfl, SqL.of (g23 _ _ hone), .inr hw, l20, fun H4 t g4 ht => ?_⟩
      obtain ⟨v, ht, hv⟩ := try_told fl ln nb ht
      have g24 := g23.trans g4
      refine ⟨_, rfl, _, rfl, two, fun u hu => ?_⟩
      have g5 := g24.new' (o := .tup [.str "told", d]) hu
      have s45 : Same H4 (upd H4 u (.tup [.str "told", d])) := .new hu
      refine ⟨_, _, rfl, eqd_told (s45.seqT ht) (SqT.of upd_same) (eqd_wit ln (hv.same s45) (hdue.same g5)), _, rfl, yep rfl ?_⟩
      refine ⟨_, rfl, _, rfl, fun q2 dq2 hq2 hdq2 hne2 => mk_wok (.inl ((s3.trans g5).seq ha)) ln nb q2 dq2 hq2 hdq2 hne2 _ fun H6 g6 hw2 => ⟨rfl, ?_⟩⟩
      have g56 := g5.trans g6
      refine ⟨one, q2, row, ns, 0, rfl, SqL.of (g56 _ _ hone), .inr hw2, l20, fun H7 t2 g7 ht2 => ?_⟩
      have ht2 := try_bool fl ln nb ht2
      have g57 := g56.trans g7
      refine ⟨_, rfl, rfl, two, fun u2 hu2 => ?_⟩
      have s78 : Same H7 (upd H7 u2 (.tup [.str "told", .bl (decide (d = .non))])) := .new hu2
      exact ⟨_, _, rfl, eqd_told (s78.seqT ht2) (SqT.of upd_same) (by rw [bools g57]; exact .atom (.bl _)), q _ ((s3.trans g57).trans s78)⟩
end
end K34

set_option maxRecDepth 100000
set_option maxHeartbeats 8000000
namespace K34
open PySem PySem.Spec PyProof.Rows L2 WT
theorem fau_uniq {row ns : List Int} {F G : Fau} (h : FauOk row ns F) (k : FauOk row ns G) : F = G := by
  cases F with
  | fall i =>
    cases G with
    | fall j =>
      rcases Nat.lt_trichotomy i j with z | z | z
      · exact absurd (k.1 i z) h.2
      · rw [z]
      · exact absurd (h.1 j z) k.2
    | long => exact absurd (k.1 i) h.2
    | bad j n => exact absurd (k.1 i) h.2
    | none => exact absurd (k.1 i) h.2
  | long =>
    cases G with
    | fall j => exact absurd (h.1 j) k.2
    | long => rfl
    | bad j n => have := h.2; have := k.2.1; omega
    | none => have := h.2; have := k.2.1; omega
  | bad i n =>
    cases G with
    | fall j => exact absurd (h.1 j) k.2
    | long => have := k.2; have := h.2.1; omega
    | bad j m => have e := h.2.2.symm.trans k.2.2; cases e; rfl
    | none => have e := h.2.2.symm.trans k.2.2; cases e
  | none =>
    cases G with
    | fall j => exact absurd (h.1 j) k.2
    | long => have := k.2; have := h.2.1; omega
    | bad j m => have e := h.2.2.symm.trans k.2.2; cases e
    | none => rfl
theorem tellF_len (ns : List Int) (F : Fau) : (tellF ns F).length ≤ 1000 := by
  cases F with
  | fall i => show 6 ≤ 1000; decide
  | long => show 6 ≤ 1000; decide
  | bad i n => show 7 ≤ 1000; decide
  | none => show 1 ≤ 1000; decide
theorem tellF_atoms (ns : List Int) (F : Fau) : ∀ x ∈ tellF ns F, Atom x := by
  intro x hx
  cases F <;> simp [tellF] at hx
  · rcases hx with rfl | rfl | rfl | rfl <;> constructor
  · rcases hx with rfl | rfl | rfl | rfl <;> constructor
  · rcases hx with rfl | rfl | rfl | rfl | rfl <;> constructor
  · subst hx; constructor
theorem try_fault {K : PySem.W.Frag} {N : Addr → Prop} {way : Int} {row ns : List Int} {H : Hp} {t : Addr} {F : Fau} (h : FauOk row ns F) (n : F ≠ .none) (k : TryIs K N way row ns H t) : SqT K H t (tellF ns F) := by
  rcases k with ⟨G, g1, g2, g3⟩ | ⟨g, _⟩
  · rw [fau_uniq h g2]; exact g3
  · exact absurd (fau_uniq h g) n
theorem fall_pos {row : List Int} (h : Fall row) : ∀ x ∈ row, 0 ≤ x := fun x hx => by
  obtain ⟨i, hi, rfl⟩ := List.getElem_of_mem hx
  have := (h i _ (List.getElem?_eq_getElem hi)).1
  omega
section
variable {w : World} {K : PySem.W.Frag} {mg : Str → Option Value} {base : Heap}
def spLaw (K : PySem.W.Frag) : Sp := fun vs H Q _ => ∃ (a : Addr) (sc : List Int), vs = [.ref a] ∧ SqL K H a (sc.map V.int) ∧ ∀ H', Q (.bl true) H'
theorem fn_law (T : Tx K mg) {fd : FuncData} (F : FunD K "law" "law" (defArgs s_law) (defBody s_law) (defScope s_law) [] [] (a_law K) fd) : FnOk PG w K mg base CX0 13 (a_law K) fd p_law (spLaw K) := by
  refine F.ok (k := 12) sc_law (fun vs H Q E h => ?_) (fun cdv A outer s H vs Q E hr h => ?_)
  · obtain ⟨_, _, rfl, _⟩ := h
    rfl
  · obtain ⟨a, sc, rfl, hsc, q⟩ := h
    have nd := sc_law.nd
    refine ⟨_, pss_cons (ps_set (i := 1) nd rfl (.inl rfl) (pc (ok_law_pool T) (hr.mono (by decide)) T.g_law_pool pass0 (pa_cons (pv 0) (pa_cons pe_int pa_nil))))
      (pss_cons (ps_set (i := 2) nd rfl (.inl rfl) (pc (ok_law_row T) (hr.mono (by decide)) T.g_law_row pass0 (pa_cons (pv 1) pa_nil)))
      (pss_cons (ps_set (i := 3) nd rfl (.inl rfl) (pc (ok_law_numbers T) (hr.mono (by decide)) T.g_law_numbers pass0 (pa_cons (pv 1) (pa_cons (pv 2) pa_nil))))
      (pss_cons (ps_set (i := 4) nd rfl (.inl rfl) (pc (ok_law_bent_row T) (hr.mono (by decide)) T.g_law_bent_row pass0 (pa_cons (pv 1) (pa_cons (pv 2) pa_nil))))
      (pss_cons (ps_set (i := 5) nd rfl (.inl rfl) (pc (ok_law_bent_numbers T) (hr.mono (by decide)) T.g_law_bent_numbers pass0 (pa_cons (pv 1) (pa_cons (pv 3) pa_nil))))
      (pss_cons (ps_set (i := 6) nd rfl (.inl rfl) (pc (ok_law_fault T) (hr.mono (by decide)) T.g_law_fault pass0 (pa_cons (pv 4) (pa_cons (pv 5) pa_nil))))
      (pss_cons (ps_if (pt_cmpR op_ne (pe_ix ix_tup (pv 6) pe_int (fun _ _ => rfl)) pe_str (nomark _)) (pss_cons (ps_if (pt_not (pt_val (pc (ok_law_same T 1) (hr.mono (by decide)) T.g_law_same pass0 (pa_cons (pc (ok_law_try_asked T) (hr.mono (by decide)) T.g_law_try_asked pass0 (pa_cons pe_int (pa_cons (pv 4) (pa_cons (pv 5) pa_nil)))) (pa_cons (pv 6) pa_nil))))) (pss_one (ps_ret pe_bl)) pss_nil)
        (pss_one (ps_if (pt_not (pt_val (pc (ok_law_same T 1) (hr.mono (by decide)) T.g_law_same pass0 (pa_cons (pc (ok_law_try_asked T) (hr.mono (by decide)) T.g_law_try_asked pass0 (pa_cons pe_int (pa_cons (pv 4) (pa_cons (pv 5) pa_nil)))) (pa_cons (pv 6) pa_nil))))) (pss_one (ps_ret pe_bl)) pss_nil))) (pss_one (ps_if (pt_not (pt_val (pc (ok_law_asked_right T) hr T.g_law_asked_right pass0 (pa_cons (pv 4) (pa_cons (pv 5) pa_nil))))) (pss_one (ps_ret pe_bl)) pss_nil)))
      (pss_one (ps_ret (pc (ok_law_asked_right T) hr T.g_law_asked_right pass0 (pa_cons (pv 2) (pa_cons (pv 3) pa_nil))))))))))), ?_⟩
    refine ⟨_, rfl, a, sc, 0, rfl, hsc, fun p st cp ok => ?_⟩
    have hp : upd H p (.lst st) p = some (.lst st) := upd_same
    generalize upd H p (.lst st) = C at hp ⊢
    refine ⟨_, rfl, p, st, rfl, hp, ok, fun H1 r row st1 b1 hp1 ok1 hr0 hrw ⟨lr, fl, sr⟩ => ?_⟩
    have nrp : r ≠ p := fun z => by rw [z, hp] at hr0; cases hr0
    refine ⟨_, rfl, _, rfl, p, r, st1, row, rfl, hp1, ok1, nrp, hrw, lr, fall_pos fl, sr, fun H2 n ns st2 b2 hp2 ok2 hn0 hns ⟨ln, hb⟩ => ?_⟩
    have nnp : n ≠ p := fun z => by rw [z, hp1] at hn0; cases hn0
    have hrw2 := b2 _ _ nrp hrw
    refine ⟨_, rfl, _, rfl, p, r, st2, row, rfl, hp2, ok2, nrp, hrw2, lr, fun H3 br brow st3 b3 hp3 ok3 hbr0 hbr lbr => ?_⟩
    have nbr : br ≠ p := fun z => by rw [z, hp2] at hbr0; cases hbr0
    have hrw3 := b3 _ _ nrp hrw2
    have hns3 := b3 _ _ nnp hns
    refine ⟨_, rfl, _, rfl, p, n, st3, ns, rfl, hp3, ok3, nnp, hns3, ln, fun H4 bn bns st4 b4 hp4 ok4 hbn0 hbn lbn => ?_⟩
    have hrw4 := b4 _ _ nrp hrw3
    have hns4 := b4 _ _ nnp hns3
    have hbr4 := b4 _ _ nbr hbr
    have lbr : brow.length ≤ 2001 := lbr
    have lbn : bns.length ≤ 40 := lbn
    refine ⟨_, rfl, _, rfl, br, bn, brow, bns, rfl, SqL.of hbr4, SqL.of hbn, by omega, by omega, fun Fa t hF ht0 => ?_⟩
    have s5 : Same H4 (upd H4 t (.tup (tellF bns Fa))) := .new ht0
    have ht5 : SqT K (upd H4 t (.tup (tellF bns Fa))) t (tellF bns Fa) := SqT.of upd_same
    generalize upd H4 t (.tup (tellF bns Fa)) = G at s5 ht5 ⊢
    have l20 : bns.length ≤ 2 ^ 20 := by omega
    have last : ∀ {G' : Hp}, Same G G' → ∃ r' a' row' ns', [V.ref r, V.ref n] ++ [] = [V.ref r', V.ref a'] ∧ SqL K G' r' (row'.map V.int) ∧ SqL K G' a' (ns'.map V.int) ∧ Fall row' ∧ ns'.length ≤ 30 ∧ bad top 0 ns' = none ∧ ∀ H', Same G' H' → Q (.bl true) H' := fun {G'} g => ⟨r, n, row, ns, rfl, SqL.of (g _ _ (s5 _ _ hrw4)), SqL.of (g _ _ (s5 _ _ hns4)), fl, ln, bad_none.2 hb, fun H' _ => q H'⟩
    have tries : ∀ {G' : Hp} {u : Addr} {way : Int} {N : Addr → Prop}, Same G G' → Fa ≠ .none → TryIs K N way brow bns G' u → Eqd K 1 G' (.ref u) (.ref t) := fun {G' u way N} g n k => eqd_atoms (try_fault hF n k) (g.seqT ht5) (tellF_len bns Fa) (tellF_atoms bns Fa)
    have hx : ∃ z, atI (tellF bns Fa) 0 = some (V.str z) ∧ ((z = "none") ↔ Fa = .none) := by
      cases Fa with
      | fall i => exact ⟨_, rfl, (fun e => absurd e (by decide)), fun e => nomatch e⟩
      | long => exact ⟨_, rfl, (fun e => absurd e (by decide)), fun e => nomatch e⟩
      | bad i n => exact ⟨_, rfl, (fun e => absurd e (by decide)), fun e => nomatch e⟩
      | none => exact ⟨_, rfl, fun _ => rfl, fun _ => rfl⟩
    obtain ⟨z, hz, iz⟩ := hx
    refine ⟨_, rfl, t, _, _, _, rfl, rfl, ht5, hz, rfl, _, rfl, ite2 (fun c => ?_) (fun c => ?_)⟩
    · have nz : Fa ≠ .none := fun e => by
        have := iz.mpr e
        subst this
        simp at c
      refine ⟨_, rfl, _, rfl, br, bn, brow, bns, 0, rfl, SqL.of (s5 _ _ hbr4), .inl (SqL.of (s5 _ _ hbn)), l20, fun H6 u s6 hu => ?_⟩
      refine ⟨_, rfl, _, _, rfl, tries s6 nz hu, _, rfl, nope rfl ?_⟩
      refine ⟨_, rfl, _, rfl, br, bn, brow, bns, 1, rfl, SqL.of (s6 _ _ (s5 _ _ hbr4)), .inl (SqL.of (s6 _ _ (s5 _ _ hbn))), l20, fun H7 u2 s7 hu2 => ?_⟩
      refine ⟨_, rfl, _, _, rfl, tries (s6.trans s7) nz hu2, _, rfl, nope rfl ?_⟩
      exact ⟨_, rfl, _, rfl, last (s6.trans s7)⟩
    · have ez : Fa = .none := by
        by_cases e : z = "none"
        · exact iz.mp e
        · exact absurd (by simp [e]) c
      subst ez
      obtain ⟨f1, f2, f3⟩ := hF
      refine ⟨_, rfl, _, rfl, br, bn, brow, bns, rfl, SqL.of (s5 _ _ hbr4), SqL.of (s5 _ _ hbn), f1, f2, f3, fun H6 s6 => ⟨_, rfl, nope rfl ?_⟩⟩
      exact ⟨_, rfl, _, rfl, last s6⟩
end
end K34

set_option maxRecDepth 100000
set_option maxHeartbeats 0
namespace K34
open PySem PySem.W PySem.Spec PySem.Calls PyProof.Rows L2 He He5 HX
theorem facts {w : World} {K : Frag} {h : Heap} {mg : Str → Option Value} {f : Addr} (X : K.In h) (G : h.Ns mainGlobals mg) (hfa : mg ("law" : Str) = some (.ref f)) (c : SaysX bx fn er "/claim/cut.py" K) :
    ∃ fd : FuncData, (∀ (s : Shared) (v : Value), BindsTo s fd ⟨[v], []⟩ [("script", v)]) ∧ ∀ base : Heap, K.In base → base.Ns mainGlobals mg → FnOk PG w K mg base CX0 13 f fd ["script"] (spLaw K) := by
  have T := tx_of c X G
  obtain ⟨fd, F⟩ := T.f_law
  have e := hfa.symm.trans T.g_law
  cases e
  exact ⟨fd, fun s v => FunD.bindsA (ps := ["script"]) F (fun _ _ _ _ _ _ us hl => match us, hl with | [_], _ => rfl) s [v] rfl, fun base _ _ => fn_law T F⟩
end K34
open PySem PySem.W PySem.Calls PyProof.Rows
theorem PySem.Challenge.cw_nightsoff_k34_row_allows_holds : PySem.Challenge.rw_nightsoff_k34_row_allows.Holds := by
  w_on; o_law
  refine HandSHeadRun.head_any (r := OpenLaw.row PySem.Challenge.rw_nightsoff_k34_row_allows) (q := view (OpenLaw.row PySem.Challenge.rw_nightsoff_k34_row_allows).prog [36]) (H := K34.hk) (ob := K34.ob) (M := 20000) (loose := K34.names) (d := HandSHeadRun.topDef (OpenLaw.row PySem.Challenge.rw_nightsoff_k34_row_allows).prog 36) (kwd := []) K34.ob_eq
    (by kernel_rfl) (fun s => by kernel_rfl) K34.run (by kernel_rfl) (by kernel_rfl) (by kernel_rfl) (by rfl) (by first | assumption | decide +kernel) (by decide +kernel) ⟨rfl, rfl, rfl, rfl, rfl, by decide +kernel⟩ ?hw ?hc
  case hw => w_witness2
  case hc =>
    refine L2.walk_ofX (l := PySem.Challenge.rw_nightsoff_k34_row_allows) (n := 63) (k := 13) (x := "script") (CX := fun _ => L2.CX0) rfl (by decide) (by kernel_rfl) ⟨rfl, by decide, by decide⟩ ?F (fun _ _ _ _ _ z => z)
    intro w mg fa h Y G hmg0
    obtain ⟨K, KX, c⟩ := Y
    have hmg : mg ("law" : PySem.Str) = some (.ref fa) := by
      have e : (HandSHeadRun.topDef (OpenLaw.row PySem.Challenge.rw_nightsoff_k34_row_allows).prog 36).name = ("law" : PySem.Str) := by kernel_rfl
      rw [← e]
      exact hmg0
    obtain ⟨fd, hb, hF⟩ := K34.facts (w := w) KX G hmg c
    exact ⟨K, fd, K34.spLaw K, KX, hb, fun H a ns hl _ _ hS => ⟨a, ns, rfl, hS, fun _ => rfl⟩, hF⟩
