import PyProof.Rows.All
import Wide.All
import OpenK.AllK
import Wide.FinOn
import KE.KExcSuper
import HandS.ForExc
import HandS.ExcInit
import HandS.TryMany
import HandS.ExcField
import HandS.ExcIs
import HandS.ExcSuper
import HandS.ForMost
import HandS.ClsMeth
import HandS.Star
import HandS.IsInst
import HandS.TupAny
import HandS.TupMul
import HandS.Style
import HandS.Wide
import HandS.Codes
import KE.KOpsOwn
import KE.GoesNew
import KE.GoesMore
import HandS.Iter
import HandS.Walk
import KE.KOwnIter
import KE.KSuperObj
import KE.KTupSum
import KE.KRevSl
import HandS.HeadNt
import HandS.HeadHook3
import HandS.Head2
import HandS.EndBits
import HandS.CallLocal
import HandS.ExcOwn
import HandS.WordsExc
import HandS.Strs
import KE.GoesZip
import HandS.Zip
import KE.KEqSeq
import HandS.SortKw
import HandS.MakeKw
import HandS.More
import PySem.Challenge.RW_nightsoff_k02_tellings
set_option Elab.async false
set_option linter.all false
set_option maxRecDepth 100000
set_option maxHeartbeats 4000000
/-! # Exceptions of the program: every class over NightsError whose __init__ says super().__init__(text) and then stores its parameters. -/
namespace NX
open PySem PySem.W PySem.Calls PyProof.Rows PySem.HandSPX

/-- the stores behind super().__init__: field and parameter -/
inductive Sto : List Stmt → List (Str × Str) → Prop
  | nil : Sto [] []
  | cons {f x : Str} {p1 p2 p3 p4 : Pos} {r : List Stmt} {l : List (Str × Str)} (h : Sto r l) : Sto (.Assign [.Attribute (.Name "self" p1) f p2] (.Name x p3) p4 :: r) ((f, x) :: l)

/-- an exception that is made: its fields, the newest first -/
def Half (h : Heap) (C e : Addr) (d : Option Addr) (fs : List (Str × Value)) : Prop :=
  ∃ t : Addr, h.get? e = some { cls := .ref C, dict := d, data := .fields #[.ref t, .none, .none, .none, .bool false, .none] } ∧
    match d with
    | none => fs = []
    | some dx => dx ≠ e ∧ ∃ m, h.Ns1 dx m ∧ ∀ f, m f = fs.lookup f

structure ClsX (K : Frag) (C : Addr) : Prop where
  cls : ∃ nm q N bs bm sn sub ab col dd k0 k1 k2 k3 k5, K.lookup C = some (excClassObj nm q C N bs bm true sn sub ab col dd k0 k1 k2 k3 k5 "ValueError.__new__") ∧ refsVE bm = true ∧ alongIn K "__init__" bm = some (some (.builtin "ValueError.__init__"))
  sa : findIn K (.ref C) "__setattr__" = some (some (.builtin "object.__setattr__"))
  ve : subIn K (.ref C) (.type "ValueError") = some true

theorem lookup_cons (f g : Str) (y : Value) (fs : List (Str × Value)) : ((f, y) :: fs).lookup g = if g = f then some y else fs.lookup g := by
  by_cases h : g = f
  · subst h
    simp [List.lookup]
  · have e : (g == f) = false := by simpa using h
    rw [if_neg h]
    simp [List.lookup, e]
theorem lookup_mem_keys : ∀ {l : List (Str × Value)} {x : Str} {v : Value}, l.lookup x = some v → x ∈ l.map (·.1)
  | [], _, _, h => by cases h
  | (f, y) :: r, x, v, h => by
    rw [lookup_cons] at h
    by_cases e : x = f
    · rw [e]
      exact List.mem_cons_self ..
    · rw [if_neg e] at h
      exact List.mem_cons_of_mem _ (lookup_mem_keys h)
theorem within_map {fs : List (Str × Value)} {m : Str → Option Value} (r : ∀ f, m f = fs.lookup f) : Within m (fs.map (·.1)) := fun y hy => by
  rw [r y] at hy
  clear r
  induction fs with
  | nil => exact absurd rfl hy
  | cons p l ih =>
    obtain ⟨f, z⟩ := p
    rw [lookup_cons] at hy
    by_cases e : y = f
    · rw [e]
      exact List.mem_cons_self ..
    · rw [if_neg e] at hy
      exact List.mem_cons_of_mem _ (ih hy)

section
variable {prog : Program} {w : World} {A : Around} {E : Value → Shared → Prop} {K : Frag} {C e L : Addr}
/-- one store -/
theorem put_field (T : ClsX K C) {h : Heap} {g : Array GenState} {dr : Drawn} {tk : Nat} {os : OsState} {d : Option Addr} {fs : List (Str × Value)} {f : Str} {v : Value} {Q : Unit → Shared → Prop} (X : K.In h) (I : Half h C e d fs) (hl : fs.length ≤ 900)
    (hno : findIn K (.ref C) f = some none)
    (hq : ∀ h' tk' d', Half h' C e (some d') ((f, v) :: fs) → (∀ b o, b ≠ e → (∀ dx, d = some dx → b ≠ dx) → h.get? b = some o → h'.get? b = some o) → (∀ dx, d = some dx → d' = dx) → (d = none → h.objs.size ≤ d') → Q () ⟨h', g, dr, tk', os⟩) :
    wpAny (model prog w) A (setAttr (.ref e) f v) Q E ⟨h, g, dr, tk, os⟩ := by
  obtain ⟨nm, q, N, bs, bm, sn, sub, ab, col, dd, k0, k1, k2, k3, k5, hC, hbm, _⟩ := T.cls
  have hcl : clsIn K C = some { name := nm, bases := bs, mro := .ref C :: bm, ns := N, qualname := q, hasDict := true, slotNames := sn, subclasses := sub, abstract := ab, collection := col, hasDel := false } := by unfold clsIn; rw [hC] <;> rfl
  obtain ⟨t, ho, hd⟩ := I
  cases d with
  | none =>
    have hfs : fs = [] := hd
    subst hfs
    refine set_plain X (ox := { cls := .ref C, dict := none, data := .fields #[.ref t, .none, .none, .none, .bool false, .none] }) (od := none) ⟨ho, rfl, rfl, trivial⟩ T.sa ?_
    refine exc_osa X ho hcl (show refsVE (.ref C :: bm) = true from hbm) rfl hno (fun h' tk' dx k dn dne hx hn => ?_)
    refine hq h' tk' dx ⟨t, hx, dne, _, hn, fun y => ?_⟩ (fun b o hb _ z => k b o hb z) (fun _ z => nomatch z) fun _ => dn
    rw [lookup_cons]
    rfl
  | some dx =>
    obtain ⟨dne, m, hns, rel⟩ := hd
    have hw := within_map rel
    obtain ⟨oD, _, _, hoD, _, _⟩ := hns.count hw
    refine set_plain X (ox := { cls := .ref C, dict := some dx, data := .fields #[.ref t, .none, .none, .none, .bool false, .none] }) (od := some oD) ⟨ho, rfl, rfl, hoD⟩ T.sa ?_
    refine PySem.OEX.osa_old X ho hns hw (by rw [List.length_map]; omega) hcl (show refsVE (.ref C :: bm) = true from hbm) rfl hno (fun h' tk' k hn => ?_)
    refine hq h' tk' dx ⟨t, k _ _ (Ne.symm dne) ho, dne, _, hn, fun y => ?_⟩ (fun b o _ hb z => k b o (hb dx rfl) z) (fun _ z => Option.some.inj z) fun z => nomatch z
    rw [lookup_cons, rel y]
/-- the stores, one after the other -/
theorem sto_run (T : ClsX K C) {env : Env} {m : Str → Option Value} (hLv : env.locals = L) (hk : env.scope.kind = .function) (hs : env.kindOf "self" = some .local) (hm : m "self" = some (.ref e)) :
    ∀ {r : List Stmt} {l : List (Str × Str)}, Sto r l → (∀ p ∈ l, env.kindOf p.2 = some .local ∧ (m p.2).isSome = true ∧ (p.2 == ("__debug__" : Str)) = false ∧ findIn K (.ref C) p.1 = some none) →
    ∀ {h : Heap} {g : Array GenState} {dr : Drawn} {tk : Nat} {os : OsState} {d : Option Addr} {fs : List (Str × Value)} {Q : Flow → Shared → Prop}, K.In h → K.lookup e = none → (∀ dx, d = some dx → K.lookup dx = none) → Half h C e d fs → L ≠ e → (∀ dx, d = some dx → L ≠ dx) → h.Ns L m → fs.length + l.length ≤ 900 →
      (∀ h' tk' d', Half h' C e d' ((l.map fun p => (p.1, (m p.2).getD .none)).reverse ++ fs) → (∀ b o, b ≠ e → (∀ dx, d = some dx → b ≠ dx) → h.get? b = some o → h'.get? b = some o) → (∀ dx, d = some dx → d' = some dx) →
        (d = none → ∀ dx, d' = some dx → h.objs.size ≤ dx) → Q .next ⟨h', g, dr, tk', os⟩) →
      wpAny (model prog w) A (execs r env) Q E ⟨h, g, dr, tk, os⟩ := by
  intro r l S
  induction S with
  | nil =>
    intro _ h g dr tk os d fs Q _ _ _ I _ _ _ _ hq
    exact wpAny_execs_nil (hq h tk d I (fun _ _ _ _ z => z) (fun _ z => z) fun z dx y => by rw [z] at y; cases y)
  | @cons f x p1 p2 p3 p4 r l hS ih =>
    intro hp h g dr tk os d fs Q X he hde I hLe hLd hn hl hq
    obtain ⟨q1, q2, q3, q4⟩ := hp (f, x) (List.mem_cons_self ..)
    obtain ⟨v, hv⟩ := Option.isSome_iff_exists.mp q2
    subst hLv
    refine wpAny_execs_cons (plainObj_wpAny_Assign_Attribute ?_)
    refine PySem.ESX.ldL (v := v) hn hv (PySem.ESX.ldL (v := .ref e) hn hm ?_ hk hs) hk q1 q3
    refine put_field T X I (by simp only [List.length_cons] at hl; omega) q4 fun h' tk' d' I' k' kd kn => ?_
    have nb : ∀ b o, K.lookup b = some o → b ≠ e ∧ ∀ dx, d = some dx → b ≠ dx := fun b o z => ⟨fun y => (by rw [y, he] at z; cases z), fun dx y w => (by rw [w, hde dx y] at z; cases z)⟩
    have X' : K.In h' := fun b o z => k' b o (nb b o z).1 (nb b o z).2 (X b o z)
    have hLn : env.locals < h.objs.size := hn.lt
    have hLd' : env.locals ≠ d' := by
      cases d with
      | none => exact Nat.ne_of_lt (Nat.lt_of_lt_of_le hLn (kn rfl))
      | some dx => rw [kd dx rfl]; exact hLd dx rfl
    have hn' : h'.Ns env.locals m := by
      obtain ⟨oL, es, ep, hL, rr⟩ := hn
      exact ⟨oL, es, ep, k' _ _ hLe hLd hL, rr⟩
    have he' : K.lookup d' = none := by
      cases d with
      | none =>
        cases z : K.lookup d' with
        | none => rfl
        | some o => exact absurd (Nat.lt_of_lt_of_le (Heap.lt_size (X _ _ z)) (kn rfl)) (Nat.lt_irrefl _)
      | some dx => rw [kd dx rfl]; exact hde dx rfl
    refine ih (fun p hp' => hp p (List.mem_cons_of_mem _ hp')) X' he (fun dx z => by cases z; exact he') I' hLe (fun dx z => by cases z; exact hLd') hn' (by simp only [List.length_cons] at hl ⊢; omega) fun h2 tk2 d2 I2 k2 kd2 _ => ?_
    have ed2 : d2 = some d' := kd2 d' rfl
    refine hq h2 tk2 d2 ?_ (fun b o hb hd z => k2 b o hb (fun dx y => ?_) (k' b o hb hd z)) (fun dx z => ?_) fun z dx y => ?_
    · rw [List.map_cons, List.reverse_cons, List.append_assoc]
      rw [hv]
      exact I2
    · cases y
      cases d with
      | none => exact Nat.ne_of_lt (Nat.lt_of_lt_of_le (Heap.lt_size z) (kn rfl))
      | some dx => rw [kd dx rfl]; exact hd dx rfl
    · rw [ed2, kd dx z]
    · rw [ed2] at y
      cases y
      exact kn z
end

/-- the statement super().__init__(text) -/
def supS (msg : Str) (k : Nat) (q1 q2 q3 q4 q5 q6 : Pos) : Stmt := .Expr (.Call (.Attribute (.Call (.Name "super" q1) [] [] q2) "__init__" q3) [.Constant (.str msg) k q4] [] q5) q6
structure InitX (prog : Program) (K : Frag) (C fI : Addr) (qual : Str) (params : Arguments) (scope : Scope) (body : List Stmt) (ar : Arg) (l : List (Str × Str)) : Prop where
  txt : ∃ msg k q1 q2 q3 q4 q5 q6 r, body = supS msg k q1 q2 q3 q4 q5 q6 :: r ∧ Sto r l ∧ (∀ env : Env, env.scope = scope → interactive env = false) ∧
    ∀ env : Env, env.scope = scope → ∃ pl : Sem Bool, eval (.Call (.Attribute (.Call (.Name "super" q1) [] [] q2) "__init__" q3) [.Constant (.str msg) k q4] [] q5) env = (do
      let ov ← attributeBase (.Call (.Name "super" q1) [] [] q2) "__init__" env (eval (.Call (.Name "super" q1) [] [] q2) env)
      standAt q3.atName
      let (f, first) ← holding [ov] (getMethod ov "__init__" pl)
      callWith q5 f first (backTo q5 (starEach [.Constant (.str msg) k q4] env)) [])
  iC : findIn K (.ref C) "__init__" = some (some (.ref fI))
  tC : typeIn K (.ref fI) = some (.type "function")
  fn : ∃ (oc : Value) (od : Option Addr) (kV doc pm : Value) (an : Option Addr) (cda : Addr) (ct : Value) (osl : Array (Option Value)) (cc : Addr) (cl : Value) (cld : Option Addr) (csl : Array (Option Value)) (ccl : Value) (cdd : Option Addr) (vs : Array Value) (ccs : Array (Option Value)) (file : Str) (tf : Tok),
    K.lookup fI = some ⟨oc, od, .func (ksFn "__init__" qual params body scope .none kV doc pm an (.ref cda) ct cc), osl⟩ ∧ codeIn K (.ref cda) qual = true ∧
    K.lookup cc = some ⟨cl, cld, .cell (some (.ref C)), csl⟩ ∧ K.lookup cda = some ⟨ccl, cdd, .fields vs, ccs⟩ ∧ vs[2]? = some (.str file tf) ∧ ((prog.main.file : Str) == file) = true
  par : (params.posonlyargs ++ params.args).head? = some ar
  arN : ar.arg = "self"
  sup : scope.names.lookup ("super" : Str) = some .globalImplicit
  cls : scope.names.lookup ("__class__" : Str) = some .free
  slf : scope.names.lookup ("self" : Str) = some .local
  loc : ∀ p ∈ l, scope.names.lookup p.2 = some .local ∧ (p.2 == ("__debug__" : Str)) = false ∧ findIn K (.ref C) p.1 = some none
  cell : ∀ x ∈ scope.names, x.2 ≠ .cell
  kind : scope.kind = .function
  co : scope.isCoroutine = false
  gen : scope.isGenerator = false
  top : (prog.main.scope.names.lookup ("super" : Str)).isSome = false
  few : l.length ≤ 900

/-- what stands behind the making of an exception -/
structure Made (h h' : Heap) (C e : Addr) (d : Option Addr) (fs : List (Str × Value)) : Prop where
  keep : ∀ b o, h.get? b = some o → h'.get? b = some o
  new : h.objs.size ≤ e
  obj : Half h' C e d fs
  dct : ∀ dx, d = some dx → h.objs.size ≤ dx

/-- a bound wrapper called with one written text -/
theorem mw_call {M : Model} {A : Around} {E : Value → Shared → Prop} {s : Shared} {u x : Addr} {i : String} {pos : Pos} {env : Env} {msg : Str} {kk : Nat} {q4 : Pos} {Q : Value → Shared → Prop} (hu : s.heap.get? u = some (kxs_mw i x))
    (h : ∀ t, wpAny M A (call (.ref u) [.str msg t]) Q E { s with toks := s.toks + 1 }) :
    wpAny M A (callWith pos (.ref u) [] (backTo pos (starEach [.Constant (.str msg) kk q4] env)) []) Q E s := by
  have he : starEach [.Constant (.str msg) kk q4] env = (false, eval (.Constant (.str msg) kk q4) env) :: starEach [] env := by rfl
  have hpl : (backTo pos (starEach [] env)).any (·.1) = false := by rfl
  rw [he]
  refine kxs_callWith (i := i) (x := x) (by show (false || (backTo pos (starEach [] env)).any (·.1)) = false; rw [hpl]; rfl) (evalArgs_plain ?_)
  show wpAny M A (spliced (backTo pos (starEach [.Constant (.str msg) kk q4] env))) _ E s
  exact spliced_more (Calls.Constant_str (spliced_none ⟨hu, h _⟩))

section
variable {prog : Program} {w : World} {A : Around} {R : Result → Shared → Prop} {K : Frag} {C fI : Addr} {qual : Str} {params : Arguments} {scope : Scope} {body : List Stmt} {ar : Arg} {l : List (Str × Str)} {mg mb : Str → Option Value}
theorem exn_made (T : ClsX K C) (I : InitX prog K C fI qual params scope body ar l) {s : Shared} {us : List Value} {binds : List (Str × Value)} (X : K.In s.heap) (hlim : s.heap.NoLimit) (hG : s.heap.Ns mainGlobals mg) (hB : s.heap.Ns builtinsNs mb) (hsup : mg "super" = none) (hmb : mb "super" = some (.type "super"))
    (ho : nsIn K cStatics "thirdparty.any" = some none)
    (hroom : A.depth + 1 < recursionLimit) (hlen : us.length ≤ sizeLine)
    (hbind : ∀ (s' : Shared) (e : Addr) (fd : FuncData), fd.params = params → fd.scope = scope → fd.defaults = .none → BindsTo s' fd ⟨.ref e :: us, []⟩ (("self", .ref e) :: binds))
    (hin : ∀ p ∈ l, (binds.lookup p.2).isSome = true) (hbl : ∀ y ∈ binds, scope.names.lookup y.1 = some .local) (hnd : (binds.map (·.1)).Nodup ∧ ("self" : Str) ∉ binds.map (·.1))
    (hq : ∀ h' tk e d, Made s.heap h' C e d (l.map fun p => (p.1, (binds.lookup p.2).getD .none)).reverse → R (.ok (.ret (.ref e))) { s with heap := h', toks := tk }) :
    codeAny (model prog w) A (.call (.ref C) ⟨us, []⟩) R s := by
  obtain ⟨nm, q, N, bs, bm, sn, sub, ab, col, dd, k0, k1, k2, k3, k5, hC, hbm, hal⟩ := T.cls
  obtain ⟨msg, kk, q1, q2, q3, q4, q5, q6, r, eb, hS, hint, hev⟩ := I.txt
  obtain ⟨oc, od, kV, doc, pm, an, cda, ct, osl, cc, cl, cld, csl, ccl, cdd, vs, ccs, file, tf, hfn, hcd, hcell, hcda, hvs, hfile⟩ := I.fn
  have hcl : clsIn K C = some { name := nm, bases := bs, mro := .ref C :: bm, ns := N, qualname := q, hasDict := true, slotNames := sn, subclasses := sub, abstract := ab, collection := col, hasDel := false } := by unfold clsIn; rw [hC] <;> rfl
  obtain ⟨hp, g, dr, tk, os⟩ := s
  have k : ∀ b o, hp.get? b = some o → ((hp.push (kdv_tup us)).push (excO C hp.objs.size)).get? b = some o := fun b o e => Heap.get?_push_of_some _ (Heap.get?_push_of_some _ e)
  have hget : ((hp.push (kdv_tup us)).push (excO C hp.objs.size)).get? (hp.objs.size + 1) = some (excO C hp.objs.size) := by heap_get
  have hnx : K.lookup (hp.objs.size + 1) = none := by
    cases e : K.lookup (hp.objs.size + 1) with
    | none => rfl
    | some o =>
      have z : hp.get? (hp.objs.size + 1) = some o := X _ _ e
      exact absurd (Nat.lt_of_succ_lt (Heap.lt_size z)) (Nat.lt_irrefl _)
  refine call_own F.excBase_ValueError (fun X => refsVE_contains X bm hbm) (X _ _ hC) (looks_findIn X I.iC) (fun self => bind_fn X self I.tC) hlen ?_
  refine ks_codeAny_call_defAt (binds := ("self", .ref (hp.objs.size + 1)) :: binds) (body := body) (show A.depth + 1 < recursionLimit from hroom) (k _ _ (X _ _ hfn)) rfl (hlim.keeps k) (codeRec_of (X.keeps k) hcd) rfl (hbind _ _ _ rfl rfl rfl) I.cell ?_ (fun h₀ hns hk₀ => ?_) I.co I.gen I.kind
  · intro x hx
    rcases List.mem_cons.mp hx with rfl | hx
    · exact I.slf
    · exact hbl x hx
  · subst eb
    let env : Env := callEnv (ksFn "__init__" qual params (supS msg kk q1 q2 q3 q4 q5 q6 :: r) scope .none kV doc pm an (.ref cda) ct cc) ((hp.push (kdv_tup us)).push (excO C hp.objs.size)).objs.size fI
    have k₀ : ∀ b o, hp.get? b = some o → h₀.get? b = some o := fun b o z => hk₀ b o (k b o z)
    have X₀ : K.In h₀ := X.keeps k₀
    have hx₀ := hk₀ _ _ hget
    obtain ⟨pl, hpl⟩ := hev env rfl
    refine ks_wpAt_execs_cons (ks_wpAt_Expr_any (ks_wpAt_MethodCall (pl := pl) ?_ hpl) (hint env rfl))
    refine ks_wpAt_super_base (f := fI) (cc := cda) I.sup I.cls (by decide) rfl (X₀ _ _ hfn) rfl I.par rfl (X₀ _ _ hcda) rfl hvs hfile I.top ?_
    refine ks_loadName_global I.kind I.sup (loadGlobal_builtin (hG.keeps k₀) hsup (hB.keeps k₀) hmb ⟨rfl, ?_⟩)
    refine wpAny_loadName_free I.kind I.cls rfl ⟨_, X₀ _ _ hcell, rfl⟩ ?_
    refine wpAny_loadName_local I.kind (show env.kindOf ar.arg = some .local by rw [I.arN]; exact I.slf) hns (v := .ref (hp.objs.size + 1)) (by rw [I.arN, lookup_reverse_of_nodup _ (by rw [List.map_cons]; exact List.nodup_cons.mpr ⟨hnd.2, hnd.1⟩)]; simp [List.lookup]) ?_
    refine ks_wpAny_isType_cls (X₀ _ _ hC) rfl ⟨rfl, ?_⟩
    refine ks_wpAny_call_super (X₀ _ _ hC) rfl hx₀ rfl (fun c z => nomatch z) (looks_mroIn X₀ ?_) (fun h1 e1 k1 => ?_)
    · unfold mroIn
      rw [hcl, Option.bind_some, if_neg (show ¬ (List.isEmpty (Value.ref C :: bm) = true) from Bool.false_ne_true)]
      simp
    · have X₁ : K.In h1 := X₀.keeps k1
      have hx₁ := k1 _ _ hx₀
      have Ity : Looks (model prog w) h1 (typeOf (.ref (hp.objs.size + 1))) (.ref C) := (show InstAt h1 (hp.objs.size + 1) (excO C hp.objs.size) C none from ⟨hx₁, rfl, rfl, trivial⟩).type
      have hxC : hp.objs.size + 1 ≠ C := fun z => by
        have y := X _ _ hC
        rw [← z] at y
        exact absurd (Nat.lt_of_succ_lt (Heap.lt_size y)) (Nat.lt_irrefl _)
      refine kxs_getMethod kxs_ValueError e1 (looks_opaque X₁ ho) ((looks_clsIn X₁ hcl).andThen .now) (l := bm) (by simp [List.dropWhile_cons]) X₁ hal (Ity.andThen (looks_subIn X₁ T.ve)) hxC (by decide) ?_
      refine mw_call (u := h1.objs.size) (x := hp.objs.size + 1) (Heap.get?_push_at rfl rfl) fun t => ?_
      have hw : (h1.push (kxs_mw "ValueError.__init__" (hp.objs.size + 1))).get? h1.objs.size = some (kxs_mw "ValueError.__init__" (hp.objs.size + 1)) := Heap.get?_push_at rfl rfl
      have k2 : ∀ b o, h1.get? b = some o → (h1.push (kxs_mw "ValueError.__init__" (hp.objs.size + 1))).get? b = some o := fun b o z => Heap.get?_push_of_some _ z
      have X₂ : K.In _ := X₁.keeps k2
      refine wpAny_call (codeAny_of_tree ?_)
      show wpAny _ _ (callAny (.ref h1.objs.size) ⟨[.str msg t], []⟩) _ _ _
      simp only [callAny]
      refine wpAny_bind (wpAny_load hw ?_)
      simp only [kxs_mw, show (Value.type "method-wrapper" == Value.type "method" || Value.type "method-wrapper" == Value.type "builtin_function_or_method" || Value.type "method-wrapper" == Value.type "method-wrapper") = true by decide, if_true]
      refine KFB.if_so (by decide) ?_
      refine wpAny_bind (check_bound_init F.excBase_ValueError.toExcCallFacts (X₂ _ _ hC) (k2 _ _ hx₁) rfl ?_)
      refine wpAny_bind (wpAny_pure (wpAny_pure ?_))
      refine ⟨plainId_quiet F.excBase_ValueError.init.plain _, codeAny_builtin F.excBase_ValueError.initEntry ?_⟩
      refine exc_init_tree (cls := .ref C) (t0 := hp.objs.size) (dv := none) (c2 := .none) (c3 := .none) (b4 := .bool false) (k2 _ _ hx₁) (by show 1 ≤ sizeLine; decide) fun h3 k3 e3 _ => ?_
      have kk3 : ∀ b o, b ≠ hp.objs.size + 1 → h₀.get? b = some o → h3.get? b = some o := fun b o hb z => k3 b o hb (k2 b o (k1 b o z))
      have notE : ∀ b o, hp.get? b = some o → b ≠ hp.objs.size + 1 := fun b o z => Nat.ne_of_lt (Nat.lt_of_lt_of_le (Heap.lt_size z) (Nat.le_succ _))
      have k4 : ∀ b o, hp.get? b = some o → h3.get? b = some o := fun b o z => kk3 b o (notE b o z) (k₀ b o z)
      have hL : env.locals ≠ hp.objs.size + 1 := by
        show ((hp.push (kdv_tup us)).push (excO C hp.objs.size)).objs.size ≠ hp.objs.size + 1
        rw [Heap.size_push, Heap.size_push]
        omega
      have hn3 : h3.Ns env.locals fun x => List.lookup x ((("self" : Str), Value.ref (hp.objs.size + 1)) :: binds).reverse := by
        obtain ⟨oL, es, ep, hoL, rr⟩ := hns
        exact ⟨oL, es, ep, kk3 _ _ hL hoL, rr⟩
      have nd : (((("self" : Str), Value.ref (hp.objs.size + 1)) :: binds).map (·.1)).Nodup := by
        rw [List.map_cons]
        exact List.nodup_cons.mpr ⟨hnd.2, hnd.1⟩
      have lk : ∀ x : Str, x ≠ "self" → List.lookup x ((("self" : Str), Value.ref (hp.objs.size + 1)) :: binds).reverse = binds.lookup x := fun x hx => by
        rw [lookup_reverse_of_nodup _ nd, lookup_cons, if_neg hx]
      have pne : ∀ p ∈ l, p.2 ≠ ("self" : Str) := fun p hp' e => by
        have q := hin p hp'
        rw [e] at q
        obtain ⟨v, hv⟩ := Option.isSome_iff_exists.mp q
        have : ("self" : Str) ∈ binds.map (·.1) := by
          exact lookup_mem_keys hv
        exact hnd.2 this
      refine wpAt_of_wpAny (sto_run T (env := env) (d := none) rfl I.kind I.slf (by rw [lookup_reverse_of_nodup _ nd, lookup_cons, if_pos rfl]) hS (fun p hp' => ?_) (X.keeps k4) hnx (fun _ z => nomatch z) ⟨_, e3, rfl⟩ hL (fun _ z => nomatch z) hn3 (by have := I.few; simpa using this) fun h4 tk4 d4 I4 k5 _ kn => ?_)
      · obtain ⟨a1, a2, a3⟩ := I.loc p hp'
        exact ⟨a1, by rw [lk _ (pne p hp')]; exact hin p hp', a2, a3⟩
      · refine ⟨rfl, hq h4 tk4 _ d4 ⟨fun b o z => k5 b o (notE b o z) (fun _ y => nomatch y) (k4 b o z), Nat.le_succ _, ?_, fun dx y => ?_⟩⟩
        · have e5 : (l.map fun p => (p.1, (List.lookup p.2 ((("self" : Str), Value.ref (hp.objs.size + 1)) :: binds).reverse).getD Value.none)) = l.map fun p => (p.1, (binds.lookup p.2).getD Value.none) :=
            List.map_congr_left fun p hp' => by rw [lk _ (pne p hp')]
          rw [e5, List.append_nil] at I4
          exact I4
        · have b : hp.objs.size ≤ h3.objs.size := Nat.le_trans (Nat.le_succ _) (Nat.le_of_lt (Heap.lt_size e3))
          exact Nat.le_trans b (kn rfl dx y)
end
end NX

set_option maxRecDepth 100000
set_option maxHeartbeats 4000000
/-! # Raising them, over the layer -/
namespace L2
open PySem PySem.Spec PyProof.Rows

/-- a class of the program's errors: its parameters ps, what it stores (field, parameter) -/
structure Exn (prog : Program) (K : PySem.W.Frag) (mg : Str → Option Value) (x : Str) (C fI : Addr) (ps : List Str) (l : List (Str × Str)) : Prop where
  cls : NX.ClsX K C
  ini : ∃ qual params scope body ar, NX.InitX prog K C fI qual params scope body ar l ∧ (∀ (s' : Shared) (e : Addr) (fd : FuncData) (us : List Value), us.length = ps.length → fd.params = params → fd.scope = scope → fd.defaults = .none → BindsTo s' fd ⟨.ref e :: us, []⟩ (("self", .ref e) :: ps.zip us)) ∧
    ∀ p ∈ ps, scope.names.lookup p = some .local
  loc : ∀ p ∈ l, p.2 ∈ ps
  nod : ps.Nodup ∧ ("self" : Str) ∉ ps
  gC : mg x = some (.ref C)
  sup : mg "super" = none
  any : PySem.W.nsIn K cStatics "thirdparty.any" = some none
  kC : PySem.W.keepIn K (.ref C) = true
  exC : PySem.W.subIn K (.ref C) (.type "BaseException") = some true
  tyC : PySem.W.typeIn K (.ref C) = some (.type "type")

/-- the fields of an error made with vs -/
def fieldsX (ps : List Str) (l : List (Str × Str)) (vs : List V) : List (Str × V) := (l.map fun p => (p.1, ((ps.zip vs).lookup p.2).getD .non)).reverse

theorem look_zip : ∀ {ps : List Str} {vs : List V} {us : List Value} {x : Str}, Vals vs us → RelO ((ps.zip vs).lookup x) ((ps.zip us).lookup x)
  | [], _, _, _, _ => by simp [RelO]
  | _ :: _, [], _, _, .nil => by simp [RelO]
  | p :: ps, v :: vs, _, x, .cons (b := u) r t => by
    rw [List.zip_cons_cons, List.zip_cons_cons]
    by_cases e : x = p
    · subst e
      simpa [List.lookup, RelO] using r
    · have q : (x == p) = false := by simpa using e
      simp only [List.lookup, q]
      exact look_zip t
theorem look_some : ∀ {ps : List Str} {us : List Value} {x : Str}, x ∈ ps → us.length = ps.length → ((ps.zip us).lookup x).isSome = true
  | [], _, _, h, _ => by cases h
  | p :: ps, [], _, _, h => by cases h
  | p :: ps, u :: us, x, h, hl => by
    rw [List.zip_cons_cons, NX.lookup_cons]
    by_cases e : x = p
    · rw [if_pos e]
      rfl
    · rw [if_neg e]
      exact look_some ((List.mem_cons.mp h).resolve_left e) (by simpa using hl)
theorem map_fst_zip : ∀ {ps : List Str} {us : List Value}, us.length = ps.length → (ps.zip us).map (·.1) = ps
  | [], _, _ => rfl
  | p :: ps, [], h => by cases h
  | p :: ps, u :: us, h => by
    rw [List.zip_cons_cons, List.map_cons, map_fst_zip (by simpa using h)]
theorem relO_fields {ps : List Str} {vs : List V} {us : List Value} (r : Vals vs us) (hl : us.length = ps.length) : ∀ {l : List (Str × Str)}, (∀ p ∈ l, p.2 ∈ ps) → ∀ f, RelO ((fieldsX ps l vs).lookup f) (((l.map fun p => (p.1, ((ps.zip us).lookup p.2).getD Value.none)).reverse).lookup f) := by
  intro l hp f
  have key : ∀ {l : List (Str × Str)}, (∀ p ∈ l, p.2 ∈ ps) → RelO ((l.map fun p => (p.1, ((ps.zip vs).lookup p.2).getD V.non)).lookup f) ((l.map fun p => (p.1, ((ps.zip us).lookup p.2).getD Value.none)).lookup f) := by
    intro l
    induction l with
    | nil => intro _; simp [RelO]
    | cons p r' ih =>
      intro hp
      rw [List.map_cons, List.map_cons]
      by_cases e : f = p.1
      · have q : (f == p.1) = true := by simpa using e
        simp only [List.lookup, q]
        have z := look_zip (ps := ps) (x := p.2) r
        obtain ⟨u, hu⟩ := Option.isSome_iff_exists.mp (look_some (us := us) (hp p (List.mem_cons_self ..)) hl)
        rw [hu] at z ⊢
        cases y : List.lookup p.2 (ps.zip vs) with
        | none => rw [y] at z; exact z.elim
        | some v => rw [y] at z; exact z
      · have q : (f == p.1) = false := by simpa using e
        simp only [List.lookup, q]
        exact ih fun p' h' => hp p' (List.mem_cons_of_mem _ h')
  unfold fieldsX
  rw [← List.map_reverse, ← List.map_reverse]
  exact key fun p h => hp p (List.mem_reverse.mp h)

/-- X(e, ..) -/
def tMkX (C : Addr) (ps : List Str) (l : List (Str × Str)) (ta : TA) : St → Hp → XK → Prop := fun σ H Q => ta σ H fun vs H1 => vs.length = ps.length ∧ ∀ d, H1 d = none → Q (.ref C) (some d) (upd H1 d (.xd (fieldsX ps l vs)))
section
variable {X : Cx} {C fI : Addr} {x : Str} {ps : List Str} {l : List (Str × Str)}
theorem mk_made (T : Exn X.prog X.K X.mg x C fI ps l) (hl0 : l ≠ []) {k : Nat} (hr : Room k X.A) {pins : List (Addr × Obj)} {σ : St} {H1 : Hp} {Q : XK} {s1 : Shared} {vs : List V} {us : List Value} (I1 : Inv X pins σ H1 s1) (r1 : Vals vs us) (hlen : vs.length = ps.length) (hps : ps.length ≤ 900)
    (q1 : ∀ d, H1 d = none → Q (.ref C) (some d) (upd H1 d (.xd (fieldsX ps l vs)))) : wpAny (model X.prog X.w) X.A (call (.ref C) us) (MkP X pins σ Q) X.xe s1 := by
  obtain ⟨qual, params, scope, body, ar, hI, hb, hloc⟩ := T.ini
  have hus : us.length = ps.length := by rw [← r1.length]; exact hlen
  obtain ⟨hG, mb, hB, hbb⟩ : s1.heap.Ns mainGlobals X.mg ∧ ∃ mb : Str → Option Value, s1.heap.Ns builtinsNs mb ∧ ∀ x : Str, x ≠ "__name__" → mb x = bootBuiltins x := by
    obtain ⟨_, h1, ⟨mb, h2, h3⟩, _⟩ := I1.mod
    exact ⟨h1.keeps I1.bk, mb, h2.keeps I1.bk, h3⟩
  refine wpAny_call (NX.exn_made (binds := ps.zip us) T.cls hI I1.kIn I1.nolimit hG hB T.sup ((hbb _ (by decide)).trans (by decide +kernel)) T.any (by have := hr.dp; omega) (by rw [hus]; exact Nat.le_trans hps (by decide)) (fun s' e fd h1 h2 h3 => hb s' e fd us hus h1 h2 h3)
    (fun p hp => look_some (T.loc p hp) hus) (fun y hy => hloc _ (by rw [← map_fst_zip hus]; exact List.mem_map_of_mem hy)) (by rw [map_fst_zip hus]; exact T.nod) fun h' tk' e d M => ?_)
  obtain ⟨hp, g, dr, tk, os⟩ := s1
  obtain ⟨t0, hoe, hdd⟩ := M.obj
  cases d with
  | none => exact absurd (by simpa using hdd) hl0
  | some d =>
    obtain ⟨dne, m, hns, hm⟩ := hdd
    show MkP X pins σ Q (.ref e) ⟨h', g, dr, tk', os⟩
    obtain ⟨G', g1, g2⟩ := restrict h' fun b => decide (b ≠ e)
    have gk : ∀ b, b ≠ e → G'.get? b = h'.get? b := fun b hb => g1 b (decide_eq_true hb)
    have ge : G'.get? e = none := g2 e (by simp)
    have old : ∀ b o, hp.get? b = some o → G'.get? b = some o := fun b o q => (gk b (Nat.ne_of_lt (Nat.lt_of_lt_of_le (Heap.lt_size q) M.new))).trans (M.keep b o q)
    have dbig : hp.objs.size ≤ d := M.dct d rfl
    have ob : ObjOk X.prog X.w (upd H1 d (.xd (fieldsX ps l vs))) G' d (.xd (fieldsX ps l vs)) :=
      ⟨m, hns.at (fun o q => (gk d dne).trans q), fun f => by rw [hm f]; exact relO_fields r1 hus T.loc f⟩
    have J : Inv X pins σ (upd H1 d (.xd (fieldsX ps l vs))) ⟨G', g, dr, tk', os⟩ := I1.laid (t' := tk') old dbig ob
    refine ⟨e, _, _, ⟨G', g, dr, tk', os⟩, _, .ref C, some d, rfl, J, fun b o q => ?_, ge, hoe, ⟨rfl, rfl⟩, rfl, rfl, ?_, rfl, I1.bare, raises_own T.exC T.tyC, q1 d (I1.hok.fresh dbig)⟩
    · by_cases hb : b = e
      · have q' : G'.get? b = some o := q
        rw [hb, ge] at q'; cases q'
      · exact (gk b hb).symm.trans q
    · rw [upd_ne (Ne.symm dne)]
      exact I1.hok.fresh M.new
variable {e : Expr} {es : List Expr} {ta : TA} {p pos pos2 : Pos} {W : WX} {k : Nat}
theorem pmk_x (T : Exn X.prog X.K X.mg x C fI ps l) (hl0 : l ≠ []) (hps : ps.length ≤ 900) (hr : Room k X.A) (hg : Gl X x) (ha : PA X (e :: es) ta) (hdb : (x == ("__debug__" : Str)) = false := by decide)
    (he : starEach (e :: es) X.env = (false, eval e X.env) :: starEach es X.env := by rfl) (hpl : (backTo pos (starEach es X.env)).any (·.1) = false := by rfl) :
    PMk X (.Call (.Name x p) (e :: es) [] pos) (tMkX C ps l ta) := by
  intro pins s σ H Q I h
  refine wpAny_Call_Name_kw (ld_glob I hg T.gC ?_ hdb)
  refine PySem.W.callWith_K (h₀ := X.base) I.ok.mod.kin T.kC (thn (ha.run pos pins s σ H _ I h) fun us s1 hh => ?_) he hpl
  obtain ⟨vs, H1, I1, r1, hlen, q1⟩ := hh
  exact ⟨I1.kIn, mk_made T hl0 hr I1 r1 hlen hps q1⟩
/-- raise X(e, ..) -/
def tRaiseX (C : Addr) (ps : List Str) (l : List (Str × Str)) (W : WX) (ta : TA) : TS := fun _ σ H => tMkX C ps l ta σ H fun cls d H' => W cls d σ H'
theorem ps_raiseX (hc : X.calm = true) (T : Exn X.prog X.K X.mg x C fI ps l) (hl0 : l ≠ []) (hps : ps.length ≤ 900) (hr : Room k X.A) (tk : Takes X W) (hg : Gl X x) (ha : PA X (e :: es) ta) (hdb : (x == ("__debug__" : Str)) = false := by decide)
    (he : starEach (e :: es) X.env = (false, eval e X.env) :: starEach es X.env := by rfl) (hpl : (backTo pos (starEach es X.env)).any (·.1) = false := by rfl) :
    PS X (.Raise (some (.Call (.Name x p) (e :: es) [] pos)) none pos2) (tRaiseX C ps l W ta) := ps_raise hc tk (pmk_x T hl0 hps hr hg ha hdb he hpl)
end
end L2

set_option maxRecDepth 100000
set_option maxHeartbeats 4000000
/-! # Further rules over the layer -/
namespace L2
open PySem PySem.Spec PyProof.Rows
/-- x is True, x is False -/
def rIsTF : R2 := fun x y H Q => ∃ b : Bool, y = .bl b ∧ Q (.bl (decide (x = .bl b))) H
theorem op_isTF {X : Cx} : OpR X (compareOp .Is) rIsTF := by
  intro pins s σ H x y v u Q I rx ry h
  obtain ⟨b, rfl, q⟩ := h
  cases ry
  cases x with
  | non => cases rx; exact wpAny_pure (fin_bl I q (by simp))
  | bl c => cases rx; exact wpAny_pure (fin_bl I q (by cases b <;> cases c <;> rfl))
  | int i => obtain ⟨t, rfl⟩ := rx; exact wpAny_pure (fin_bl I q (by simp))
  | str i => obtain ⟨t, rfl⟩ := rx; exact wpAny_pure (fin_bl I q (by simp))
  | byt i => obtain ⟨t, rfl⟩ := rx; exact wpAny_pure (fin_bl I q (by simp))
  | flt i => obtain ⟨t, rfl⟩ := rx; exact wpAny_pure (fin_bl I q (by simp))
  | ref a => cases rx; exact wpAny_pure (fin_bl I q (by simp))
  | ty n => cases rx; exact wpAny_pure (fin_bl I q (by simp))

/-! ### operators that an own class defines -/
/-- what a class says of its own method for the operator op (forward) -/
structure OwnOp (K : PySem.W.Frag) (C : Addr) (op : Operator) (f : Addr) : Prop where
  first : PySem.W.selfFirst K C = true
  at_ : PySem.W.findIn K (.ref C) (PySem.dunder op.info.2) = some (some (.ref f))
  fn : PySem.W.isFn K (.ref f) = true
/-- .. against a value of the built-in class T -/
structure OwnOpT (K : PySem.W.Frag) (C : Addr) (op : Operator) (f : Addr) (T : String) : Prop extends OwnOp K C op f where
  rev : ∃ rc, PySem.W.findIn K (.ref C) (dunderR op.info.2) = some rc ∧ (rc = none ∨ ∃ g : Addr, rc = some (.ref g))
  tf : ∃ fo, PySem.W.findIn K (.type T) (PySem.dunder op.info.2) = some fo
  tr : ∃ ro, PySem.W.findIn K (.type T) (dunderR op.info.2) = some ro
  sub : PySem.W.subIn K (.type T) (.ref C) = some false
theorem inst_of {P : Program} {w : World} {H : Hp} {h : Heap} {a C dx : Addr} {fs : List (Str × V)} (hok : HOk P w H h) (ha : H a = some (.ins C dx fs)) : ∃ od, PySem.W.InstAt h a (PySem.W.instObj C dx) C (some od) := by
  obtain ⟨mA, J, _⟩ := ins_get hok ha
  obtain ⟨od, J, _⟩ := J.look
  exact ⟨od, J⟩
theorem back_of {X : Cx} {pins : List (Addr × Obj)} {σ : St} {Q : VK} {v : Value} {s' : Shared} (h : EP X pins σ Q v s') : PySem.W.CmpBack (fun v s' => EP X pins σ Q v s') v s' := by
  obtain ⟨x, H, I, r, q⟩ := id h
  cases v <;> first
    | exact h
    | (cases x <;> first | (obtain ⟨t, z⟩ := r; cases z; done) | (cases r; done))
/-- a op b, b of the same class -/
def rOwnOp (C : Addr) (sp : Sp) (E : XK) : R2 := fun x y H Q => ∃ a dx fs b dy gs, x = .ref a ∧ y = .ref b ∧ H a = some (.ins C dx fs) ∧ H b = some (.ins C dy gs) ∧ sp [.ref a, .ref b] H Q E
theorem op_own {X : Cx} {CX : CXT} {op : Operator} {C f : Addr} {fd : FuncData} {ps : List Str} {sp : Sp} {E : XK} {k : Nat} (O : OwnOp X.K C op f) (F : FnOk X.prog X.w X.K X.mg X.base CX k f fd ps sp) (hb : Binds X.K fd ps []) (hr : Room k X.A) (hx : Passes CX X E) :
    OpR X (binaryOp op) (rOwnOp C sp E) := by
  intro pins s σ H x y v u Q I rx ry h
  obtain ⟨a, dx, fs, b, dy, gs, rfl, rfl, ha, hb', hsp⟩ := h
  cases rx
  cases ry
  obtain ⟨od, J⟩ := inst_of I.hok ha
  obtain ⟨od', J'⟩ := inst_of I.hok hb'
  obtain ⟨m, hF⟩ := I.fr
  refine PySem.W.binop_K hF I.ok.mod.kin J J'.type O.first O.at_ O.fn (wpAny_mono (run_fn F hr hb .nil hx I (us := [.ref a, .ref b]) (vs := [.ref a, .ref b]) (.cons rfl (.cons rfl .nil)) hsp) (fun r s' q => back_of q) fun _ _ z => z)
/-- a op n, n a number -/
def rOwnOpI (C : Addr) (sp : Sp) (E : XK) : R2 := fun x y H Q => ∃ a dx fs n, x = .ref a ∧ y = .int n ∧ H a = some (.ins C dx fs) ∧ sp [.ref a, .int n] H Q E
theorem op_ownI {X : Cx} {CX : CXT} {op : Operator} {C f : Addr} {fd : FuncData} {ps : List Str} {sp : Sp} {E : XK} {k : Nat} (O : OwnOpT X.K C op f "int") (F : FnOk X.prog X.w X.K X.mg X.base CX k f fd ps sp) (hb : Binds X.K fd ps []) (hr : Room k X.A) (hx : Passes CX X E) :
    OpR X (binaryOp op) (rOwnOpI C sp E) := by
  intro pins s σ H x y v u Q I rx ry h
  obtain ⟨a, dx, fs, n, rfl, rfl, ha, hsp⟩ := h
  cases rx
  obtain ⟨t, rfl⟩ := ry
  obtain ⟨od, J⟩ := inst_of I.hok ha
  obtain ⟨m, hF⟩ := I.fr
  obtain ⟨rc, h1, h2⟩ := O.rev
  obtain ⟨fo, h3⟩ := O.tf
  obtain ⟨ro, h4⟩ := O.tr
  refine PySem.W.ksp_binT (T := "int") hF I.ok.mod.kin J rfl O.first O.at_ O.fn h1 h2 h3 h4 O.sub (wpAny_mono (run_fn F hr hb .nil hx I (us := [.ref a, .int n t]) (vs := [.ref a, .int n]) (.cons rfl (.cons ⟨t, rfl⟩ .nil)) hsp) (fun r s' q => back_of q) fun _ _ z => z)

/-- -a -/
def rOwnNeg (C : Addr) (sp : Sp) (E : XK) : V → Hp → VK → Prop := fun x H Q => ∃ a dx fs, x = .ref a ∧ H a = some (.ins C dx fs) ∧ sp [.ref a] H Q E
theorem un_own {X : Cx} {CX : CXT} {C f : Addr} {fd : FuncData} {ps : List Str} {sp : Sp} {E : XK} {k : Nat} (hs : PySem.W.findIn X.K (.ref C) "__neg__" = some (some (.ref f))) (hf : PySem.W.isFn X.K (.ref f) = true) (F : FnOk X.prog X.w X.K X.mg X.base CX k f fd ps sp) (hb : Binds X.K fd ps []) (hr : Room k X.A) (hx : Passes CX X E) :
    UnR X (unaryOp .USub) (rOwnNeg C sp E) := by
  intro pins s σ H x v Q I rx h
  obtain ⟨a, dx, fs, rfl, ha, hsp⟩ := h
  cases rx
  obtain ⟨od, J⟩ := inst_of I.hok ha
  obtain ⟨m, hF⟩ := I.fr
  exact PySem.W.ksp_neg hF I.ok.mod.kin J hs hf (run_fn F hr hb .nil hx I (us := [.ref a]) (vs := [.ref a]) (.cons rfl .nil) hsp)
end L2

set_option maxRecDepth 100000
set_option maxHeartbeats 4000000
/-! # enumerate(x), x a list or a tuple -/
namespace EN
open PySem PySem.Builtin
set_option maxHeartbeats 1000000 in
theorem meets1 {v : Value} {o : Obj} {H : Heap → Prop} (B : Begins v o H) :
    Meets (Builtin.«enumerate.__new__» ⟨[.type "enumerate", v], []⟩) (fun _ R s => H s.heap ∧
      R (.ok (.ret (.ref (s.heap.push o).objs.size))) { s with heap := (s.heap.push o).push { cls := .type "enumerate", data := .fields #[.none, .bool false, .ref s.heap.objs.size, rawInt 0, .none, .none] } }) :=
  .of_wp fun prog w A R s h => by
    obtain ⟨hp, g, d, tk, os⟩ := s; obtain ⟨h1, h⟩ := h
    have hsub := sub_enumerate
    have q1 : ∀ {A' : Around} {E : Value → Shared → Prop} {Q : Value → Shared → Prop}, Q (.ref hp.objs.size) ⟨hp.push o, g, d, tk, os⟩ → wpAny (model prog w) A' (pyIter v) Q E ⟨hp, g, d, tk, os⟩ :=
      fun q => B.iter prog w _ _ ⟨hp, g, d, tk, os⟩ _ h1 q
    wp_walk using q1
    refine wpAny_stack_any fun st => wpAny_pure ?_
    split
    · rename_i c _ _ _ _ _
      cases (c == Value.type "enumerate")
      · wp_walk using q1
        exact ⟨_, rfl, h⟩
      · wp_walk using q1
        exact ⟨_, rfl, h⟩
    · wp_walk using q1
      exact ⟨_, rfl, h⟩
section
variable {prog : Program} {w : World} {A : Around} {E : Value → Shared → Prop} {s : Shared}
theorem begins1 {v : Value} {o : Obj} {H : Heap → Prop} {Q : Value → Shared → Prop} (B : Begins v o H) (h1 : H s.heap)
    (h : ∀ h', IsEnum h' (s.heap.objs.size + 1) s.heap.objs.size 0 .none → h'.get? s.heap.objs.size = some o → h'.objs.size = s.heap.objs.size + 2 →
      (∀ b o, s.heap.get? b = some o → h'.get? b = some o) → Q (.ref (s.heap.objs.size + 1)) { s with heap := h' })
    (ht : checkTypeCall "enumerate" ⟨[v], []⟩ = pure ()) (hn : checkBuiltinCall "enumerate.__new__" ⟨[.type "enumerate", v], []⟩ = pure ()) (ha : ∀ obj, argsOk "object.__init__" ⟨[obj, v], []⟩) :
    wpAny (model prog w) A (call (.type "enumerate") [v]) Q E s := by
  refine callType_new F.called_enumerate (by decide) ht hn ha F.entry_enumerate_new (meets1 B) ⟨h1, ?_⟩
  have hz : (s.heap.push o).objs.size = s.heap.objs.size + 1 := Heap.size_push ..
  show _ ∧ _
  rw [hz]
  have he : IsEnum ((s.heap.push o).push { cls := .type "enumerate", data := .fields #[.none, .bool false, .ref s.heap.objs.size, rawInt 0, .none, .none] }) (s.heap.objs.size + 1) s.heap.objs.size 0 .none := by
    have := Heap.get?_push_size (s.heap.push o) (o := { cls := .type "enumerate", data := .fields #[.none, .bool false, .ref s.heap.objs.size, rawInt 0, .none, .none] }) rfl
    rw [hz] at this; exact this
  refine ⟨⟨_, he, rfl⟩, h _ he (Heap.get?_push_of_some _ (Heap.get?_push_size _ B.free)) (by rw [Heap.size_push, hz]) fun b o x => Heap.get?_push_of_some _ (Heap.get?_push_of_some _ x)⟩
end
end EN

namespace L2
open PySem PySem.Spec PyProof.Rows
/-- enumerate over the tuple at a, from k on -/
def IteT (K : PySem.W.Frag) (k : Int) (a : Addr) : It :=
  ⟨fun i H => ∃ (xs : List V) (x : V), SqT K H a xs ∧ xs[i]? = some x, fun i H v H' => ∃ T x, v = .ref T ∧ H T = none ∧ H' = upd H T (.tup [.int (k + (i : Int)), x]) ∧ ∀ xs, SqT K H a xs → xs[i]? = some x, fun i H => ∃ xs : List V, SqT K H a xs ∧ xs.length = i⟩
theorem turn_enumT {P : Program} {w : World} {K : PySem.W.Frag} {elts : List Expr} {kk : Nat} {tpos : Pos} (k : Int) (a e it : Addr) (hei : e ≠ it) :
    Turn P w K (.Tuple elts kk tpos) (IteT K k a) [e, it] e (fun i h => (∃ old, IsEnum h e it (k + ((i : Nat) : Int)) old) ∧ h.IsTupleIter it a i) where
  mem := by simp
  obj := fun i h st b hb => by
    obtain ⟨⟨old, he⟩, ⟨o, ho, hc, hd⟩⟩ := st
    have e' : b = e ∨ b = it := by simpa using hb
    rcases e' with z | z
    · rw [z]; exact ⟨_, he, fun v q => nomatch q⟩
    · rw [z]; exact ⟨o, ho, fun v q => by rw [hd] at q; cases q⟩
  keep := fun i h h' st k => let ⟨⟨old, he⟩, hi⟩ := st; ⟨⟨old, k e (by simp) _ he⟩, hi.at fun o q => k it (by simp) o q⟩
  item := by
    intro X hP hw hK hc i pins s σ H E I hf st hg
    subst hP hw hK
    obtain ⟨⟨old, he⟩, hit⟩ := st
    obtain ⟨xs, x, hq, hx⟩ := hg
    obtain ⟨its, rv, p, hz⟩ := I.tuple hq
    obtain ⟨u, hu, ru⟩ := rv.get hx
    have hel : e < s.heap.objs.size := Heap.lt_size he
    have hil : it < s.heap.objs.size := by obtain ⟨_, q, _⟩ := hit; exact Heap.lt_size q
    have hae : e ≠ a := fun z => by
      obtain ⟨o, ho, hcls, _⟩ := p
      rw [← z, he] at ho
      cases ho
      exact absurd (show Value.type "enumerate" = Value.type "tuple" from hcls) (by decide)
    have hai : a ≠ it := fun z => by
      obtain ⟨o, ho, hcls, _⟩ := p
      obtain ⟨o2, ho2, hc2, _⟩ := hit
      rw [z, ho2] at ho
      cases ho
      rw [hc2] at hcls
      exact absurd hcls (by decide)
    have W := GoesN.enumFrom (prog := X.prog) (w := X.w) (A := X.A) (elts := elts) (x1 := kk) (pos := tpos) k (Draws.tuple (prog := X.prog) (w := X.w) (A := X.A.in1) (I.ok.hd hc) it a hai its.toArray) e hei (by simp [hei, hae]) (by simp)
    have hi : i < its.toArray.size := by
      have := (List.getElem?_eq_some_iff.mp hu).1
      simpa using this
    refine wpAny_mono (W.goes i s _ E hi ⟨⟨old, he⟩, hit, p⟩ fun v h' tk hY st' hk htk => ?_) (fun r s1 hr => hr) fun _ _ z => z
    obtain ⟨T, t, y, rfl, hT, hPy, hTup⟩ := hY
    have ey : y = u := by
      have hu' : its.toArray[i]? = some u := by simpa using hu
      rw [hu'] at hPy
      exact (Option.some.inj hPy).symm
    subst ey
    obtain ⟨⟨old2, he2⟩, hit2, _⟩ := st'
    have new : ObjOk X.prog X.w (upd H T (.tup [.int (k + (i : Int)), x])) h' T (.tup [.int (k + (i : Int)), x]) :=
      ⟨by show 2 ≤ sizeLine; decide, [.int (k + (i : Int)) t, y], .cons ⟨_, rfl⟩ (.cons ru .nil), hTup⟩
    have I1 : Inv X pins σ (upd H T (.tup [.int (k + (i : Int)), x])) { s with heap := h', toks := tk } :=
      I.turnedNew (ch := [e, it]) (fun b ob hb q => hk b ob hb q) hf hT new
    refine ⟨.ref T, _, I1, rfl, ⟨_, x, rfl, I.hok.fresh hT, rfl, fun ys hy => by rw [I.tuple_inj hy hq]; exact hx⟩, ⟨⟨old2, he2⟩, hit2⟩, fun b hb => ?_⟩
    have hb' : b < s.heap.objs.size := by
      have e' : b = e ∨ b = it := by simpa using hb
      rcases e' with z | z
      · rw [z]; exact hel
      · rw [z]; exact hil
    rw [upd_ne (Nat.ne_of_lt (Nat.lt_of_lt_of_le hb' hT))]
    exact (hf b hb).1
  done := by
    intro X hP hw hK hc i pins s σ H E I hf st hg
    subst hP hw hK
    obtain ⟨⟨old, he⟩, hit⟩ := st
    obtain ⟨xs, hq, hx⟩ := hg
    obtain ⟨its, rv, p, hz⟩ := I.tuple hq
    have hai : a ≠ it := fun z => by
      obtain ⟨o, ho, hcls, _⟩ := p
      obtain ⟨o2, ho2, hc2, _⟩ := hit
      rw [z, ho2] at ho
      cases ho
      rw [hc2] at hcls
      exact absurd hcls (by decide)
    have hae : e ≠ a := fun z => by
      obtain ⟨o, ho, hcls, _⟩ := p
      rw [← z, he] at ho
      cases ho
      exact absurd (show Value.type "enumerate" = Value.type "tuple" from hcls) (by decide)
    have W := GoesN.enumFrom (prog := X.prog) (w := X.w) (A := X.A) (elts := elts) (x1 := kk) (pos := tpos) k (Draws.tuple (prog := X.prog) (w := X.w) (A := X.A.in1) (I.ok.hd hc) it a hai its.toArray) e hei (by simp [hei, hae]) (by simp)
    have hl := rv.length
    have hn : its.toArray.size = i := by
      rw [List.size_toArray, ← hl, hx]
    refine wpAny_mono (W.stops s (fun s1 => Inv X pins σ H s1) E (by rw [hn]; exact ⟨⟨old, he⟩, hit, p⟩) fun h' tk hk htk => I.turnedL (t' := tk) (ch := [e, it]) (fun b o hb q => hk b o hb q) hf) (fun r s1 hr => hr) fun _ _ z => z
  self := fun A i s Q E st h => let ⟨⟨_, he⟩, _⟩ := st; wpAny_pyIter_enum he h

theorem walk_enumT {K : PySem.W.Frag} {k : Int} {a : Addr} {xs : List V} : Walk (IteT K k a) xs.length (fun H => SqT K H a xs) (YPair (fun i => some (.int (k + (i : Nat)))) (fun i => xs[i]?)) where
  goes := fun i H hi h => ⟨xs, xs[i], h, List.getElem?_eq_getElem hi⟩
  stops := fun H h => ⟨xs, h, rfl⟩
  yields := fun i H v H' hi h y => by
    obtain ⟨T, x, rfl, hT, rfl, hx⟩ := y
    exact ⟨T, .int (k + (i : Nat)), x, rfl, hT, rfl, rfl, hx xs h⟩
/-- enumerate(x), x a list or a tuple -/
def iEnumA (K : PySem.W.Frag) (ta : TA) : TI := fun σ H R => ta σ H fun vs H1 => ∃ a xs, vs = [.ref a] ∧ ((SqL K H1 a xs ∧ R (Ite K a) H1) ∨ (SqT K H1 a xs ∧ R (IteT K 0 a) H1))
theorem pi_enumA {X : Cx} {e : Expr} {ta : TA} {p pos tpos : Pos} {elts : List Expr} {kk : Nat} (hg : Gl X "enumerate") (hm : X.mg "enumerate" = none) (ha : PA X [e] ta) (hs : starEach [e] X.env = [(false, eval e X.env)] := by rfl) :
    PI X (.Tuple elts kk tpos) (.Call (.Name "enumerate" p) [e] [] pos) (iEnumA X.K ta) := by
  refine ⟨fun pins s σ H R I h => ?_⟩
  refine Call_ (ld_blt I hg hm boot_enumerate (PyProof.Rows.callWith_type1 (thn (ha.run pos pins s σ H _ I h) fun us s1 ⟨vs, H1, I1, r1, q1⟩ => ?_) hs rfl))
  obtain ⟨a, xs, ex, q1⟩ := q1
  subst ex
  cases r1 with
  | cons r rr =>
    cases rr
    cases r
    have fresh2 : ∀ b, b ∈ [s1.heap.objs.size + 1, s1.heap.objs.size] → FpOk X pins H1 b := fun b hb => by
      have e' : b = s1.heap.objs.size + 1 ∨ b = s1.heap.objs.size := by simpa using hb
      have hle : s1.heap.objs.size ≤ b := by
        rcases e' with z | z
        · rw [z]; exact Nat.le_add_right _ _
        · rw [z]; exact Nat.le_refl _
      exact I1.fpOk hle (I1.hok.fresh hle)
    rcases q1 with ⟨hq, q⟩ | ⟨hq, q⟩
    · obtain ⟨its, rv, p', hz⟩ := I1.list hq
      refine call_enumerate_list p'.isList fun h' he hit hsz hk => wpAny_pyIter_enum he ?_
      have I2 : Inv X pins σ H1 { s1 with heap := h' } := I1.kept (t' := s1.toks) hk
      exact ⟨s1.heap.objs.size + 1, [s1.heap.objs.size + 1, s1.heap.objs.size], _, _, H1, rfl, I2, turn_enum a (s1.heap.objs.size + 1) s1.heap.objs.size, ⟨⟨.none, he⟩, hit, Nat.succ_ne_self _⟩, fresh2, q⟩
    · obtain ⟨its, rv, p', hz⟩ := I1.tuple hq
      refine EN.begins1 (begins_tuple a its.toArray) p' (fun h' he hit hsz hk => wpAny_pyIter_enum he ?_) (F.typeCall_enumerate_1 _) (F.newCall_enumerate_1 _) (fun obj => F.args_object_init_2 obj _)
      have I2 : Inv X pins σ H1 { s1 with heap := h' } := I1.kept (t' := s1.toks) hk
      exact ⟨s1.heap.objs.size + 1, [s1.heap.objs.size + 1, s1.heap.objs.size], _, _, H1, rfl, I2, turn_enumT 0 a (s1.heap.objs.size + 1) s1.heap.objs.size (Nat.succ_ne_self _), ⟨⟨.none, he⟩, ⟨_, hit, rfl, rfl⟩⟩, fresh2, q⟩
end L2

set_option maxRecDepth 100000
set_option maxHeartbeats 4000000
/-! # for x in an instance whose __iter__ says: return iter(self.field), the field a tuple -/
namespace L2
open PySem PySem.Spec PyProof.Rows PySem.W
structure OwnIt (K : Frag) (mg : Str → Option Value) (C f : Addr) (fld : Str) : Prop where
  cls : Cls K C
  noA : NoAttr K C fld
  at_ : findIn K (.ref C) "__iter__" = some (some (.ref f))
  fn : isFn K (.ref f) = true
  free : mg "iter" = none
  txt : ∃ qual params scope p1 p2 p3 p4 p5, (∃ (oc : Value) (od : Option Addr) (kV doc pm : Value) (an : Option Addr) (cdv ct : Value) (osl : Array (Option Value)),
      K.lookup f = some ⟨oc, od, .func (fnOf "__iter__" qual params [.Return (some (.Call (.Name "iter" p1) [.Attribute (.Name "self" p2) fld p3] [] p4)) p5] scope .none kV doc pm an cdv ct), osl⟩ ∧ codeIn K cdv qual = true) ∧
    scope.names.lookup ("self" : Str) = some .local ∧ scope.names.lookup ("iter" : Str) = some .globalImplicit ∧ (∀ x ∈ scope.names, x.2 ≠ .cell) ∧ scope.kind = .function ∧ scope.isCoroutine = false ∧ scope.isGenerator = false ∧
    (∀ (s : Shared) (fd : FuncData) (v : Value), fd.params = params → fd.scope = scope → fd.defaults = .none → BindsTo s fd ⟨[v], []⟩ [("self", v)]) ∧
    ∀ env : Env, env.scope = scope → attributeBase (.Name "self" p2) fld env (eval (.Name "self" p2) env) = eval (.Name "self" p2) env
abbrev tupIt (t : Addr) : Obj := { cls := .type "tuple_iterator", data := .fields #[.ref t, .int 0 0] }
theorem call_iter_tup {prog : Program} {w : World} {A : Around} {E : Value → Shared → Prop} {s : Shared} {t : Addr} {items : Array Value} {Q : Value → Shared → Prop} (ht : s.heap.IsTuple t items) (h : Q (.ref s.heap.objs.size) { s with heap := s.heap.push (tupIt t) }) :
    wpAny (model prog w) A (call (.builtin "iter") [.ref t]) Q E s := by
  refine Calls.call_function_entry (by decide +kernel) (by decide +kernel) kdk_entry_iter (kdk_args_iter _) ?_
  unfold Builtin.«iter»
  refine wpAny_bind (m := someArgs "iter" 1 2 _) (wpAny_of_eq (a := [Value.ref t]) (by first | rfl | kernel_rfl!) ?_)
  show wpAny _ _ (pyIter (.ref t) >>= _) _ _ _
  refine wpAny_bind (wpAny_pyIter_tuple ht ?_)
  exact wpAny_pure ⟨_, rfl, h⟩
section
variable {X : Cx} {pins : List (Addr × Obj)} {σ : St} {H : Hp} {s : Shared} {a C dx f t : Addr} {fs : List (Str × V)} {fld : Str} {xs : List V} {k : Nat}
theorem own_iter (O : OwnIt X.K X.mg C f fld) (hr : Room k X.A) (I : Inv X pins σ H s) (ha : H a = some (.ins C dx fs)) (hv : fs.lookup fld = some (.ref t)) (hT : SqT X.K H t xs) {Q : Value → Shared → Prop}
    (hq : ∀ h' tk it, (∀ b o, s.heap.get? b = some o → h'.get? b = some o) → s.heap.objs.size ≤ it → h'.get? it = some (tupIt t) → Q (.ref it) { s with heap := h', toks := tk }) :
    wpAny (model X.prog X.w) X.A (pyIter (.ref a)) Q X.xe s := by
  obtain ⟨qual, params, scope, p1, p2, p3, p4, p5, ⟨oc, od, kV, doc, pm, an, cdv, ct, osl, hfn, hcd⟩, sc1, sc2, sc3, sc4, sc5, sc6, hb, hbase⟩ := O.txt
  obtain ⟨mA, J0, rel, _⟩ := ins_get I.hok ha
  obtain ⟨oda, J, _⟩ := J0.look
  obtain ⟨m, hF⟩ := I.fr
  obtain ⟨its, rv, hTup, _⟩ := I.tuple hT
  obtain ⟨u, hu, ru⟩ := RelO.some_of (v := V.ref t) (o := mA fld) (by rw [← hv]; exact rel fld)
  cases ru
  have hG : s.heap.Ns mainGlobals X.mg := I.mod.glob.keeps I.bk
  obtain ⟨mb, hB, hbb⟩ := I.mod.blt
  have X0 := I.kIn
  have hlim := I.nolimit
  obtain ⟨hp, g, dr, tk, os⟩ := s
  refine owit_iter hF I.ok.mod.kin J O.at_ O.fn (wpAny_call ?_)
  refine ks_codeAny_call_defAt (binds := [("self", .ref a)]) (by have := hr.dp; omega) (X0 _ _ hfn) rfl hlim (codeRec_of X0 hcd) rfl (hb _ _ _ rfl rfl rfl) sc3 (fun y hy => ?_) (fun h₀ hns hk₀ => ?_) sc5 sc6 sc4
  · have e : y = (("self" : Str), Value.ref a) := by simpa using hy
    rw [e]
    exact sc1
  · have X1 : X.K.In h₀ := X0.keeps hk₀
    have J1 : ObjM h₀ a dx C mA := ⟨hk₀ _ _ J0.obj, J0.ns.at fun o q => hk₀ _ o q, J0.ne⟩
    refine wpAt_of_wpAny (wpAny_execs_cons (wpAny_Return_some ?_))
    refine wpAny_Call_Name_kw (Calls.Name_function_global sc4 sc2 (Calls.loadGlobal_builtin (hG.keeps hk₀) O.free ((hB.keeps I.bk).keeps hk₀) ((hbb _ (by decide)).trans (by decide +kernel : bootBuiltins "iter" = some (.builtin "iter"))) ?_) (by decide))
    refine PyProof.Rows.callWith_builtin1 (spliced_more (attr_of (hbase _ rfl) (PySem.ESX.ldL (v := .ref a) hns (by simp [List.lookup]) ?_ sc4 sc1))) (by rfl) (by rfl)
    refine get_map X1 J1 (O.cls.get _) O.cls.hd O.noA hu rfl (spliced_none ?_)
    refine call_iter_tup (show h₀.IsTuple t its.toArray from let ⟨o, h1, h2⟩ := hTup; ⟨o, hk₀ _ o h1, h2⟩) ?_
    have hT1 : (⟨h₀.push (tupIt t), g, dr, tk + 1 + 1, os⟩ : Shared).TypeIs (.ref h₀.objs.size) "tuple_iterator" := ⟨_, Heap.get?_push_at rfl rfl, rfl⟩
    refine wpAny_specialOf (hT1) F.slot_tuple_iterator_next.lookup ?_
    exact hq _ _ _ (fun b o q => Heap.get?_push_of_some _ (hk₀ b o q)) (by
      have := hns.lt
      exact Nat.le_of_lt this) (Heap.get?_push_at rfl rfl)
end
end L2

set_option maxRecDepth 100000
set_option maxHeartbeats 4000000
/-! # Words for lists or tuples, heaps that only grow -/
namespace L2
open PySem PySem.Spec PyProof.Rows
/-- a list or a tuple -/
def SqA (K : PySem.W.Frag) (H : Hp) (a : Addr) (xs : List V) : Prop := SqL K H a xs ∨ SqT K H a xs
theorem Same.seqT {K : PySem.W.Frag} {H H' : Hp} {a : Addr} {xs : List V} (e : Same H H') (h : SqT K H a xs) : SqT K H' a xs := by
  rcases h with (h | ⟨o, h⟩) | h
  · exact .inl (.inl (e _ _ h))
  · exact .inl (.inr ⟨o, e _ _ h⟩)
  · exact .inr h
theorem Same.seqA {K : PySem.W.Frag} {H H' : Hp} {a : Addr} {xs : List V} (e : Same H H') (h : SqA K H a xs) : SqA K H' a xs := h.imp e.seq e.seqT
theorem Same.new {H : Hp} {p : Addr} {o : HO} (h : H p = none) : Same H (upd H p o) := fun b u e => by
  rw [upd_ne (fun z => by rw [z, h] at e; cases e)]
  exact e
theorem Same.new' {H H' : Hp} {p : Addr} {o : HO} (s : Same H H') (h : H' p = none) : Same H (upd H' p o) := s.trans (.new h)
theorem passX {X : Cx} {K : Value → Shared → Prop} {E₁ : Value → Shared → Prop} (hx : X.xe = fun e s' => wpAny (model X.prog X.w) X.A (leaving X.env e) (fun _ s'' => K e s'') E₁ s') : PassesOwn (model X.prog X.w) X.A X.env X.xe := passes_of hx
theorem map_get {α : Type} {f : α → V} {ns : List α} {i : Nat} {y : V} (e : (ns.map f)[i]? = some y) : ∃ n, ns[i]? = some n ∧ y = f n := by
  rw [List.getElem?_map] at e
  cases q : ns[i]? with
  | none => rw [q] at e; cases e
  | some n => rw [q] at e; exact ⟨n, rfl, (Option.some.inj e).symm⟩
theorem enumA_of {K : PySem.W.Frag} {H : Hp} {a : Addr} {xs : List V} {R : It → Hp → Prop} (h : SqA K H a xs) (hR : ∀ (J : It) (G : Hp → Prop), (∀ H', Same H H' → G H') → Walk J xs.length G (YPair (fun i => some (.int (i : Nat))) (fun i => xs[i]?)) → R J H) :
    (SqL K H a xs ∧ R (Ite K a) H) ∨ (SqT K H a xs ∧ R (IteT K 0 a) H) := by
  rcases h with h | h
  · exact .inl ⟨h, hR _ _ (fun _ s => s.seq h) walk_enum⟩
  · exact .inr ⟨h, hR _ _ (fun _ s => s.seqT h) ((walk_enumT (k := 0)).mono (fun _ h => h) fun i H x H' _ _ y => by
      obtain ⟨T', x', y', z⟩ := y
      exact ⟨T', x', y', by simpa using z⟩)⟩
/-- enumerate(x), x a list or a tuple, told by its Walk -/
def iEnumW (K : PySem.W.Frag) (ta : TA) : TI := fun σ H R => ta σ H fun vs H1 => ∃ a xs, vs = [.ref a] ∧ SqA K H1 a xs ∧ ∀ (J : It) (G : Hp → Prop), (∀ H', Same H1 H' → G H') → Walk J xs.length G (YPair (fun i => some (.int (i : Nat))) (fun i => xs[i]?)) → R J H1
theorem pi_enumW {X : Cx} {e : Expr} {ta : TA} {p pos tpos : Pos} {elts : List Expr} {kk : Nat} (hg : Gl X "enumerate") (hm : X.mg "enumerate" = none) (ha : PA X [e] ta) (hs : starEach [e] X.env = [(false, eval e X.env)] := by rfl) :
    PI X (.Tuple elts kk tpos) (.Call (.Name "enumerate" p) [e] [] pos) (iEnumW X.K ta) := by
  refine ⟨fun pins s σ H R I h => ?_⟩
  refine Call_ (ld_blt I hg hm boot_enumerate (PyProof.Rows.callWith_type1 (thn (ha.run pos pins s σ H _ I h) fun us s1 ⟨vs, H1, I1, r1, q1⟩ => ?_) hs rfl))
  obtain ⟨a, xs, ex, q1⟩ := q1
  subst ex
  have q1 := enumA_of q1.1 q1.2
  cases r1 with
  | cons r rr =>
    cases rr
    cases r
    have fresh2 : ∀ b, b ∈ [s1.heap.objs.size + 1, s1.heap.objs.size] → FpOk X pins H1 b := fun b hb => by
      have e' : b = s1.heap.objs.size + 1 ∨ b = s1.heap.objs.size := by simpa using hb
      have hle : s1.heap.objs.size ≤ b := by
        rcases e' with z | z
        · rw [z]; exact Nat.le_add_right _ _
        · rw [z]; exact Nat.le_refl _
      exact I1.fpOk hle (I1.hok.fresh hle)
    rcases q1 with ⟨hq, q⟩ | ⟨hq, q⟩
    · obtain ⟨its, rv, p', hz⟩ := I1.list hq
      refine call_enumerate_list p'.isList fun h' he hit hsz hk => wpAny_pyIter_enum he ?_
      have I2 : Inv X pins σ H1 { s1 with heap := h' } := I1.kept (t' := s1.toks) hk
      exact ⟨s1.heap.objs.size + 1, [s1.heap.objs.size + 1, s1.heap.objs.size], _, _, H1, rfl, I2, turn_enum a (s1.heap.objs.size + 1) s1.heap.objs.size, ⟨⟨.none, he⟩, hit, Nat.succ_ne_self _⟩, fresh2, q⟩
    · obtain ⟨its, rv, p', hz⟩ := I1.tuple hq
      refine EN.begins1 (begins_tuple a its.toArray) p' (fun h' he hit hsz hk => wpAny_pyIter_enum he ?_) (F.typeCall_enumerate_1 _) (F.newCall_enumerate_1 _) (fun obj => F.args_object_init_2 obj _)
      have I2 : Inv X pins σ H1 { s1 with heap := h' } := I1.kept (t' := s1.toks) hk
      exact ⟨s1.heap.objs.size + 1, [s1.heap.objs.size + 1, s1.heap.objs.size], _, _, H1, rfl, I2, turn_enumT 0 a (s1.heap.objs.size + 1) s1.heap.objs.size (Nat.succ_ne_self _), ⟨⟨.none, he⟩, ⟨_, hit, rfl, rfl⟩⟩, fresh2, q⟩
end L2

set_option maxRecDepth 100000
set_option maxHeartbeats 4000000
/-! # Tuples: t * 0, t * 1, t[::-1], sum(t) -/
namespace L2
open PySem PySem.Spec PyProof.Rows
theorem tuple_mulS (l : Addr) (items : Array Value) (n : Nat) (dd : Option Addr) (sl : Array (Option Value)) (x : Int) (u : Tok) (c0 : (decide (x < -(2 ^ 63)) || decide (x ≥ 2 ^ 63)) = false) (c1 : (items.isEmpty || x == 1) = true) :
    Meets (Builtin.«tuple.__mul__» ⟨[.ref l, .int x u], []⟩) (fun _ R s => s.heap.get? l = some { cls := .type "tuple", dict := dd, data := .seq items n, slots := sl } ∧
      R (.ok (.ret (Value.ref l))) s) :=
  .of_wp fun prog w A R s h => by
    obtain ⟨hp, g, d, tk, os⟩ := s
    obtain ⟨hl, h⟩ := h
    have f1 := AutoSeq1.idx_int
    wp_walk using wpAny_loadPart' hl
    repeat (first
      | (refine wpAny_ite_false (decide_eq_false (by rw [c0]; exact Bool.false_ne_true)) ?_; wp_walk using wpAny_loadPart' hl)
      | (refine wpAny_ite_true (decide_eq_true c1) ?_; wp_walk using wpAny_loadPart' hl))
    exact ⟨_, rfl, h⟩
theorem tuple_mul0 (l : Addr) (items : Array Value) (n : Nat) (dd : Option Addr) (sl : Array (Option Value)) (x : Int) (u : Tok) (c0 : (decide (x < -(2 ^ 63)) || decide (x ≥ 2 ^ 63)) = false) (c1 : (items.isEmpty || x == 1) = false) (c2 : (decide (x ≤ 0) || items.isEmpty) = true) :
    Meets (Builtin.«tuple.__mul__» ⟨[.ref l, .int x u], []⟩) (fun _ R s => s.heap.get? l = some { cls := .type "tuple", dict := dd, data := .seq items n, slots := sl } ∧
      R (.ok (.ret (Value.ref s.heap.objs.size))) { s with heap := s.heap.push { cls := Value.type "tuple", data := Data.seq #[] }, toks := s.toks }) :=
  .of_wp fun prog w A R s h => by
    obtain ⟨hp, g, d, tk, os⟩ := s
    obtain ⟨hl, h⟩ := h
    have f1 := AutoSeq1.idx_int
    wp_walk using wpAny_loadPart' hl
    repeat (first
      | (refine wpAny_ite_false (decide_eq_false (by rw [c0]; exact Bool.false_ne_true)) ?_; wp_walk using wpAny_loadPart' hl)
      | (refine wpAny_ite_false (decide_eq_false (by rw [c1]; exact Bool.false_ne_true)) ?_; wp_walk using wpAny_loadPart' hl)
      | (refine wpAny_ite_true (decide_eq_true c2) ?_; wp_walk using wpAny_loadPart' hl))
    exact ⟨_, rfl, h⟩
/-- t * k -/
def rRepW (K : PySem.W.Frag) : R2 := fun x y H Q => ∃ l k xs, x = .ref l ∧ y = .int k ∧ SqT K H l xs ∧ -(2 ^ 62) ≤ k ∧ k ≤ 1000 ∧ xs.length ≤ 1000 ∧ ∀ H' p, Same H H' → SqT K H' p (List.replicate k.toNat xs).flatten → Q (.ref p) H'
theorem rep_one {α : Type} (xs : List α) : (List.replicate (1 : Int).toNat xs).flatten = xs := by simp
theorem rep_nil {α : Type} (k : Nat) : (List.replicate k ([] : List α)).flatten = [] := by simp
section
variable {X : Cx}
theorem op_repW : OpR X (binaryOp .Mult) (rRepW X.K) := by
  intro pins s σ H x y v u Q I rx ry h
  obtain ⟨l, k, xs, rfl, rfl, hT, h1, h2, hz, q⟩ := h
  by_cases h3 : xs ≠ [] ∧ 2 ≤ k
  · exact op_repT pins s σ H _ _ v u Q I rx ry ⟨l, k, xs, rfl, rfl, hT, h3.1, h3.2, h2, hz, fun p hp => q _ p (.new hp) (SqT.of upd_same)⟩
  · cases rx
    obtain ⟨t, rfl⟩ := ry
    obtain ⟨its, r, ⟨⟨cls, dd, data, sl⟩, ho, hc, n, hd⟩, hs⟩ := I.tuple hT
    simp only at hc hd
    subst hc hd
    have hle : its.length = xs.length := r.length.symm
    have c0 : (decide (k < -(2 ^ 63)) || decide (k ≥ 2 ^ 63)) = false := by
      rw [decide_eq_false (by omega), decide_eq_false (by omega)] <;> rfl
    by_cases h4 : xs = [] ∨ k = 1
    · have c1 : (its.toArray.isEmpty || k == 1) = true := by
        rcases h4 with h4 | h4
        · subst h4
          have : its = [] := List.eq_nil_of_length_eq_zero (by simpa using hle)
          subst this
          rfl
        · subst h4
          simp
      refine wpAny_binaryOp_repeat_ref (T := "tuple") (U := "int") (by decide) ⟨_, ho, rfl⟩ (fun s' => typeIs_int s' k t) noFill_tuple_mul F.fills_int_mul F.slot_int_rmul repeat_tuple F.slot_int_index.lookup
        (call_meets F.slot_int_rmul (typeIs_int s k t) F.entry_int_rmul (F.args_int_rmul_2 _ _) (int_rmul_tuple k t l its.toArray n dd sl)
          ⟨ho, rfl, ⟨_, ho, rfl⟩, call_meets F.slot_tuple_mul ⟨_, ho, rfl⟩ F.entry_tuple_mul (F.args_tuple_mul_2 _ _) (tuple_mulS l its.toArray n dd sl k t c0 c1) ⟨ho, ?_⟩⟩)
      refine ⟨.ref l, H, I, rfl, q H l (.refl _) ?_⟩
      rcases h4 with h4 | h4
      · subst h4; rw [rep_nil]; exact hT
      · subst h4; rw [rep_one]; exact hT
    · have h5 : xs ≠ [] ∧ k ≤ 0 := ⟨fun z => h4 (.inl z), by
        have : k ≠ 1 := fun z => h4 (.inr z)
        have : ¬ (2 ≤ k) := fun z => h3 ⟨fun z => h4 (.inl z), z⟩
        omega⟩
      have hi : its.toArray.isEmpty = false := by
        cases its with
        | nil => exact absurd (List.eq_nil_of_length_eq_zero hle.symm) h5.1
        | cons a b => rfl
      have c1 : (its.toArray.isEmpty || k == 1) = false := by
        rw [hi, Bool.false_or]
        exact beq_eq_false_iff_ne.mpr (by omega)
      have c2 : (decide (k ≤ 0) || its.toArray.isEmpty) = true := by rw [decide_eq_true h5.2]; rfl
      have e0 : (List.replicate k.toNat xs).flatten = [] := by
        have : k.toNat = 0 := by omega
        rw [this]; rfl
      refine wpAny_binaryOp_repeat_ref (T := "tuple") (U := "int") (by decide) ⟨_, ho, rfl⟩ (fun s' => typeIs_int s' k t) noFill_tuple_mul F.fills_int_mul F.slot_int_rmul repeat_tuple F.slot_int_index.lookup
        (call_meets F.slot_int_rmul (typeIs_int s k t) F.entry_int_rmul (F.args_int_rmul_2 _ _) (int_rmul_tuple k t l its.toArray n dd sl)
          ⟨ho, rfl, ⟨_, ho, rfl⟩, call_meets F.slot_tuple_mul ⟨_, ho, rfl⟩ F.entry_tuple_mul (F.args_tuple_mul_2 _ _) (tuple_mul0 l its.toArray n dd sl k t c0 c1 c2) ⟨ho, ?_⟩⟩)
      refine ⟨.ref s.heap.objs.size, _, I.laid (t' := s.toks) (o := .tup []) (fun b ob q => Heap.get?_push_of_some _ q) (Nat.le_refl _) ?_, rfl, q _ _ (.new (I.hok.fresh (Nat.le_refl _))) (by rw [e0]; exact SqT.of upd_same)⟩
      exact ⟨Nat.zero_le _, [], .nil, IsTup.new _ _⟩
/-- t + u -/
def rCatW (K : PySem.W.Frag) : R2 := fun x y H Q => ∃ a b xs ys, x = .ref a ∧ y = .ref b ∧ SqT K H a xs ∧ SqT K H b ys ∧ xs.length + ys.length ≤ sizeLine ∧ ∀ H' p, Same H H' → SqT K H' p (xs ++ ys) → Q (.ref p) H'
theorem op_catW : OpR X (binaryOp .Add) (rCatW X.K) := by
  intro pins s σ H x y v u Q I rx ry h
  obtain ⟨a, b, xs, ys, rfl, rfl, ha, hb, hz, q⟩ := h
  exact op_catA pins s σ H _ _ v u Q I rx ry ⟨a, b, xs, ys, rfl, rfl, ha, hb, hz, fun e => q H b (.refl _) (by rw [e]; exact hb), fun _ e => q H a (.refl _) (by rw [e, List.append_nil]; exact ha), fun _ _ p hp => q _ p (.new hp) (SqT.of upd_same)⟩
/-- t[lo:hi] -/
def rSlW (K : PySem.W.Frag) : V → Option Int → Option Int → Hp → VK → Prop := fun x lo hi H Q => ∃ a xs, x = .ref a ∧ SqT K H a xs ∧ ∀ H' p, Same H H' → SqT K H' p (cutV xs lo hi) → Q (.ref p) H'
theorem sl_tupW : SlR X (rSlW X.K) := by
  intro pins s σ H x v vl vu lo hi sl Q I rx hs pl pu h
  obtain ⟨a, xs, rfl, hx, q⟩ := h
  refine sl_tupA pins s σ H _ v vl vu lo hi sl Q I rx hs pl pu ⟨a, xs, rfl, hx, fun e => q H a (.refl _) ?_, fun _ p hp => q _ p (.new hp) (SqT.of upd_same)⟩
  unfold cutV
  rw [e.1, e.2, List.drop_zero, Nat.sub_zero, List.take_length]
  exact hx

/-- sum(t), t a tuple of numbers -/
theorem cr_sumT (hc : X.calm = true) : CallR X (.builtin "sum") (fun vs H Q => ∃ (a : Addr) (ns : List Int), vs = [V.ref a] ∧ SqT X.K H a (ns.map V.int) ∧ Q (.int ns.sum) H) := by
  intro pins s σ H xs us Q I r h
  obtain ⟨a, ns, rfl, hq, q⟩ := h
  cases r with
  | cons r rr =>
  cases rr
  cases r
  obtain ⟨its, rv, hT, hz⟩ := I.tuple hq
  have hi := intsAre_of rv
  obtain ⟨ys, hx⟩ := hi.allInts.items
  have hn : numsOf its.toArray.toList = ns := by rw [show its.toArray.toList = its from rfl, hi.numsOf]
  have hT' : s.heap.IsTuple a its.toArray := let ⟨o, h1, h2, h3⟩ := hT; ⟨o, h1, h2, h3⟩
  rw [hx] at hT' hn
  rw [nums_intItems] at hn
  refine PySem.W.ktm_sumG (I.ok.hd hc) hT' fun h' tk t' hk => ?_
  rw [preSum_eq, List.take_of_length_le (by simp), hn]
  exact ⟨.int ns.sum, H, I.kept (t' := tk) hk, ⟨t', rfl⟩, q⟩
theorem cr_sumA (hc : X.calm = true) : CallR X (.builtin "sum") (fun vs H Q => ∃ (a : Addr) (ns : List Int), vs = [V.ref a] ∧ SqA X.K H a (ns.map V.int) ∧ Q (.int ns.sum) H) := by
  intro pins s σ H xs us Q I r h
  obtain ⟨a, ns, rfl, hq, q⟩ := h
  rcases hq with hq | hq
  · exact cr_sum hc pins s σ H _ us Q I r ⟨a, ns, rfl, hq, q⟩
  · exact cr_sumT hc pins s σ H _ us Q I r ⟨a, ns, rfl, hq, q⟩
/-! ### t[::-1] -/
theorem rev_pick (xs : List Value) : ((List.range xs.length).filterMap fun (m : Nat) => xs.toArray[(((xs.length : Nat) : Int) - 1 + (m : Int) * (-1)).toNat]?) = xs.reverse := by
  have key : ∀ n, n ≤ xs.length → ((List.range n).filterMap fun (m : Nat) => xs.toArray[(((xs.length : Nat) : Int) - 1 + (m : Int) * (-1)).toNat]?) = (xs.reverse).take n := by
    intro n
    induction n with
    | zero => intro _; simp
    | succ n ih =>
      intro hn
      rw [List.range_succ, List.filterMap_append, ih (by omega), List.take_succ]
      congr 1
      have e : (((xs.length : Nat) : Int) - 1 + (n : Int) * (-1)).toNat = xs.length - 1 - n := by omega
      have hlt : n < xs.reverse.length := by rw [List.length_reverse]; omega
      rw [List.filterMap_cons, List.filterMap_nil, e, List.getElem?_reverse (by omega)]
      simp only [List.getElem?_toArray]
      cases q : xs[xs.length - 1 - n]? with
      | none => simp
      | some v => simp
  rw [key xs.length (Nat.le_refl _), List.take_of_length_le (by rw [List.length_reverse]; exact Nat.le_refl _)]
theorem adjust_rev (n : Nat) : Builtin.Slice.sliceAdjust none none (-1) (n : Int) = ((n : Int) - 1, -1) := by
  unfold Builtin.Slice.sliceAdjust
  simp
theorem places_rev (n : Nat) : Builtin.Slice.slicePlaces ((n : Int) - 1) (-1) (-1) = n := by
  unfold Builtin.Slice.slicePlaces
  have h1 : ¬ ((-1 : Int) > 0) := by omega
  simp only [h1, if_false]
  split
  · simp only [Int.neg_neg, Int.ediv_one]; omega
  · simp only [Int.toNat_zero]; omega
theorem sliceApplied_rev {prog : Program} {w : World} {A : Around} {E : Value → Shared → Prop} {s : Shared} {sl : Addr} {vl vu vk : Value} {n : Nat} {Q : Int × Int × Nat → Shared → Prop} (hs : s.heap.IsSliceOf sl vl vu vk) (pl : IsPart vl none) (pu : IsPart vu none) (pk : IsPart vk (some (-1)))
    (h : Q ((n : Int) - 1, -1, n) s) : wpAny (model prog w) A (Builtin.Slice.sliceApplied (.ref sl) (pure (n : Int))) Q E s := by
  obtain ⟨os, hos, hcs, hds⟩ := id hs
  unfold Builtin.Slice.sliceApplied Builtin.Slice.sliceFields
  refine wpAny_bind (wpAny_bind (wpAny_field hos hds (x := vl) rfl (wpAny_bind (wpAny_field hos hds (x := vu) rfl (wpAny_bind (wpAny_field hos hds (x := vk) rfl (wpAny_pure ?_)))))))
  refine wpAny_bind (HT.slicePart_ pk ?_)
  show wpAny _ _ (if ((-1 : Int) == 0) = true then _ else _) _ _ s
  rw [if_neg (by decide)]
  refine wpAny_bind (HT.slicePart_ pl (wpAny_bind (HT.slicePart_ pu (wpAny_bind (wpAny_pure ?_)))))
  show wpAny _ _ (match Builtin.Slice.sliceAdjust none none (-1) (n : Int) with | (lo, hi) => pure (lo, (-1 : Int), Builtin.Slice.slicePlaces lo hi (-1))) _ _ s
  rw [adjust_rev n]
  show wpAny _ _ (pure ((n : Int) - 1, (-1 : Int), Builtin.Slice.slicePlaces ((n : Int) - 1) (-1) (-1))) _ _ s
  rw [places_rev]
  exact wpAny_pure h
theorem getItem_tuple_rev {prog : Program} {w : World} {A : Around} {E : Value → Shared → Prop} {s : Shared} {t sl : Addr} {its : List Value} {vl vu vk : Value} {Q : Value → Shared → Prop} (ht : IsTup s.heap t its.toArray) (hs : s.heap.IsSliceOf sl vl vu vk) (pl : IsPart vl none) (pu : IsPart vu none) (pk : IsPart vk (some (-1)))
    (h : Q (.ref s.heap.objs.size) { s with heap := s.heap.push { cls := .type "tuple", data := .seq its.reverse.toArray } })
    (hsz : its.length ≤ sizeLine) : wpAny (model prog w) A (getItem (.ref t) (.ref sl)) Q E s := by
  have htake : sizeOk (.seq its.reverse.toArray) := by
    show its.reverse.toArray.size ≤ sizeLine
    rw [List.size_toArray, List.length_reverse]
    exact hsz
  obtain ⟨os, hos, hcs, hds⟩ := id hs
  have hTs : s.TypeIs (.ref sl) "slice" := ⟨os, hos, hcs⟩
  unfold getItem
  try with_reducible refine wpAny_holding ?_
  first | refine wpAny_bind (wpAny_pure ?_) | skip
  refine wpAny_bind (wpAny_sequenceKey ht.typeIs (by decide) ?_)
  refine wpAny_bind (wpAny_callSpecial?_slot (name := Str.ofString "__getitem__") ht.typeIs PyProof.Rows.slot_tuple_getitem
    (wpAny_call_entry PyProof.Rows.slot_tuple_getitem ht.typeIs entry_tuple_getitem ?_ (args_tuple_getitem _ _)))
  show wpAny _ _ (Builtin.Tuple.tupleItemsOf (.ref t) >>= _) _ _ s
  refine wpAny_bind (tupleItemsOf_ ht ?_)
  refine wpAny_bind (wpAny_typeOf hTs ?_)
  rw [if_pos (by decide)]
  refine wpAny_bind (sliceApplied_rev hs pl pu pk ?_)
  have hno : ¬ ((((its.toArray.size : Int) - 1) == 0 && (-1 : Int) == 1 && its.toArray.size == its.toArray.size) = true) := by
    intro q
    rw [Bool.and_eq_true, Bool.and_eq_true] at q
    exact absurd q.1.2 (by decide)
  show wpAny _ _ (if (((its.toArray.size : Int) - 1) == 0 && (-1 : Int) == 1 && its.toArray.size == its.toArray.size) = true then _ else _) _ _ s
  rw [if_neg hno]
  have ep := rev_pick its
  rw [← List.size_toArray] at ep
  rw [ep]
  first
    | exact wpAny_bind (m := Builtin.Tuple.tupleExact _) (wpAny_newObj_type (wpAny_pure ⟨_, rfl, wpAny_pure h⟩) htake)
    | exact wpAny_bind (m := Builtin.Tuple.tupleExact _) (wpAny_newObj_type (wpAny_bind (wpAny_pure (wpAny_pure ⟨_, rfl, wpAny_pure h⟩))) htake)
    | exact wpAny_bind (wpAny_bind (m := Builtin.Tuple.tupleExact _) (wpAny_newObj_type (wpAny_pure (wpAny_pure ⟨_, rfl, wpAny_pure h⟩)) htake))
    | exact wpAny_bind (wpAny_bind (m := Builtin.Tuple.tupleExact _) (wpAny_newObj_type (wpAny_pure ⟨_, rfl, wpAny_pure h⟩) htake))
def tRevT (K : PySem.W.Frag) (te : TE) : TE := fun σ H Q => te σ H fun x H1 => ∃ a xs, x = .ref a ∧ SqT K H1 a xs ∧ ∀ p, H1 p = none → Q (.ref p) (upd H1 p (.tup xs.reverse))
theorem pe_revT {e : Expr} {te : TE} {k : Nat} {p1 p2 p3 pos : Pos} (he : PE X e te) : PE X (.Subscript e (.Slice none none (some (.UnaryOp .USub (.Constant (.int 1) k p1) p2)) p3) pos) (tRevT X.K te) := by
  refine ⟨fun pins s σ H Q I h => ?_⟩
  refine Subscript_ (thn (he.run pins s σ H _ I h) fun v s1 ⟨x, H1, I1, r1, q1⟩ => ?_)
  obtain ⟨a, xs, ex, hx, q⟩ := q1
  subst ex
  cases r1
  have hst : PO X (some (.UnaryOp .USub (.Constant (.int 1) k p1) p2)) (tPart (tUn (rU fun i => .int (-i)) (tC (.int 1)))) := po_some (pe_un un_neg pe_int)
  refine wpAny_Slice (thn (po_none.run pins s1 σ H1 (fun o H2 => o = none ∧ H2 = H1) I1 ⟨rfl, rfl⟩) fun vl s2 ⟨l, H2, I2, pl, el, e2⟩ => ?_)
  subst el e2
  refine thn (po_none.run pins s2 σ H2 (fun o H3 => o = none ∧ H3 = H2) I2 ⟨rfl, rfl⟩) fun vu s3 ⟨u, H3, I3, pu, eu, e3⟩ => ?_
  subst eu e3
  refine thn (hst.run pins s3 σ H3 (fun o H4 => o = some (-1) ∧ H4 = H3) I3 ⟨1, rfl, -1, rfl, rfl, rfl⟩) fun vs s4 ⟨o, H4, I4, ps, eo, e4⟩ => ?_
  subst eo e4
  have I5 : Inv X pins σ H4 { s4 with heap := s4.heap.push { cls := .type "slice", data := .fields #[vl, vu, vs] } } := I4.kept (t' := s4.toks) fun b ob q => Heap.get?_push_of_some _ q
  obtain ⟨its, r, ht, hz⟩ := I5.tuple hx
  have hlen := r.length
  show wpAny (model X.prog X.w) X.A (subscriptTail e (.Slice none none (some (.UnaryOp .USub (.Constant (.int 1) k p1) p2)) p3) (.ref a) (.ref s4.heap.objs.size)) (EP X pins σ Q) X.xe { s4 with heap := s4.heap.push { cls := .type "slice", data := .fields #[vl, vu, vs] } }
  refine tail_any (ops := [.ref a, .ref s4.heap.objs.size]) ht.typeIs (PyProof.Rows.slot_tuple_getitem.lookup) ?_ (by with_unfolding_all rfl)
  refine getItem_tuple_rev ht (Heap.IsSliceOf.new _ vl vu vs) pl pu ps ?_ (by omega)
  refine ⟨.ref _, _, I5.laid (t' := s4.toks) (o := .tup xs.reverse) (fun b ob q => Heap.get?_push_of_some _ q) (Nat.le_refl _) ?_, rfl, q _ (I5.hok.fresh (Nat.le_refl _))⟩
  exact ⟨by rw [List.length_reverse]; exact hz, _, r.reverse, IsTup.new _ _⟩
end
end L2

set_option maxRecDepth 100000
set_option maxHeartbeats 4000000
/-! # The head: what the program's top has left, as facts that one kernel run decides; the end of a law -/
namespace HX
open PySem PySem.W PySem.Calls PyProof.Rows He He5
open PySem.HandSPX (refsVE)

def clsXB (K : Frag) (C : Addr) : Bool := (match K.lookup C with
  | some ⟨.type ty, _, .cls cd, sl⟩ => (match cd.mro, sl.toList with
    | .ref C' :: bm, [_, _, _, _, some (.builtin n), _] => decide (ty = "type") && (decide (C' = C) && (decide (n = "ValueError.__new__") && (cd.hasDict && (!cd.hasDel && (refsVE bm && eqO (alongIn K "__init__" bm) (some (some (.builtin "ValueError.__init__"))))))))
    | _, _ => false)
  | _ => false) && (eqO (findIn K (.ref C) "__setattr__") (some (some (.builtin "object.__setattr__"))) && decide (subIn K (.ref C) (.type "ValueError") = some true))
theorem clsXB_ok {K : Frag} {C : Addr} (h : clsXB K C = true) : NX.ClsX K C := by
  obtain ⟨h1, h2⟩ := ba h
  obtain ⟨h2, h3⟩ := ba h2
  refine ⟨?_, eqO_ok h2, of_decide_eq_true h3⟩
  clear h2 h3 h
  split at h1
  · rename_i ty dd cd sl e
    split at h1
    · rename_i C' bm a0 a1 a2 a3 n a5 hm hs
      obtain ⟨k1, h1⟩ := ba h1
      obtain ⟨k2, h1⟩ := ba h1
      obtain ⟨k3, h1⟩ := ba h1
      obtain ⟨k4, h1⟩ := ba h1
      obtain ⟨k5, h1⟩ := ba h1
      obtain ⟨k6, k7⟩ := ba h1
      have e1 := of_decide_eq_true k1
      have e2 := of_decide_eq_true k2
      have e3 := of_decide_eq_true k3
      subst e1 e2 e3
      obtain ⟨nm, bs, mro, ns, qn, hd, sn, sub, ab, col, del⟩ := cd
      dsimp only at hm k4 k5
      subst hm
      have e5 : del = false := by simpa using k5
      subst k4 e5
      have hsl : sl = #[a0, a1, a2, a3, some (.builtin "ValueError.__new__"), a5] := by
        obtain ⟨l⟩ := sl
        simp only at hs
        rw [hs]
      subst hsl
      exact ⟨nm, qn, ns, bs, bm, sn, sub, ab, col, dd, a0, a1, a2, a3, a5, e, k6, eqO_ok k7⟩
    · cases h1
  · cases h1

/-- the text of an error's __init__ -/
structure InitTx (prog : Program) (st : Stmt) (qual : Str) (ps : List Str) (l : List (Str × Str)) : Prop where
  txt : ∃ msg k q1 q2 q3 q4 q5 q6 r, L2.defBody st = NX.supS msg k q1 q2 q3 q4 q5 q6 :: r ∧ NX.Sto r l ∧ (∀ env : Env, env.scope = L2.defScope st → interactive env = false) ∧
    ∀ env : Env, env.scope = L2.defScope st → ∃ pl : Sem Bool, eval (.Call (.Attribute (.Call (.Name "super" q1) [] [] q2) "__init__" q3) [.Constant (.str msg) k q4] [] q5) env = (do
      let ov ← attributeBase (.Call (.Name "super" q1) [] [] q2) "__init__" env (eval (.Call (.Name "super" q1) [] [] q2) env)
      standAt q3.atName
      let (f, first) ← holding [ov] (getMethod ov "__init__" pl)
      callWith q5 f first (backTo q5 (starEach [.Constant (.str msg) k q4] env)) [])
  par : ∃ ar, ((L2.defArgs st).posonlyargs ++ (L2.defArgs st).args).head? = some ar ∧ ar.arg = "self"
  sc : ((L2.defScope st).names.lookup ("super" : Str) = some .globalImplicit ∧ (L2.defScope st).names.lookup ("__class__" : Str) = some .free ∧ (L2.defScope st).names.lookup ("self" : Str) = some .local) ∧ (∀ x ∈ (L2.defScope st).names, x.2 ≠ .cell) ∧
    (L2.defScope st).kind = .function ∧ (L2.defScope st).isCoroutine = false ∧ (L2.defScope st).isGenerator = false
  loc : (∀ p ∈ l, (L2.defScope st).names.lookup p.2 = some .local ∧ (p.2 == ("__debug__" : Str)) = false ∧ p.2 ∈ ps) ∧ ∀ p ∈ ps, (L2.defScope st).names.lookup p = some .local
  nod : ps.Nodup ∧ ("self" : Str) ∉ ps
  bind : ∀ (s' : Shared) (e : Addr) (fd : FuncData) (us : List Value), us.length = ps.length → fd.params = L2.defArgs st → fd.scope = L2.defScope st → fd.defaults = .none → BindsTo s' fd ⟨.ref e :: us, []⟩ (("self", .ref e) :: ps.zip us)
  top : (prog.main.scope.names.lookup ("super" : Str)).isSome = false
  few : l.length ≤ 900

/-- a def with its closure's names -/
abbrev FnQ : Type := Option (Str × Str × Arguments × FuncBody × Scope × Addr × List Str × Addr)
def fnQ (K : Frag) (a : Addr) : FnQ := match K.lookup a with
  | some ⟨_, _, .func fd, _⟩ => some (fd.name, fd.qualname, fd.params, fd.body, fd.scope, fd.globals, fd.closure.map (·.1), fd.builtins)
  | _ => none
/-- an error's class: its name, its __init__'s text, its qualified name -/
structure ErrD where
  x : Str
  st : Stmt
  qual : Str
  fs : List Str
def ErrD.at_ (d : ErrD) (K : Frag) : Addr := ma K (ga K d.x) "__init__"
def ErrD.val (d : ErrD) : FnQ := some (("__init__" : Str), d.qual, L2.defArgs d.st, FuncBody.stmts (L2.defBody d.st), L2.defScope d.st, mainGlobals, [("__class__" : Str)], builtinsNs)
def ErrD.ok (file : Str) (d : ErrD) (K : Frag) : Bool := clsXB K (ga K d.x) && (eqO (findIn K (.ref (ga K d.x)) "__init__") (some (some (.ref (d.at_ K)))) && (decide (typeIn K (.ref (d.at_ K)) = some (.type "function")) && ((match K.lookup (d.at_ K) with
  | some ⟨_, _, .func fd, _⟩ => codeIn K fd.code fd.qualname && ((match fd.closure with
    | [(_, cc)] => (match K.lookup cc with
      | some ⟨_, _, .cell (some (.ref D)), _⟩ => decide (D = ga K d.x)
      | _ => false)
    | _ => false) && ((match fd.code with
    | .ref cda => (match K.lookup cda with
      | some ⟨_, _, .fields vs, _⟩ => (match (vs[2]? : Option Value) with
        | some (.str f _) => f == file
        | _ => false)
      | _ => false)
    | _ => false) && (match fd.defaults with
    | .none => true
    | _ => false)))
  | _ => false) && ((d.fs.all fun f => eqO (findIn K (.ref (ga K d.x)) f) (some none)) && (eqO (nsIn K mainGlobals d.x) (some (some (.ref (ga K d.x)))) && (keepIn K (.ref (ga K d.x)) && (decide (subIn K (.ref (ga K d.x)) (.type "BaseException") = some true) && decide (typeIn K (.ref (ga K d.x)) = some (.type "type")))))))))
theorem errD_ok {prog : Program} {K : Frag} {h : Heap} {mg : Str → Option Value} {d : ErrD} {ps : List Str} {l : List (Str × Str)} (X : K.In h) (G : h.Ns mainGlobals mg) (T : InitTx prog d.st d.qual ps l) (hf : l.map (·.1) = d.fs) (hs : mg "super" = none) (hany : nsIn K cStatics "thirdparty.any" = some none)
    (e : fnQ K (d.at_ K) = d.val) (c : d.ok (prog.main.file : Str) K = true) : L2.Exn prog K mg d.x (ga K d.x) (d.at_ K) ps l := by
  obtain ⟨c1, c⟩ := ba c
  obtain ⟨c2, c⟩ := ba c
  obtain ⟨c3, c⟩ := ba c
  obtain ⟨c4, c⟩ := ba c
  obtain ⟨c5, c⟩ := ba c
  obtain ⟨c6, c⟩ := ba c
  obtain ⟨c7, c⟩ := ba c
  obtain ⟨c8, c9⟩ := ba c
  obtain ⟨ar, hp1, hp2⟩ := T.par
  refine ⟨clsXB_ok c1, ⟨d.qual, L2.defArgs d.st, L2.defScope d.st, L2.defBody d.st, ar, ⟨T.txt, eqO_ok c2, of_decide_eq_true c3, ?_, hp1, hp2, T.sc.1.1, T.sc.1.2.1, T.sc.1.2.2, fun p hp => ⟨(T.loc.1 p hp).1, (T.loc.1 p hp).2.1, ?_⟩, T.sc.2.1, T.sc.2.2.1, T.sc.2.2.2.1, T.sc.2.2.2.2, T.top, T.few⟩, T.bind, T.loc.2⟩,
    fun p hp => (T.loc.1 p hp).2.2, T.nod, mg_of X G (eqO_ok c6), hs, hany, c7, of_decide_eq_true c8, of_decide_eq_true c9⟩
  · unfold fnQ at e
    cases q : K.lookup (d.at_ K) with
    | none =>
      rw [q] at c4
      cases c4
    | some o =>
      obtain ⟨oc, od, dt, osl⟩ := o
      rw [q] at c4 e
      cases dt with
      | func fd =>
        obtain ⟨n1, n2, n3, n4, n5, n6, n7, n8, n9, n10, n11, n12, n13, n14, n15⟩ := fd
        have e2 : (some (n1, n2, n3, n4, n5, n6, n7.map (·.1), n15) : FnQ) = some (("__init__" : Str), d.qual, L2.defArgs d.st, FuncBody.stmts (L2.defBody d.st), L2.defScope d.st, mainGlobals, [("__class__" : Str)], builtinsNs) := e
        simp only [Option.some.injEq, Prod.mk.injEq] at e2
        obtain ⟨h1, h2, h3, h4, h5, h6, h7, h8⟩ := e2
        subst h1 h2 h3 h4 h5 h6 h8
        obtain ⟨k1, k2⟩ := ba c4
        obtain ⟨kA, k3⟩ := ba k2
        obtain ⟨k3, k9⟩ := ba k3
        clear k2 c4
        dsimp only at k1 kA k3 k9
        have ed : n8 = .none := by
          cases n8 <;> first | rfl | cases k9
        subst ed
        split at kA
        · rename_i nn cc
          have en : nn = "__class__" := by simpa using h7
          subst en
          split at kA
          · rename_i cl cld D csl qc
            have eD := of_decide_eq_true kA
            subst eD
            split at k3
            · rename_i cda hcd9
              have hcd8 : n13 = .ref cda := hcd9
              subst hcd8
              split at k3
              · rename_i ccl cdd vs ccs qd
                split at k3
                · rename_i f tf qv
                  have ef : f = prog.main.file := by simpa using k3
                  exact ⟨oc, od, n9, n10, n11, n12, cda, n14, osl, cc, cl, cld, csl, ccl, cdd, vs, ccs, f, tf, rfl, k1, qc, qd, qv, by rw [ef]; simp⟩
                · cases k3
              · cases k3
            · cases k3
          · cases kA
        · cases kA
      | _ => cases c4
  · have := List.all_eq_true.mp c5 p.1 (by rw [← hf]; exact List.mem_map_of_mem hp)
    exact eqO_ok this

/-! ### the Hook -/
abbrev AlX : Type := Bool × List He5.FnW × List FnQ
def obsX (bx : Frag → Bool) (fn : List DefA) (er : List ErrD) (file : Str) (K : Frag) : AlX := (bx K && (fn.all (fun d => d.ok K) && er.all fun d => d.ok file K), fn.map fun d => fnA K (d.at_ K), er.map fun d => fnQ K (d.at_ K))
def valX (fn : List DefA) (er : List ErrD) : AlX := (true, fn.map DefA.val, er.map ErrD.val)
def SaysX (bx : Frag → Bool) (fn : List DefA) (er : List ErrD) (file : Str) (K : Frag) : Prop := obsX bx fn er file K = valX fn er
def obsXG (n : Nat) (bx : Frag → Bool) (fn : List DefA) (er : List ErrD) (file : Str) (g : Addr → Option Obj) : AlX := obsX bx fn er file (frG g (asA g n))
def hookX (n : Nat) (bx : Frag → Bool) (fn : List DefA) (er : List ErrD) (file : Str) : PySem.W.Hook where
  α := AlX
  obs := fun s => obsXG n bx fn er file s.heap.get?
  val := fun _ => valX fn er
  says := fun _ h => ∃ K : Frag, K.In h ∧ SaysX bx fn er file K
  of := fun _ _ e => ⟨_, frG_in, e⟩
  keeps := fun _ _ _ ⟨K, hK, c⟩ k => ⟨K, Frag.In.keeps hK k, c⟩
theorem obsXG_eq {n : Nat} {bx : Frag → Bool} {fn : List DefA} {er : List ErrD} {file : Str} {g : Addr → Option Obj} {s : Shared} (h : ∀ a, g a = s.heap.get? a) : obsXG n bx fn er file g = (hookX n bx fn er file).obs s := by
  have e : g = s.heap.get? := funext h
  rw [e] <;> rfl
section
variable {bx : Frag → Bool} {fn : List DefA} {er : List ErrD} {file : Str} {K : Frag}
theorem SaysX.bool (c : SaysX bx fn er file K) : bx K = true := (ba (show (bx K && (fn.all (fun d => d.ok K) && er.all fun d => d.ok file K)) = true from congrArg (fun z : AlX => z.1) c)).1
theorem SaysX.def_ (c : SaysX bx fn er file K) (i : Nat) {d : DefA} (h : fn[i]? = some d := by rfl) : ∃ fd, L2.FunD K d.name d.qual d.params d.body d.scope (d.dvs K) (d.kws K) (d.at_ K) fd := by
  have c2 := (ba (ba (show (bx K && (fn.all (fun d => d.ok K) && er.all fun d => d.ok file K)) = true from congrArg (fun z : AlX => z.1) c)).2).1
  have e : fn.map (fun d => fnA K (d.at_ K)) = fn.map DefA.val := congrArg (fun z : AlX => z.2.1) c
  have e2 : (fn.map fun d => fnA K (d.at_ K))[i]? = (fn.map DefA.val)[i]? := by rw [e]
  rw [List.getElem?_map, List.getElem?_map, h] at e2
  exact DefA.funD (Option.some.inj e2) (List.all_eq_true.mp c2 d (List.mem_of_getElem? h))
theorem SaysX.err_ (c : SaysX bx fn er file K) (i : Nat) {d : ErrD} (h : er[i]? = some d := by rfl) : fnQ K (d.at_ K) = d.val ∧ d.ok file K = true := by
  have c2 := (ba (ba (show (bx K && (fn.all (fun d => d.ok K) && er.all fun d => d.ok file K)) = true from congrArg (fun z : AlX => z.1) c)).2).2
  have e : er.map (fun d => fnQ K (d.at_ K)) = er.map ErrD.val := congrArg (fun z : AlX => z.2.2) c
  have e2 : (er.map fun d => fnQ K (d.at_ K))[i]? = (er.map ErrD.val)[i]? := by rw [e]
  rw [List.getElem?_map, List.getElem?_map, h] at e2
  exact ⟨Option.some.inj e2, List.all_eq_true.mp c2 d (List.mem_of_getElem? h)⟩
end
end HX

namespace L2
open PySem PySem.Spec PyProof.Rows
/-- the end of a law over a head by facts, the script's bits told -/
theorem walk_ofX {l : PySem.W.OpenLaw} {n k : Nat} {q : Program} {loose : List Str} {XP : (Str → Option Value) → Heap → Prop} {YP : World → Heap → Prop} {d : DefRec} {CX : World → CXT} {x : Str}
    (hn : l.most = some n) (hn2 : n ≤ sizeLine) (hdf : d.params.defaults = []) (hr : Room k callerA)
    (F : ∀ (w : World) (mg : Str → Option Value) (fa : Addr) (h : Heap), YP w h → h.Ns mainGlobals mg → mg d.name = some (.ref fa) →
      ∃ (K : PySem.W.Frag) (fd : FuncData) (sp : Sp), K.In h ∧ (∀ (s : Shared) (u : Value), BindsTo s fd ⟨[u], []⟩ [(x, u)]) ∧
        (∀ (H : Hp) (a : Addr) (ns : List Int), ns.length ≤ n → (∀ z ∈ ns, Builtin.Int.intBits z ≤ 1048576) → Only H → SqL K H a (ns.map V.int) → sp [.ref a] H (fun v _ => v = .bl true) fun _ _ _ => False) ∧
        ∀ base : Heap, K.In base → base.Ns mainGlobals mg → FnOk l.prog w K mg base (CX w) k fa fd [x] sp)
    (hCX : ∀ (w : World) (H : Hp) (s : Shared) (e : Value) (s' : Shared), CX w [] H s (fun _ _ _ => False) e s' → False) :
    PySem.W.WalkO q loose XP YP l.row.toRowW d [] (fun f vs => PySem.call f vs) := by
  refine Att.attach_callB hn hdf fun w s₀ s₁ mg mb fa o pm cd doc a vs ns G Y ho hd hcd hmg hobj hints hlen hbits hg => ?_
  obtain ⟨K, fd, sp, KX, hb, hsp, hF⟩ := F w mg fa _ Y G.T.g hmg
  exact law_call KX G.T.g G.T.b G.T.builtins G.T.nolimit hg hobj hints (Nat.le_trans hlen hn2) hr hF hb (fun H hO hS => hsp H a ns hlen hbits hO hS) fun H e s' => hCX w H s₁ e s'
end L2

set_option maxRecDepth 100000
set_option maxHeartbeats 4000000
/-! # n * obj; facts of classes by one Bool -/
namespace L2
open PySem PySem.Spec PyProof.Rows
theorem int_mul_ins (k : Int) (t : Tok) (l : Addr) (C : Value) (dd : Option Addr) (sl : Array (Option Value)) :
    Meets (Builtin.«int.__mul__» ⟨[.int k t, .ref l], []⟩) (fun _ R s => s.heap.get? l = some { cls := C, dict := dd, data := .plain, slots := sl } ∧ R (.ok (.ret Value.notImplemented)) s) :=
  .of_wp fun prog w A R s h => by obtain ⟨hp, g, d, tk, os⟩ := s; obtain ⟨hl, h⟩ := h; wp_walk using wpAny_loadPart' hl; exact ⟨_, rfl, h⟩
/-- n op a, a of a class with the operator and its reflected one -/
structure OwnR (K : PySem.W.Frag) (C : Addr) (op : Operator) (f : Addr) : Prop where
  first : PySem.W.selfFirst K C = true
  mul : ∃ g, PySem.W.findIn K (.ref C) (PySem.dunder op.info.2) = some (some (.ref g))
  at_ : PySem.W.findIn K (.ref C) (dunderR op.info.2) = some (some (.ref f))
  fn : PySem.W.isFn K (.ref f) = true
  sub : PySem.W.subIn K (.ref C) (.type "int") = some false
def rOwnR (C : Addr) (sp : Sp) (E : XK) : R2 := fun x y H Q => ∃ a dx fs n, x = .int n ∧ y = .ref a ∧ H a = some (.ins C dx fs) ∧ sp [.ref a, .int n] H Q E
section
open PySem.W
theorem ksp_rbin {prog : Program} {w : World} {A : Around} {E : Value → Shared → Prop} {s : Shared} {K : Frag} {x C L f : Addr} {h₀ : Heap} {m : Str → Option Value} {od : Option Obj} {dx : Addr} {k : Int} {t : Tok} {op : Operator} {idl : String} {Q : Value → Shared → Prop}
    (Fr0 : Fr h₀ L s.heap m) (X₀ : K.In h₀) (I : InstAt s.heap x (instObj C dx) C od) (O : OwnR K C op f) (hf : fillsNumberSlot (.type "int") op.info.2 = pure true) (hl : Slot "int" (PySem.dunder op.info.2) idl)
    (hd : ∀ {Q' : Value → Shared → Prop}, Q' .notImplemented s → wpAny (model prog w) A (call (.builtin idl) [.int k t, .ref x]) Q' E s)
    (h : wpAny (model prog w) A (call (.ref f) [.ref x, .int k t]) (PySem.W.CmpBack Q) E s) : wpAny (model prog w) A (binaryOp op (.int k t) (.ref x)) Q E s := by
  have X := X₀.keeps Fr0.keep
  obtain ⟨cd, rest, hcd, hm⟩ := ksp_first O.first
  obtain ⟨g0, hg0⟩ := O.mul
  have one := ksp_try X I O.at_ O.fn h
  have two : ∀ {Q' : Option Value → Shared → Prop}, Q' none s → wpAny (model prog w) A (tryMethod (.int k t) (PySem.dunder op.info.2) (.ref x)) Q' E s := fun {Q'} q =>
    wpAny_tryMethod_declines (typeIs_int s k t) hl (hd ⟨rfl, q⟩)
  have oat := O.at_
  rcases hi : op.info with ⟨sym, nm'⟩
  rw [hi] at hg0 hf two one
  dsimp only at hg0 hf two one
  obtain ⟨hh, gg, d, tt, os⟩ := s
  have L1 : Looks (model prog w) hh (typeOf (.ref x)) (.ref C) := I.type
  have L2 : Looks (model prog w) hh (typeOf (.int k t)) (.type "int") := Looks.of_pure rfl
  have L3 : Looks (model prog w) hh (fillsNumberSlot (.ref C) nm') true := fills_K X hcd hm hg0
  have L4 : Looks (model prog w) hh (fillsNumberSlot (.type "int") nm') true := Looks.of_pure hf
  have L5 : Looks (model prog w) hh (isSubtype (.ref C) (.type "int")) false := looks_subIn X O.sub
  have L7 : Looks (model prog w) hh (numberSlotInPython (.type "int") nm') false := Looks.of_pure rfl
  have hne : (Value.type "int" == Value.ref C) = false := Bool.eq_false_iff.mpr fun q => by cases beq_iff_eq.mp q
  simp only [binaryOp, hi]
  refine wpAny_holding (wpAny_bind ?_)
  unfold binaryOp1
  refine wpAny_bind (L2.at (wpAny_bind (L1.at (wpAny_bind (L4.at ?_)))))
  simp only [hne, Bool.false_eq_true, if_false]
  refine wpAny_bind (L3.at ?_)
  simp only [Bool.and_self, if_true]
  refine wpAny_bind (L5.at ?_)
  simp only [Bool.false_eq_true, if_false, pure_bind, Bool.not_false, Bool.and_self, if_true]
  refine wpAny_bind (L7.at ?_)
  simp only [Bool.false_eq_true, if_false, pure_bind, Bool.not_false, Bool.and_self, if_true]
  refine wpAny_bind (two ?_)
  simp only [Bool.false_eq_true, if_false, pure_bind]
  refine wpAny_bind (wpAny_mono one (fun r s' hr' => ?_) fun _ _ e => e)
  obtain ⟨v, rfl, hq⟩ := hr'
  exact wpAny_bind (wpAny_rule (wpAny_pure (wpAny_pure hq)))
end
section
variable {X : Cx} {CX : CXT} {C f : Addr} {fd : FuncData} {ps : List Str} {sp : Sp} {E : XK} {k : Nat}
theorem op_ownR (O : OwnR X.K C .Mult f) (F0 : FnOk X.prog X.w X.K X.mg X.base CX k f fd ps sp) (hb : Binds X.K fd ps []) (hr : Room k X.A) (hx : Passes CX X E) :
    OpR X (binaryOp .Mult) (rOwnR C sp E) := by
  intro pins s σ H x y v u Q I rx ry h
  obtain ⟨a, dx, fs, n, rfl, rfl, ha, hsp⟩ := h
  obtain ⟨t, rfl⟩ := rx
  cases ry
  obtain ⟨mA, J0, rel, _⟩ := ins_get I.hok ha
  obtain ⟨od, J, _⟩ := J0.look
  obtain ⟨m, hF⟩ := I.fr
  refine ksp_rbin hF I.ok.mod.kin J O F.fills_int_mul F.slot_int_mul (fun q => call_meets F.slot_int_mul (typeIs_int s n t) F.entry_int_mul (F.args_int_mul_2 _ _) (int_mul_ins n t a (.ref C) (some dx) #[]) ⟨J0.obj, q⟩) (wpAny_mono (run_fn F0 hr hb .nil hx I (us := [.ref a, .int n t]) (vs := [.ref a, .int n]) (.cons rfl (.cons ⟨t, rfl⟩ .nil)) hsp) (fun r s' q => back_of q) fun _ _ z => z)
/-- a def called within a built-in's call -/
theorem run_fnA {A : Around} {pins : List (Addr × Obj)} {σ : St} {H : Hp} {s : Shared} {Q : VK} {us : List Value} {vs : List V} (F : FnOk X.prog X.w X.K X.mg X.base CX k f fd ps sp) (hb : Binds X.K fd ps []) (hr : Room k A) (e0 : Env0 X.prog X.w X.K X.mg X.base A X.stack s H) (hx : Passes CX X E)
    (I : Inv X pins σ H s) (r : Vals vs us) (h : sp vs H Q E) : wpAny (model X.prog X.w) A (call (.ref f) us) (EP X pins σ Q) X.xe s := by
  have hl : us.length = ps.length := r.length.symm.trans (F.len _ _ _ _ h)
  have B : BindsTo s fd ⟨us, []⟩ (ps.zip us) := by
    have := hb s us I.kIn (by rw [List.append_nil]; exact hl)
    rwa [List.append_nil] at this
  refine wpAny_call (codeAny_mono (F.run A X.stack s H ⟨us, []⟩ us vs Q E hr e0 B r h) fun r s' hq => ?_)
  cases r with
  | error e => exact hx pins σ H s e s' I hq
  | ok fl =>
    cases fl with
    | ret u => exact I.after hq
    | next => exact False.elim hq
    | brk => exact False.elim hq
    | cont => exact False.elim hq
/-- abs(a), a of a class with __abs__ -/
def rOwnAbs (C : Addr) (sp : Sp) (E : XK) : List V → Hp → VK → Prop := fun xs H Q => ∃ a dx fs, xs = [.ref a] ∧ H a = some (.ins C dx fs) ∧ sp [.ref a] H Q E
theorem call_ownAbs (hs : PySem.W.findIn X.K (.ref C) "__abs__" = some (some (.ref f))) (hf : PySem.W.isFn X.K (.ref f) = true) (F : FnOk X.prog X.w X.K X.mg X.base CX k f fd ps sp) (hb : Binds X.K fd ps []) (hr : Room (k + 1) X.A) (hx : Passes CX X E) :
    CallR X (.builtin "abs") (rOwnAbs C sp E) := by
  intro pins s σ H xs us Q I r h
  obtain ⟨a, dx, fs, rfl, ha, hsp⟩ := h
  cases r with
  | cons r rr =>
  cases rr
  cases r
  obtain ⟨od, J⟩ := inst_of I.hok ha
  refine Calls.call_function_entry kind_abs plain_abs entry_abs (args_abs _) ?_
  unfold Builtin.«abs»
  refine wpAny_bind (m := oneArg "abs" _) (wpAny_of_eq (a := Value.ref a) (by first | rfl | kernel_rfl!) ?_)
  refine wpAny_bind (PySem.W.special_fn I.kIn J hs (beq_iff_eq.mp hf) (wpAny_mono (run_fnA F hb hr.in1 I.env0.in1 hx I (us := [.ref a]) (vs := [.ref a]) (.cons rfl .nil) hsp) (fun v s' q => ?_) fun _ _ z => z))
  exact wpAny_pure ⟨_, rfl, q⟩
/-- len(a), a of a class with __len__ -/
def rOwnLen (C : Addr) (sp : Sp) (E : XK) : List V → Hp → VK → Prop := fun xs H Q => ∃ a dx fs, xs = [.ref a] ∧ H a = some (.ins C dx fs) ∧ sp [.ref a] H (fun v H' => ∃ n : Nat, v = .int n ∧ n ≤ sizeLine ∧ Q v H') E
end
end L2

set_option maxRecDepth 100000
set_option maxHeartbeats 4000000
/-! # Facts of a class by one Bool each; walks over own instances, over lists or tuples -/
namespace FB
open PySem PySem.W PySem.Calls PyProof.Rows He He5 HX
abbrev mT : Value := .type "type"
def creadB (K : Frag) (C : Addr) : Bool := readsIn K C mT && eqO (specialIn K (.ref C) "__getattribute__") (some (some (.builtin "type.__getattribute__")))
theorem cread_ok {K : Frag} {C : Addr} (h : creadB K C = true) : ClX.CRead K C mT := by
  obtain ⟨h1, h2⟩ := ba h
  exact ⟨h1, eqO_ok h2⟩
def cintB (K : Frag) (C : Addr) (f : Str) (i : Int) : Bool := match findCls K (.ref C) mT f with
  | some (.val (.int j _)) => decide (j = i)
  | _ => false
theorem cint_ok {K : Frag} {C : Addr} {f : Str} {i : Int} (h : cintB K C f i = true) : ∃ u, ClX.CVal K C mT f (.int i) u := by
  unfold cintB at h
  split at h
  · rename_i j t e
    have := of_decide_eq_true h
    subst this
    exact ⟨_, e, ⟨t, rfl⟩⟩
  · cases h
def addrO : Option (Option Value) → Bool
  | some none => true
  | some (some (.ref _)) => true
  | _ => false
theorem addrO_ok {o : Option (Option Value)} (h : addrO o = true) : ∃ rc, o = some rc ∧ (rc = none ∨ ∃ g : Addr, rc = some (.ref g)) := by
  cases o with
  | none => cases h
  | some o =>
    cases o with
    | none => exact ⟨_, rfl, .inl rfl⟩
    | some v => cases v <;> first | exact ⟨_, rfl, .inr ⟨_, rfl⟩⟩ | (cases h; done)
def opB (K : Frag) (C : Addr) (op : Operator) (f : Addr) : Bool := selfFirst K C && (eqO (findIn K (.ref C) (PySem.dunder op.info.2)) (some (some (.ref f))) && isFn K (.ref f))
theorem op_ok {K : Frag} {C f : Addr} {op : Operator} (h : opB K C op f = true) : L2.OwnOp K C op f := by
  obtain ⟨h1, h⟩ := ba h
  obtain ⟨h2, h3⟩ := ba h
  exact ⟨h1, eqO_ok h2, h3⟩
def opTB (K : Frag) (C : Addr) (op : Operator) (f : Addr) (T : String) : Bool := opB K C op f && (addrO (findIn K (.ref C) (dunderR op.info.2)) && ((findIn K (.type T) (PySem.dunder op.info.2)).isSome && ((findIn K (.type T) (dunderR op.info.2)).isSome && decide (subIn K (.type T) (.ref C) = some false))))
theorem opT_ok {K : Frag} {C f : Addr} {op : Operator} {T : String} (h : opTB K C op f T = true) : L2.OwnOpT K C op f T := by
  obtain ⟨h1, h⟩ := ba h
  obtain ⟨h2, h⟩ := ba h
  obtain ⟨h3, h⟩ := ba h
  obtain ⟨h4, h5⟩ := ba h
  exact { op_ok h1 with rev := addrO_ok h2, tf := Option.isSome_iff_exists.mp h3, tr := Option.isSome_iff_exists.mp h4, sub := of_decide_eq_true h5 }
def opRB (K : Frag) (C : Addr) (op : Operator) (f : Addr) : Bool := selfFirst K C && ((match findIn K (.ref C) (PySem.dunder op.info.2) with | some (some (.ref _)) => true | _ => false) && (eqO (findIn K (.ref C) (dunderR op.info.2)) (some (some (.ref f))) && (isFn K (.ref f) && decide (subIn K (.ref C) (.type "int") = some false))))
theorem opR_ok {K : Frag} {C f : Addr} {op : Operator} (h : opRB K C op f = true) : L2.OwnR K C op f := by
  obtain ⟨h1, h⟩ := ba h
  obtain ⟨h2, h⟩ := ba h
  obtain ⟨h3, h⟩ := ba h
  obtain ⟨h4, h5⟩ := ba h
  refine ⟨h1, ?_, eqO_ok h3, h4, of_decide_eq_true h5⟩
  split at h2
  · rename_i g e
    exact ⟨g, e⟩
  · cases h2
/-- a special method m of C at f -/
def spB (K : Frag) (C : Addr) (m : Str) (f : Addr) : Bool := eqO (findIn K (.ref C) m) (some (some (.ref f))) && isFn K (.ref f)
theorem sp_ok {K : Frag} {C f : Addr} {m : Str} (h : spB K C m f = true) : findIn K (.ref C) m = some (some (.ref f)) ∧ isFn K (.ref f) = true := by
  obtain ⟨h1, h2⟩ := ba h
  exact ⟨eqO_ok h1, h2⟩
/-- a classmethod m of C, its def at g -/
def cmetB (K : Frag) (C : Addr) (m : Str) (g : Addr) : Bool := match findCls K (.ref C) mT m with
  | some (.get (.builtin n) (.ref p) .none (.ref D)) => decide (n = "classmethod.__get__") && (decide (D = C) && ((match recIn K p "classmethod" with
    | some (.ref g' :: _) => decide (g' = g)
    | _ => false) && fnIn K g))
  | _ => false
theorem cmet_ok {K : Frag} {C g : Addr} {m : Str} (h : cmetB K C m g = true) : ∃ p, ClX.CMet K C mT m p g := by
  unfold cmetB at h
  split at h
  · rename_i n p D e
    obtain ⟨h1, h⟩ := ba h
    obtain ⟨h2, h⟩ := ba h
    obtain ⟨h3, h4⟩ := ba h
    have e1 := of_decide_eq_true h1
    have e2 := of_decide_eq_true h2
    subst e1 e2
    split at h3
    · rename_i g' r er
      have e3 := of_decide_eq_true h3
      subst e3
      exact ⟨p, e, ⟨r, er⟩, h4⟩
    · cases h3
  · cases h
end FB
namespace L2
open PySem PySem.Spec PyProof.Rows PySem.W
/-- the facts of __iter__ from its text -/
theorem ownIt_of {K : Frag} {mg : Str → Option Value} {C f : Addr} {fld qual : Str} {fd : FuncData} {st : Stmt} (c : Cls K C) (n : NoAttr K C fld) (a : findIn K (.ref C) "__iter__" = some (some (.ref f))) (hf : isFn K (.ref f) = true) (hm : mg "iter" = none)
    (F : FunD K "__iter__" qual (defArgs st) (defBody st) (defScope st) [] [] f fd)
    (tx : ∃ p1 p2 p3 p4 p5, defBody st = [.Return (some (.Call (.Name "iter" p1) [.Attribute (.Name "self" p2) fld p3] [] p4)) p5] ∧ ∀ env : Env, env.scope = defScope st → attributeBase (.Name "self" p2) fld env (eval (.Name "self" p2) env) = eval (.Name "self" p2) env)
    (sc : (defScope st).names.lookup ("self" : Str) = some .local ∧ (defScope st).names.lookup ("iter" : Str) = some .globalImplicit ∧ (∀ x ∈ (defScope st).names, x.2 ≠ .cell) ∧ (defScope st).kind = .function ∧ (defScope st).isCoroutine = false ∧ (defScope st).isGenerator = false)
    (hb : ∀ (s : Shared) (fd : FuncData) (v : Value), fd.params = defArgs st → fd.scope = defScope st → fd.defaults = .none → BindsTo s fd ⟨[v], []⟩ [("self", v)]) : OwnIt K mg C f fld := by
  obtain ⟨oc, od, dV, kV, doc, pm, an, cdv, ct, osl, rfl, lk, hcd, hD, _⟩ := F.ex
  obtain ⟨p1, p2, p3, p4, p5, hbody, hbase⟩ := tx
  have e : dV = .none := by
    rcases hD with ⟨_, e⟩ | ⟨e, _⟩
    · exact e
    · exact absurd rfl e
  subst e
  rw [hbody] at lk
  exact ⟨c, n, a, hf, hm, qual, defArgs st, defScope st, p1, p2, p3, p4, p5, ⟨oc, od, kV, doc, pm, an, cdv, ct, osl, lk, hcd⟩, sc.1, sc.2.1, sc.2.2.1, sc.2.2.2.1, sc.2.2.2.2.1, sc.2.2.2.2.2, hb, hbase⟩
section
variable {X : Cx} {tg : Expr}
/-- for x in a, a an own instance whose field is a tuple -/
def iOwn (K : Frag) (C : Addr) (fld : Str) (te : TE) : TI := fun σ H R => te σ H fun x H1 => ∃ a dx fs t xs, x = .ref a ∧ H1 a = some (.ins C dx fs) ∧ fs.lookup fld = some (.ref t) ∧ SqT K H1 t xs ∧ R (Itt K t) H1
theorem pi_own {C f : Addr} {fld : Str} {k : Nat} {e : Expr} {te : TE} (O : OwnIt X.K X.mg C f fld) (hr : Room k X.A) (he : PE X e te) : PI X tg e (iOwn X.K C fld te) := by
  refine ⟨fun pins s σ H R I h => ?_⟩
  refine thn (he.run pins s σ H _ I h) fun v s1 ⟨x, H1, I1, r1, q1⟩ => ?_
  obtain ⟨a, dx, fs, t, xs, ex, ha, hl, hT, q⟩ := q1
  subst ex
  cases r1
  refine own_iter O hr I1 ha hl hT fun h' tk it hk hit ho => ?_
  have I2 : Inv X pins σ H1 { s1 with heap := h', toks := tk } := I1.kept (t' := tk) hk
  refine ⟨it, [it], _, _, H1, rfl, I2, turn_tuple t it, ⟨_, ho, rfl, rfl⟩, fun b hb => ?_, q⟩
  have e : b = it := by simpa using hb
  subst e
  exact I1.fpOk hit (I1.hok.fresh hit)
/-- for x in a, a a list or a tuple -/
def iSeqW (K : Frag) (te : TE) : TI := fun σ H R => te σ H fun x H1 => ∃ a xs, x = .ref a ∧ SqA K H1 a xs ∧ ∀ (J : It) (G : Hp → Prop), (∀ H', Same H1 H' → G H') → Walk J xs.length G (YAt xs) → R J H1
theorem pi_seqW {l : Expr} {tl : TE} (hl : PE X l tl) : PI X tg l (iSeqW X.K tl) := by
  refine ⟨fun pins s σ H R I h => ?_⟩
  refine thn (hl.run pins s σ H _ I h) fun v s1 ⟨x, H1, I1, r1, q1⟩ => ?_
  obtain ⟨a, xs, e, hq, q⟩ := q1
  subst e
  cases r1
  rcases hq with hq | hq
  · obtain ⟨its, rv, p, hz⟩ := I1.list hq
    refine wpAny_pyIter_list p.isList ?_
    refine ⟨s1.heap.objs.size, [s1.heap.objs.size], _, _, H1, rfl, I1.kept (t' := s1.toks) fun b o e => Heap.get?_push_of_some _ e, turn_list a _, ⟨_, Heap.get?_push_size _ rfl, rfl, rfl⟩, fun b hb => ?_, q _ _ (fun _ sm => sm.seq hq) walk_list⟩
    have e : b = s1.heap.objs.size := by simpa using hb
    subst e
    exact I1.fpOk (Nat.le_refl _) (I1.hok.fresh (Nat.le_refl _))
  · obtain ⟨its, rv, p, hz⟩ := I1.tuple hq
    refine wpAny_pyIter_tuple (show s1.heap.IsTuple a its.toArray from p) ?_
    refine ⟨s1.heap.objs.size, [s1.heap.objs.size], _, _, H1, rfl, I1.kept (t' := s1.toks) fun b o e => Heap.get?_push_of_some _ e, turn_tuple a _, ⟨_, Heap.get?_push_size _ rfl, rfl, rfl⟩, fun b hb => ?_, q _ _ (fun _ sm => sm.seqT hq) walk_tup⟩
    have e : b = s1.heap.objs.size := by simpa using hb
    subst e
    exact I1.fpOk (Nat.le_refl _) (I1.hok.fresh (Nat.le_refl _))
end
end L2

set_option maxRecDepth 100000
set_option maxHeartbeats 4000000
/-! # A def that keeps its promise, in one word; calls of it -/
namespace L2
open PySem PySem.Spec PyProof.Rows
structure Ok (P : Program) (w : World) (K : PySem.W.Frag) (mg : Str → Option Value) (base : Heap) (CX : CXT) (k : Nat) (f : Addr) (ps : List Str) (sp : Sp) : Prop where
  ex : ∃ fd, FnOk P w K mg base CX k f fd ps sp ∧ Binds K fd ps [] ∧ PySem.W.keepIn K (.ref f) = true
section
variable {P : Program} {w : World} {K : PySem.W.Frag} {mg : Str → Option Value} {base : Heap} {CX : CXT} {k j : Nat} {f : Addr} {ps : List Str} {sp sp' : Sp}
theorem Ok.mono (O : Ok P w K mg base CX k f ps sp) (h : k ≤ j) : Ok P w K mg base CX j f ps sp := let ⟨fd, a, b, c⟩ := O.ex; ⟨fd, a.mono h, b, c⟩
theorem Ok.imp (O : Ok P w K mg base CX k f ps sp) (h : ∀ vs H Q E, sp' vs H Q E → sp vs H Q E) : Ok P w K mg base CX k f ps sp' := let ⟨fd, a, b, c⟩ := O.ex; ⟨fd, a.imp h, b, c⟩
/-- the proof of a def: its names' number, then its body -/
theorem Ok.of {x qual : Str} {params : Arguments} {body : List Stmt} {scope : Scope} {N : List Str} (n : Nat) (hf : ∃ fd, FunD K x qual params body scope [] [] f fd) (S : FnScope N ps scope) (hb : ∀ {fd : FuncData}, FunD K x qual params body scope [] [] f fd → Binds K fd ps []) (hk : n + 1 ≤ k)
    (len : ∀ vs H Q E, sp vs H Q E → vs.length = ps.length)
    (hbody : ∀ (cdv : Value) (A : Around) (outer : List Env) (s : Shared) (H : Hp) (vs : List V) (Q : VK) (E : XK), Room n (A.deeper (envOfC qual scope s.heap.objs.size f cdv)) → sp vs H Q E →
      ∃ t, PSs (cxOf CX P w K mg base N qual scope f cdv A outer s H E) body t ∧ t { nx := fun _ H' => Q .non H', rt := Q } (start N vs) H) : Ok P w K mg base CX k f ps sp := by
  obtain ⟨fd, F⟩ := hf
  exact ⟨fd, (F.ok S len hbody).mono hk, hb F, F.kp⟩
end
section
variable {X : Cx} {CX : CXT} {k : Nat} {f C : Addr} {ps : List Str} {sp : Sp} {E : XK} {x m : Str} {p pos apos : Pos} {e o : Expr} {es : List Expr} {ta : TE} {t : TA}
theorem pc (O : Ok X.prog X.w X.K X.mg X.base CX k f ps sp) (hr : Room k X.A) (hm : X.mg x = some (.ref f)) (hx : Passes CX X E) (ha : PA X (e :: es) t) (hg : Gl X x := by rfl) (hdb : (x == ("__debug__" : Str)) = false := by decide)
    (he : starEach (e :: es) X.env = (false, eval e X.env) :: starEach es X.env := by rfl) (hpl : (backTo pos (starEach es X.env)).any (·.1) = false := by rfl) :
    PE X (.Call (.Name x p) (e :: es) [] pos) (tCall sp [] E t) := let ⟨fd, a, b, c⟩ := O.ex; pe_call a hr hg hm c b .nil hx ha hdb he hpl
theorem pc0 (O : Ok X.prog X.w X.K X.mg X.base CX k f ps sp) (hr : Room k X.A) (hm : X.mg x = some (.ref f)) (hx : Passes CX X E) (hg : Gl X x := by rfl) (hdb : (x == ("__debug__" : Str)) = false := by decide) :
    PE X (.Call (.Name x p) [] [] pos) (tCall sp [] E tNil) := let ⟨fd, a, b, c⟩ := O.ex; pe_call0 a hr hg hm c b .nil hx hdb
theorem pmk (O : Ok X.prog X.w X.K X.mg X.base CX k f ps sp) (M : Mk X.K C f) (hr : Room (k + 1) X.A) (hm : X.mg x = some (.ref C)) (hx : Passes CX X E) (ha : PA X (e :: es) t) (hg : Gl X x := by rfl) (hdb : (x == ("__debug__" : Str)) = false := by decide)
    (he : starEach (e :: es) X.env = (false, eval e X.env) :: starEach es X.env := by rfl) (hpl : (backTo pos (starEach es X.env)).any (·.1) = false := by rfl) :
    PE X (.Call (.Name x p) (e :: es) [] pos) (tMake C sp [] E t) := let ⟨fd, a, b, c⟩ := O.ex; pe_make M a hr hg hm b .nil hx ha hdb he hpl
theorem pmeth {pl : Sem Bool} (O : Ok X.prog X.w X.K X.mg X.base CX k f ps sp) (he : PE X o ta) (c : Cls X.K C) (hm : Meth X.K C m f) (hr : Room k X.A) (hx : Passes CX X E) (ha : PA X (e :: es) t)
    (hst : starEach (e :: es) X.env = (false, eval e X.env) :: starEach es X.env := by rfl) (hpl : (backTo pos (starEach es X.env)).any (·.1) = false := by rfl)
    (ht : eval (.Call (.Attribute o m apos) (e :: es) [] pos) X.env = (do
      let ov ← eval o X.env
      standAt apos.atName
      let (f, first) ← holding [ov] (getMethod ov m pl)
      callWith pos f first (backTo pos (starEach (e :: es) X.env)) (backToKw pos (keywordEach [] X.env))) := by rfl) :
    PE X (.Call (.Attribute o m apos) (e :: es) [] pos) (tMeth C m sp [] E ta t) := let ⟨fd, a, b, d⟩ := O.ex; pe_meth (pl := pl) he c hm a hr b .nil hx ha hst hpl ht
theorem pmeth0 {pl : Sem Bool} (O : Ok X.prog X.w X.K X.mg X.base CX k f ps sp) (he : PE X o ta) (c : Cls X.K C) (hm : Meth X.K C m f) (hr : Room k X.A) (hx : Passes CX X E)
    (ht : eval (.Call (.Attribute o m apos) [] [] pos) X.env = (do
      let ov ← eval o X.env
      standAt apos.atName
      let (f, first) ← holding [ov] (getMethod ov m pl)
      callWith pos f first (backTo pos (starEach [] X.env)) (backToKw pos (keywordEach [] X.env))) := by rfl) :
    PE X (.Call (.Attribute o m apos) [] [] pos) (tMeth C m sp [] E ta tNil) := let ⟨fd, a, b, d⟩ := O.ex; pe_meth0 (pl := pl) he c hm a hr b .nil hx ht
/-- a class or a def of the module by its name -/
theorem pgC (hm : X.mg x = some (.ref C)) (hg : Gl X x := by rfl) (hdb : (x == ("__debug__" : Str)) = false := by decide) : PE X (.Name x p) (tC (.ref C)) := pe_glob (v := .ref C) hg hm rfl hdb
theorem oOwn {op : Operator} (O : Ok X.prog X.w X.K X.mg X.base CX k f ps sp) (W : OwnOp X.K C op f) (hr : Room k X.A) (hx : Passes CX X E) : OpR X (binaryOp op) (rOwnOp C sp E) := let ⟨fd, a, b, c⟩ := O.ex; op_own W a b hr hx
theorem oOwnI {op : Operator} (O : Ok X.prog X.w X.K X.mg X.base CX k f ps sp) (W : OwnOpT X.K C op f "int") (hr : Room k X.A) (hx : Passes CX X E) : OpR X (binaryOp op) (rOwnOpI C sp E) := let ⟨fd, a, b, c⟩ := O.ex; op_ownI W a b hr hx
theorem oOwnR (O : Ok X.prog X.w X.K X.mg X.base CX k f ps sp) (W : OwnR X.K C .Mult f) (hr : Room k X.A) (hx : Passes CX X E) : OpR X (binaryOp .Mult) (rOwnR C sp E) := let ⟨fd, a, b, c⟩ := O.ex; op_ownR W a b hr hx
theorem uOwn (O : Ok X.prog X.w X.K X.mg X.base CX k f ps sp) (W : PySem.W.findIn X.K (.ref C) "__neg__" = some (some (.ref f)) ∧ PySem.W.isFn X.K (.ref f) = true) (hr : Room k X.A) (hx : Passes CX X E) : UnR X (unaryOp .USub) (rOwnNeg C sp E) := let ⟨fd, a, b, c⟩ := O.ex; un_own W.1 W.2 a b hr hx
theorem cAbs (O : Ok X.prog X.w X.K X.mg X.base CX k f ps sp) (W : PySem.W.findIn X.K (.ref C) "__abs__" = some (some (.ref f)) ∧ PySem.W.isFn X.K (.ref f) = true) (hr : Room (k + 1) X.A) (hx : Passes CX X E) : CallR X (.builtin "abs") (rOwnAbs C sp E) := let ⟨fd, a, b, c⟩ := O.ex; call_ownAbs W.1 W.2 a b hr hx
end
/-- a def that may raise: what its callees let out goes on -/
theorem px {X : Cx} {E : XK} {E₁ : Value → Shared → Prop} (hs : X.stack = X.env :: X.outer := by rfl) (hf : X.env.frame = some X.env.locals := by rfl) (hex : X.ex = [] := by rfl)
    (hx : X.xe = fun e s' => wpAny (model X.prog X.w) X.A (leaving X.env e) (fun _ s'' => CX X.prog X.w X.outer X.H_0 X.s_0 E e s'') E₁ s' := by rfl) : Passes (CX X.prog X.w) X E :=
  passes_call (takes_of hs hf hex hx) fun _ _ _ _ h => h
end L2

set_option maxRecDepth 100000
set_option maxHeartbeats 4000000
/-! # try with several clauses, each with or without a name -/
namespace L2
open PySem PySem.Spec PyProof.Rows
abbrev Cls3 : Type := Value × Option Nat × (Addr → Value → Option Addr → TS)
/-- the ends behind a suite whose name is slot i: it is gone -/
def Ends.gone (D : Ends) (i : Nat) : Ends := { nx := fun σ' H' => D.nx (σ'.set i none) H', rt := D.rt, bk := fun σ' H' => D.bk (σ'.set i none) H', ct := fun σ' H' => D.ct (σ'.set i none) H' }
def wAny (K : PySem.W.Frag) (Wo : WX) (D : Ends) : List Cls3 → WX
  | [] => Wo
  | (c, none, ts) :: r => fun cls d σ H => ∃ b, PySem.W.exmOne K cls c = some b ∧ (b = true → ∀ a, H a = none → ts a cls d D σ H) ∧ (b = false → wAny K Wo D r cls d σ H)
  | (c, some i, ts) :: r => fun cls d σ H => ∃ b, PySem.W.exmOne K cls c = some b ∧ (b = true → ∀ a, H a = none → ts a cls d (D.gone i) (σ.set i (some (.ref a))) H) ∧ (b = false → wAny K Wo D r cls d σ H)
inductive HdA (X : Cx) : List ExceptHandler → List Cls3 → Prop
  | nil : HdA X [] []
  | cons {x : Str} {c : Value} {ts : Addr → Value → Option Addr → TS} {b₀ : Stmt} {su : List Stmt} {np p2 : Pos} {hds : List ExceptHandler} {l : List Cls3} (hc : Names X x c)
      (hsu : ∀ (a : Addr) (oe : Obj) (cls : Value) (d : Option Addr) (pn : List (Addr × Obj)), Zc cls d oe → (∃ vs, oe.data = .fields vs) → PSs (X.suite a ((a, oe) :: pn)) (b₀ :: su) (ts a cls d)) (r : HdA X hds l) :
      HdA X (.ExceptHandler (some (.Name x np)) none (b₀ :: su) p2 :: hds) ((c, none, ts) :: l)
  | as {x n : Str} {i : Nat} {c : Value} {ts : Addr → Value → Option Addr → TS} {b₀ : Stmt} {su : List Stmt} {np p2 : Pos} {hds : List ExceptHandler} {l : List Cls3} (hc : Names X x c) (hi : X.N[i]? = some n) (hln : X.env.kindOf n = some .local)
      (hsu : ∀ (a : Addr) (oe : Obj) (cls : Value) (d : Option Addr) (pn : List (Addr × Obj)), Zc cls d oe → (∃ vs, oe.data = .fields vs) → PSs (X.suite a ((a, oe) :: pn)) (b₀ :: su) (ts a cls d)) (r : HdA X hds l) :
      HdA X (.ExceptHandler (some (.Name x np)) (some n) (b₀ :: su) p2 :: hds) ((c, some i, ts) :: l)
section
variable {X : Cx} {body : List Stmt} {h₀ : ExceptHandler} {hds : List ExceptHandler} {l : List Cls3} {pos : Pos} {tb : WX → TS} {Wo : WX}
theorem ps_try_any (hs : X.stack = X.env :: X.outer) (hf : X.env.frame = some X.env.locals) (hN : X.N.Nodup) (tk : Takes X Wo)
    (hb : ∀ (W : WX) (pn : List (Addr × Obj)) (xe : Value → Shared → Prop), Takes (X.tr pn xe) W → PassesOwn (model X.prog X.w) X.A X.env xe → PSs (X.tr pn xe) body (tb W))
    (hh : HdA X (h₀ :: hds) l) : PS X (.Try body (h₀ :: hds) [] [] pos) (fun D σ H => tb (wAny X.K Wo D l) D σ H) := by
  refine ⟨fun pins s σ H D I h => ?_⟩
  have ok := I.ok
  have hfr : X.A.frames = some (X.env :: X.outer) := by rw [ok.frames, hs]
  refine wpAny_Try_except ?_
  refine wpAny_mono ((hb (wAny X.K Wo D l) (X.pn ++ pins) (fun e s₁ => wpAny (model X.prog X.w) X.A (noteFrame e X.env) (fun _ s₂ => wpAny (model X.prog X.w) X.A (setFlight e none) (fun _ s₃ =>
    wpAny (model X.prog X.w) X.A (handleBy e X.env (h₀ :: hds)) (SP X pins D) X.xe s₃) X.xe s₂) X.xe s₁) (fun u s' xx => ?_) PassesOwn.looking).run [] s σ H D (I.toTry _) h) (fun f s1 hsp => ?_) (fun e s1 he => he)
  · obtain ⟨a, B, sI, pins', σ', H', cls, d, rfl, J', nb, up, sky, na, os, ag, w⟩ := xx
    have J : Inv X pins σ' H' sI := J'.ofTry ok
    have sk2 : Sky B (X.env :: X.outer) a (Zc cls d) X.env.locals s'.heap := by rw [← hs]; exact sky
    show wpAny (model X.prog X.w) X.A (noteFrame (.ref a) X.env) _ _ _
    refine Sky.land Zc.steady hfr hf sk2 fun h3 fl3 up3 => ?_
    have J3 : Inv X pins σ' H' { s' with heap := h3 } := J.landed nb fl3.1 (up.trans up3) os ag
    obtain ⟨oe3, vs3, he3, hz3, hd3⟩ := fl3.there
    have nfr : a ∉ frs (X.env :: X.outer) := fun hm => by
      obtain ⟨_, o', e', hnf⟩ := fl3.2.2.1.mem hm
      rw [he3] at e'; cases e'
      exact hnf _ hd3
    have nL : a ≠ X.env.locals := fun z => nfr (List.mem_filterMap.mpr ⟨X.env, List.mem_cons_self, by rw [hf, z]⟩)
    have nF : a ∉ X.fs := fun hm => by
      obtain ⟨e, he, q⟩ := List.mem_filterMap.mp hm
      exact nfr (List.mem_filterMap.mpr ⟨e, List.mem_cons_of_mem _ he, q⟩)
    have S3 := J3.suite he3 hd3 na nL nF
    have LT : PySem.W.Looks (model X.prog X.w) h3 (typeOf (.ref a)) cls := fun A Q E s k q => wpAny_typeOf_ref (k _ _ he3) (by rw [hz3.1]; exact q)
    have test : ∀ {x : Str} {np : Pos} {c : Value} {Q : Value → Shared → Prop} {E : Value → Shared → Prop}, Names X x c → Q c { s' with heap := h3 } → wpAny (model X.prog X.w) (X.A.mark (some (.ref a))) (eval (.Name x np) X.env) Q E { s' with heap := h3 } := fun {x np c Q E} hc q => by
      obtain ⟨hg, hdbg, hm | ⟨hm, hv, hnn⟩⟩ := hc
      · exact ld_glob (X := X.suite a ((a, oe3) :: (X.pn ++ pins))) S3 hg hm q hdbg
      · exact ld_blt (X := X.suite a ((a, oe3) :: (X.pn ++ pins))) S3 hg hm hv q hnn hdbg
    have go : ∀ {hds' : List ExceptHandler} {l' : List Cls3}, HdA X hds' l' → wAny X.K Wo D l' cls d σ' H' →
        wpAny (model X.prog X.w) X.A (handleBy (.ref a) X.env hds') (SP X pins D) X.xe { s' with heap := h3 } := by
      intro hds' l' hk
      induction hk with
      | nil =>
        intro w
        refine wpAny_handleBy_nil ?_
        obtain ⟨k1, k2, k3, oe, vs, T, oT, ts', he, hz, hd, h1, hr⟩ := id fl3
        unfold PySem.passOn
        refine wpAny_bind (wpAny_field he hd h1 ?_)
        rw [if_neg (show ¬ ((Value.ref T == Value.none) = true) from by simp)]
        have fin : wpAny (model X.prog X.w) X.A (setFlight (.ref a) X.env.frame) (fun _ s4 => wpAny (model X.prog X.w) X.A (throw (.ref a) : Sem Flow) (SP X pins D) X.xe s4) X.xe { s' with heap := h3 } := by
          rw [hf]
          refine HandSPX.setFlight_upZ fl3 fun h4 hh4 up4 => wpAny_throw (tk _ _ ?_)
          exact ⟨a, B, sI, pins, σ', H', cls, d, rfl, J, nb, (up.trans up3).trans up4, .inr (.inr (by rw [hs]; exact hh4)), na, os, ag, w⟩
        first
          | exact wpAny_bind (wpAny_pure (wpAny_bind fin))
          | exact wpAny_bind fin
      | @cons x c ts b₀ suite np pos' hds2 l2 hc hsu r ih =>
        intro w
        obtain ⟨b, hb1, hyes, hno⟩ := w
        refine wpAny_handleBy_cons (codeAny_handlers_test ?_) (by intro q; cases q)
        refine test hc ((PySem.W.exm_one (M := model X.prog X.w) (J3.kIn) LT hb1).here ?_)
        cases b with
        | true =>
          refine codeAny_handlers_suite ?_
          refine HandSPX.lands_againZ fl3 fun h4 fl4 up4 => ?_
          have J4 : Inv X pins σ' H' { s' with heap := h4 } := J.landed nb fl4.1 ((up.trans up3).trans up4) os ag
          obtain ⟨oe4, vs4, he4, hz4, hd4⟩ := fl4.there
          have S4 := J4.suite he4 hd4 na nL nF
          refine wpAny_mono ((hsu a oe4 cls d (X.pn ++ pins) hz4 ⟨_, hd4⟩).run [] _ _ H' _ S4 (hyes rfl a na)) (fun f s6 hsp => ?_) (fun _ _ z => False.elim z)
          cases f with
          | next => obtain ⟨σ6, H6, S6, q6⟩ := hsp; exact ⟨_, _, S6.unsuite ok, q6⟩
          | brk => obtain ⟨σ6, H6, S6, q6⟩ := hsp; exact ⟨_, _, S6.unsuite ok, q6⟩
          | cont => obtain ⟨σ6, H6, S6, q6⟩ := hsp; exact ⟨_, _, S6.unsuite ok, q6⟩
          | ret u => obtain ⟨v6, σ6, H6, S6, r6, q6⟩ := hsp; exact ⟨_, _, _, S6.unsuite ok, r6, q6⟩
        | false =>
          show wpAny _ X.A (handleBy (.ref a) X.env hds2) _ _ _
          exact ih (hno rfl)
      | @as x n i c ts b₀ suite np pos' hds2 l2 hc hi hln hsu r ih =>
        intro w
        obtain ⟨b, hb1, hyes, hno⟩ := w
        refine wpAny_handleBy_cons (codeAny_handlers_test ?_) (by intro q; cases q)
        refine test hc ((PySem.W.exm_one (M := model X.prog X.w) (J3.kIn) LT hb1).here ?_)
        cases b with
        | true =>
          refine codeAny_handlers_suite_as ?_
          refine HandSPX.lands_againZ fl3 fun h4 fl4 up4 => ?_
          have J4 : Inv X pins σ' H' { s' with heap := h4 } := J.landed nb fl4.1 ((up.trans up3).trans up4) os ag
          obtain ⟨oe4, vs4, he4, hz4, hd4⟩ := fl4.there
          have S4 := J4.suite he4 hd4 na nL nF
          refine store_ok (X := X.suite a ((a, oe4) :: (X.pn ++ pins))) (v := .ref a) S4 hN hi (.inl hln) rfl (fun s5 S5 => ?_) (.inr hln)
          refine wpAny_mono ((hsu a oe4 cls d (X.pn ++ pins) hz4 ⟨_, hd4⟩).run [] s5 _ H' _ S5 (hyes rfl a na)) (fun f s6 hsp => ?_) (fun _ _ z => False.elim z)
          have end_ : ∀ {σ6 : St} {H6 : Hp} {Q : Shared → Prop}, Inv (X.suite a ((a, oe4) :: (X.pn ++ pins))) [] σ6 H6 s6 → (∀ s7, Inv X pins (σ6.set i none) H6 s7 → Q s7) →
              wpAny (model X.prog X.w) X.A (do bindName X.env n .none; unbindBehindTheSuite X.env n pos') (fun _ s7 => Q s7) X.xe s6 := fun {σ6 H6 Q} S6 hq => gone_ok (S6.unsuite ok) hN hi hln hq
          cases f with
          | next => obtain ⟨σ6, H6, S6, q6⟩ := hsp; exact end_ S6 fun s7 J7 => ⟨_, _, J7, q6⟩
          | brk => obtain ⟨σ6, H6, S6, q6⟩ := hsp; exact end_ S6 fun s7 J7 => ⟨_, _, J7, q6⟩
          | cont => obtain ⟨σ6, H6, S6, q6⟩ := hsp; exact end_ S6 fun s7 J7 => ⟨_, _, J7, q6⟩
          | ret u => obtain ⟨v6, σ6, H6, S6, r6, q6⟩ := hsp; exact end_ S6 fun s7 J7 => ⟨_, _, _, J7, r6, q6⟩
        | false =>
          show wpAny _ X.A (handleBy (.ref a) X.env hds2) _ _ _
          exact ih (hno rfl)
    exact go hh w
  · cases f with
    | next => obtain ⟨σ', H', J', q⟩ := hsp; exact wpAny_execs_nil ⟨σ', H', J'.ofTry ok, q⟩
    | brk => obtain ⟨σ', H', J', q⟩ := hsp; exact ⟨σ', H', J'.ofTry ok, q⟩
    | cont => obtain ⟨σ', H', J', q⟩ := hsp; exact ⟨σ', H', J'.ofTry ok, q⟩
    | ret u => obtain ⟨v, σ', H', J', r, q⟩ := hsp; exact ⟨v, σ', H', J'.ofTry ok, r, q⟩
end
end L2

set_option maxRecDepth 100000
set_option maxHeartbeats 4000000
/-! # isinstance(e, C) in a suite, e an error with a dict -/
namespace EI
open PySem PySem.W PySem.Spec PySem.Calls PyProof.Rows
theorem cls_of_exc {prog : Program} {w : World} {A : Around} {E : Value → Shared → Prop} {s : Shared} {K : Frag} {x D : Addr} {ox od : Obj} {Q : Option Value → Shared → Prop} (C : L2.ExcC K D) (X : K.In s.heap) (I : InstAt s.heap x ox D (some od)) (h : Q (some (.ref D)) { s with toks := s.toks + 1 }) :
    wpAny (model prog w) A (getAttr? (.ref x) "__class__") Q E s := by
  have hf : findObj K D (some od) "__class__" = some (.bind (.builtin "getset_descriptor.__get__") (.builtin "object.__class__")) := findObj_data (by obtain ⟨cd, hc, _⟩ := any_some C.hd; rw [hc]; rfl) C.ha C.hn C.ht
  obtain ⟨hp, g, d, t, os⟩ := s
  have L0 := I.type (M := model prog w)
  have L1 := looks_findIn (M := model prog w) X C.hg
  have L2 := looks_findIn (M := model prog w) X C.hk
  have L3 := looks_find (M := model prog w) X I hf
  have sub : Looks (model prog w) hp (isInstance (.ref x) (.type "BaseException")) true := L0.andThen (looks_subIn X C.hs)
  have n2 : (Value.builtin "BaseException.__getattribute__" == Value.builtin "object.__getattribute__") = false := by decide +kernel
  have n1 : (onTheHeap (Value.ref D) && Value.builtin "BaseException.__getattribute__" == Value.builtin "object.__getattribute__") = false := by rw [n2]; rfl
  unfold getAttr? getAttrBy? getAttrBy
  refine wpAny_bind (wpAny_mkText (wpAny_bind (wpAny_attempt (wpAny_holding (wpAny_bind (L0.at (wpAny_bind (L1.at (by
    show wpAny _ _ (if (onTheHeap (Value.ref D) && Value.builtin "BaseException.__getattribute__" == Value.builtin "object.__getattribute__") = true then _ else _) _ _ _
    rw [n1, if_neg Bool.false_ne_true]
    unfold getAttrByItsOwn hookBefore
    refine wpAny_bind ?_
    rw [if_pos (show onTheHeap (Value.ref D) = true from rfl)]
    refine L2.at (wpAny_bind (wpAny_attempt (wpAny_holding ?_)))
    unfold callGetattribute
    rw [show (false && onTheHeap (Value.builtin "BaseException.__getattribute__")) = false from rfl, if_neg Bool.false_ne_true]
    unfold boundAndCalled
    rw [PySem.F.excAttr_ValueError.ga.bind (.ref x)]
    refine wpAny_bind (wpAny_pure ?_)
    show wpAny _ _ (call (.builtin "BaseException.__getattribute__") [.ref x, .str "__class__" t]) _ _ _
    refine wpAny_call (codeAny_call_builtin PySem.F.excAttr_ValueError.ga.plain PySem.F.entry_bexc_ga (@check_slot (model prog w) _ _ ⟨hp, g, d, t + 1, os⟩ "BaseException.__getattribute__" "BaseException" "__getattribute__" (.ref x) [.str "__class__" t] [] _ (by decide +kernel) (by decide +kernel) sub (PySem.F.args_bexc_ga (.ref x) (.str "__class__" t)) ?_))
    unfold Builtin.«object.__getattribute__»
    refine wpAny_bind (wpAny_of_eq (a := ((Value.ref x : Value), [Value.str "__class__" t])) (by first | rfl | (simp only [slotArgs]; rfl)) ?_)
    refine wpAny_bind (wpAny_pure (wpAny_bind (L0.at (wpAny_bind (L3.at ?_)))))
    show wpAny _ _ (holding [Value.builtin "object.__class__"] (call (.builtin "getset_descriptor.__get__") [.builtin "object.__class__", .ref x, .ref D]) >>= ret) _ _ _
    refine wpAny_bind (wpAny_holding (wpAny_call (class_get (s := ⟨hp, g, d, t + 1, os⟩) (ox := ox) (od := some od) X I C.hm ?_)))
    refine wpAny_pure ?_
    show wpAny _ _ (handedOut (.ref D)) _ _ _
    rw [handedOut_of (v := .ref D) rfl]
    first
      | exact wpAny_pure (wpAny_pure h)
      | exact wpAny_pure h
      | exact wpAny_pure (wpAny_bind (wpAny_pure (wpAny_pure h))))))))))))
theorem kit_exc {K : Frag} {x D : Addr} {ox od : Obj} (C : L2.ExcC K D) : KitX K (.ref x) (.ref D) (fun h => InstAt h x ox D (some od)) where
  ty := fun _ _ _ I => I.type
  it := fun _ _ X _ => by
    obtain ⟨cdD, hcD, _⟩ := any_some C.hd
    unfold clsIn at hcD
    split at hcD
    · rename_i c' d' cd' sl' ho
      intro A' Q' E' s' k q
      unfold isType loadHead
      exact wpAny_bind (wpAny_loadPart (k _ _ (X _ _ ho)) (wpAny_pure q))
    · cases hcD
  ne := fun h tp dd its n sl X htp => by
    obtain ⟨cdD, hcD, _⟩ := any_some C.hd
    refine Bool.eq_false_iff.mpr fun q => ?_
    have e : D = tp := Value.ref.inj (beq_iff_eq.mp q)
    subst e
    unfold clsIn at hcD
    split at hcD
    · rename_i c' d' cd' sl' ho
      cases (X _ _ ho).symm.trans htp
    · cases hcD
  ca := fun X I k => cls_of_exc C X I k
end EI
namespace L2
open PySem PySem.Spec PyProof.Rows
/-- isinstance(e, c), e the suite's error, with a dict -/
def rIsD (K : PySem.W.Frag) (D a : Addr) (d : Option Addr) : List V → Hp → VK → Prop := fun xs H Q => ∃ (c : V) (cv : Value) (b : Bool) (dd : Addr) (fs : List (Str × V)), xs = [.ref a, c] ∧ (∀ u, RelV c u → u = cv) ∧ d = some dd ∧ H dd = some (.xd fs) ∧ PySem.W.kitOne K (.ref D) cv = some b ∧ Q (.bl b) H
theorem call_isD {X : Cx} {a D : Addr} {d : Option Addr} {oe : Obj} {pn : List (Addr × Obj)} {cls : Value} (C : ExcC X.K D) (hz : Zc cls d oe) (hf : ∃ vs, oe.data = .fields vs) :
    CallR (X.suite a ((a, oe) :: pn)) (.builtin "isinstance") (fun xs H Q => cls = .ref D ∧ rIsD X.K D a d xs H Q) := by
  intro pins s σ H xs us Q I r h
  obtain ⟨rfl, c, cv, b, dd, fs, rfl, hcv, rfl, ea, e, q⟩ := h
  cases r with
  | cons rx rr =>
  cases rr with
  | cons rt rr =>
  cases rr
  cases rx
  have ec := hcv _ rt
  subst ec
  obtain ⟨hget, _⟩ := I.pin (a, oe) (List.mem_append.mpr (.inl List.mem_cons_self))
  obtain ⟨vs, hv⟩ := hf
  obtain ⟨mA, hns, hr⟩ := (show ObjOk X.prog X.w H s.heap dd (.xd fs) from I.hok dd _ ea)
  obtain ⟨od, ho, _⟩ := lookIn_ns hns
  have J : PySem.W.InstAt s.heap a oe D (some od) := ⟨hget, hz.1, by unfold PySem.W.notCls; rw [hv] <;> rfl, by rw [hz.2]; exact ho⟩
  exact PySem.W.kia_one (EI.kit_exc C) I.kIn J e (fun z => nomatch z) fun tk => ⟨.bl b, H, I.kept (t' := tk) fun _ _ z => z, rfl, q⟩
end L2

set_option maxRecDepth 100000
set_option maxHeartbeats 4000000
namespace EF
open PySem PySem.W PySem.Calls PyProof.Rows He He5 HX
def clsB (K : Frag) (D : Addr) : Bool := eqO (findIn K (.ref D) "__class__") (some (some (.builtin "object.__class__"))) && (eqO (specialIn K (.builtin "object.__class__") "__get__") (some (some (.builtin "getset_descriptor.__get__"))) && (decide (takesIn K (.builtin "object.__class__") = some true) && decide (mroIn K D (.type "object") = some true)))
structure ClsT (K : Frag) (D : Addr) : Prop where
  ha : findIn K (.ref D) "__class__" = some (some (.builtin "object.__class__"))
  hn : specialIn K (.builtin "object.__class__") "__get__" = some (some (.builtin "getset_descriptor.__get__"))
  ht : takesIn K (.builtin "object.__class__") = some true
  hm : mroIn K D (.type "object") = some true
theorem cls_ok {K : Frag} {D : Addr} (h : clsB K D = true) : ClsT K D := by
  obtain ⟨h1, h⟩ := ba h
  obtain ⟨h2, h⟩ := ba h
  obtain ⟨h3, h4⟩ := ba h
  exact ⟨eqO_ok h1, eqO_ok h2, of_decide_eq_true h3, of_decide_eq_true h4⟩
/-- an error's class: its fields are read, isinstance asks it -/
def excB (K : Frag) (D : Addr) : Bool := L2.xfB K D && clsB K D
theorem exc_ok {K : Frag} {D : Addr} (h : excB K D = true) : L2.XfC K D ∧ L2.ExcC K D := by
  obtain ⟨h1, h2⟩ := ba h
  have x := L2.xfB_ok h1
  have c := cls_ok h2
  exact ⟨x, x.ga, x.gg, x.exC, x.hdC, c.ha, c.hn, c.ht, c.hm⟩
end EF

set_option maxRecDepth 100000
set_option maxHeartbeats 4000000
/-! # A classmethod with *numbers and a keyword: C.m(a, .., k = v) -/
namespace L2
open PySem PySem.Spec PyProof.Rows
abbrev SpS : Type := List V → List V → Hp → VK → XK → Prop
def FnS (P : Program) (w : World) (K : PySem.W.Frag) (mg : Str → Option Value) (base : Heap) (CX : CXT) (k : Nat) (f : Addr) (ks : List Str) (sp : SpS) : Prop :=
  ∀ (A : Around) (outer : List Env) (s : Shared) (H : Hp) (us ws : List Value) (vs zs : List V) (Q : VK) (E : XK), Room k A → Env0 P w K mg base A outer s H → Vals vs us → Vals zs ws → sp vs zs H Q E →
    codeAny (model P w) A (.call (.ref f) ⟨us, ks.zip ws⟩) (CR CX outer P w H s Q E) s
section
variable {X : Cx} {CX : CXT} {k : Nat} {C p g : Addr} {mc : Value} {sp : SpS} {E : XK} {o e : Expr} {es : List Expr} {kws : List Keyword} {ks : List Str} {f m : Str} {pos apos : Pos} {ta : TE} {t tk : TA} {pl : Sem Bool}
theorem run_cms {pins : List (Addr × Obj)} {σ : L2.St} {H : Hp} {s : Shared} {q : Addr} {Q : VK} {us ws : List Value} {vs zs : List V} (F : FnS X.prog X.w X.K X.mg X.base CX k g ks sp) (hr : Room k X.A) (hx : Passes CX X E) (I : Inv X ((q, PySem.W.methodObj (.ref g) (.ref C)) :: pins) σ H s)
    (r : Vals vs us) (rz : Vals zs ws) (h : sp (.ref C :: vs) zs H Q E) : wpAny (model X.prog X.w) X.A (call (.ref q) us (ks.zip ws)) (EP X pins σ Q) X.xe s := by
  have z : wpAny (model X.prog X.w) X.A (call (.ref q) us (ks.zip ws)) (EP X ((q, PySem.W.methodObj (.ref g) (.ref C)) :: pins) σ Q) X.xe s := by
    refine wpAny_call (PySem.W.method_call (ClX.pin_at I) ?_)
    refine codeAny_mono (F X.A X.stack s H (.ref C :: us) ws (.ref C :: vs) zs Q E hr I.env0 (.cons rfl r) rz h) fun r s' hq => ?_
    cases r with
    | error e => exact hx _ σ H s e s' I hq
    | ok fl =>
      cases fl with
      | ret u => exact I.after hq
      | next => exact False.elim hq
      | brk => exact False.elim hq
      | cont => exact False.elim hq
  exact thn z fun _ _ y => ClX.unpinE y
def tCms (C : Addr) (sp : SpS) (E : XK) (ta : TE) (t tk : TA) : TE := fun σ H Q => ta σ H fun x H1 => x = .ref C ∧ t σ H1 fun vs H2 => tk σ H2 fun zs H3 => sp (.ref C :: vs) zs H3 Q E
theorem pe_cms (he : PE X o ta) (r : ClX.CRead X.K C mc) (c : ClX.CMet X.K C mc m p g) (F : FnS X.prog X.w X.K X.mg X.base CX k g ks sp) (hr : Room k X.A) (hx : Passes CX X E) (ha : PA X (e :: es) t) (hk : PK X kws tk)
    (hst : starEach (e :: es) X.env = (false, eval e X.env) :: starEach es X.env := by rfl) (hall : (backToKw pos (keywordEach kws X.env)).all (·.1.isSome) = true := by rfl) (hks : (backToKw pos (keywordEach kws X.env)).filterMap (·.1) = ks := by rfl)
    (hpl : ((backTo pos (starEach (e :: es) X.env)).any (·.1) || (backToKw pos (keywordEach kws X.env)).any (·.1.isNone)) = false := by rfl)
    (ht : eval (.Call (.Attribute o m apos) (e :: es) kws pos) X.env = (do
      let ov ← eval o X.env
      standAt apos.atName
      let (f, first) ← holding [ov] (getMethod ov m pl)
      callWith pos f first (backTo pos (starEach (e :: es) X.env)) (backToKw pos (keywordEach kws X.env))) := by rfl) :
    PE X (.Call (.Attribute o m apos) (e :: es) kws pos) (tCms C sp E ta t tk) := by
  refine ⟨fun pins s σ H Q I h => ?_⟩
  refine PySem.W.methodCall_KW (pl := pl) (thn (he.run pins s σ H _ I h) fun u s1 ⟨x, H1, I1, rx, ex, q⟩ => ?_) ht
  subst ex
  obtain rfl : u = Value.ref C := rx
  refine ClX.getmethcm_ok I1 r c fun s2 I2 => ?_
  refine PySem.W.callWith_of (P := PySem.W.MethP X.K s1.heap.objs.size g (.ref C)) hpl (PySem.W.keeps_M c.fi) (evalArgs_kw2 hall (thn (ha.run pos _ s2 σ H1 _ I2 q) fun us s3 ⟨vs, H2, I3, rv, q2⟩ => ?_) hst)
  refine thn (hk.run pos _ s3 σ H2 _ I3 q2) fun ws s4 ⟨zs, H3, I4, rz, q3⟩ => ⟨⟨ClX.pin_at I4, I4.kIn⟩, ?_⟩
  rw [hks]
  exact run_cms F hr hx I4 rv rz q3
theorem pe_cms0 (he : PE X o ta) (r : ClX.CRead X.K C mc) (c : ClX.CMet X.K C mc m p g) (F : FnS X.prog X.w X.K X.mg X.base CX k g ks sp) (hr : Room k X.A) (hx : Passes CX X E) (hk : PK X kws tk)
    (hall : (backToKw pos (keywordEach kws X.env)).all (·.1.isSome) = true := by rfl) (hks : (backToKw pos (keywordEach kws X.env)).filterMap (·.1) = ks := by rfl)
    (hpl : ((backTo pos (starEach [] X.env)).any (·.1) || (backToKw pos (keywordEach kws X.env)).any (·.1.isNone)) = false := by rfl)
    (ht : eval (.Call (.Attribute o m apos) [] kws pos) X.env = (do
      let ov ← eval o X.env
      standAt apos.atName
      let (f, first) ← holding [ov] (getMethod ov m pl)
      callWith pos f first (backTo pos (starEach [] X.env)) (backToKw pos (keywordEach kws X.env))) := by rfl) :
    PE X (.Call (.Attribute o m apos) [] kws pos) (tCms C sp E ta tNil tk) := by
  refine ⟨fun pins s σ H Q I h => ?_⟩
  refine PySem.W.methodCall_KW (pl := pl) (thn (he.run pins s σ H _ I h) fun u s1 ⟨x, H1, I1, rx, ex, q⟩ => ?_) ht
  subst ex
  obtain rfl : u = Value.ref C := rx
  refine ClX.getmethcm_ok I1 r c fun s2 I2 => ?_
  refine PySem.W.callWith_of (P := PySem.W.MethP X.K s1.heap.objs.size g (.ref C)) hpl (PySem.W.keeps_M c.fi) (evalArgs_kw2_nil hall ?_)
  refine thn (hk.run pos _ s2 σ H1 _ I2 q) fun ws s4 ⟨zs, H3, I4, rz, q3⟩ => ⟨⟨ClX.pin_at I4, I4.kIn⟩, ?_⟩
  rw [hks]
  exact run_cms (us := []) F hr hx I4 .nil rz q3
end
/-! ### def m(cls, *pv, kx=default) -/
section
variable {P : Program} {w : World} {K : PySem.W.Frag} {mg : Str → Option Value} {base : Heap} {CX : CXT} {k : Nat} {f : Addr} {x qual p1 kx pv : Str} {params : Arguments} {body : List Stmt} {scope : Scope} {N : List Str} {fd : FuncData} {dv : V} {sp : Sp}
theorem fnS_star1 (F : FunD K x qual params body scope [] [(kx, dv)] f fd) (S : FnScope N [p1, kx, pv] scope) (hCX : StX.CXUp CX)
    (hb : ∀ (kV doc pm : Value) (an : Option Addr) (cdv ct : Value) (c v : Value) (rest : List Value), bindArgs (PySem.W.fnOf x qual params body scope .none kV doc pm an cdv ct) ⟨c :: rest, [(kx, v)]⟩ = (newTuple rest >>= fun t => pure [(p1, c), (kx, v), (pv, t)]))
    (hbody : ∀ (cdv : Value) (A : Around) (outer : List Env) (s : Shared) (H : Hp) (vs : List V) (Q : VK) (E : XK), Room k (A.deeper (envOfC qual scope s.heap.objs.size f cdv)) → sp vs H Q E →
      ∃ t, PSs (cxOf CX P w K mg base N qual scope f cdv A outer s H E) body t ∧ t { nx := fun _ H' => Q .non H', rt := Q } (start N vs) H) :
    FnS P w K mg base CX (k + 1) f [kx] (fun vs zs H Q E => ∃ c rest v, vs = c :: rest ∧ zs = [v] ∧ rest.length ≤ sizeLine ∧ ∀ p, H p = Option.none → sp [c, v, V.ref p] (upd H p (.tup rest)) Q E) := by
  intro A outer s H us ws vs zs Q E hr e0 r rz hsp
  obtain ⟨c, rest, v, rfl, rfl, hz, hq⟩ := hsp
  obtain ⟨oc, od, dV, kV, doc, pm, an, cdv, ct, osl, rfl, lk, hcd, hD, _⟩ := F.ex
  have e : dV = .none := by
    rcases hD with ⟨_, e⟩ | ⟨e, _⟩
    · exact e
    · exact absurd rfl e
  subst e
  cases r with
  | cons rc rr =>
  rename_i uc ur
  cases rz with
  | cons rv rn =>
  cases rn
  rename_i uv
  have hn : H s.heap.objs.size = Option.none := e0.hok.fresh (Nat.le_refl _)
  have hl2 : ur.length ≤ sizeLine := by rw [← rr.length]; exact hz
  refine StX.run_bnd lk hcd S hr e0 (G := fun xs H2 => ∃ p, H p = Option.none ∧ xs = [c, v, V.ref p] ∧ H2 = upd H p (.tup rest)) (fun A' Ex Q' h => ?_) fun s2 H2 xs ⟨p, hp, ex, eH⟩ hr' => ?_
  · rw [show ([kx].zip [uv] : List (Str × Value)) = [(kx, uv)] from rfl, hb kV doc pm an cdv ct uc uv ur]
    refine wpAny_bind (wpAny_newTuple (wpAny_pure ?_) hl2)
    have new : ObjOk P w (upd H s.heap.objs.size (.tup rest)) (s.heap.push ({ cls := .type "tuple", data := .seq ur.toArray } : Obj)) s.heap.objs.size (.tup rest) := ⟨hz, ur, rr, ⟨_, Heap.get?_push_size _ rfl, rfl, _, rfl⟩⟩
    have un := StX.un_laid (fs := frs outer) (s := s) (o := ({ cls := .type "tuple", data := .seq ur.toArray } : Obj)) (u := .tup rest) hn
    exact h _ _ [c, v, V.ref s.heap.objs.size] [uc, uv, Value.ref s.heap.objs.size] (StX.env0_laid e0 new) un rfl (fun e s' => hCX outer s H _ _ E e s' un (fun b o q => Heap.get?_push_of_some _ q) rfl) (.cons rc (.cons rv (.cons rfl .nil))) rfl ⟨_, hn, rfl, rfl⟩
  · subst ex eH
    exact hbody cdv A outer s2 _ _ Q E hr' (hq p hp)
theorem fnS_star0 (F : FunD K x qual params body scope [] [(kx, dv)] f fd) (S : FnScope N [p1, kx, pv] scope) (hCX : StX.CXUp CX)
    (hb : ∀ (D : Addr) (doc pm : Value) (an : Option Addr) (cdv ct : Value) (c v : Value) (rest : List Value), ∃ (β γ : Type) (k1 : Option Value → Sem β) (k2 : β → Sem γ) (k3 : γ → Sem (List (Str × Value))) (a : β),
      bindArgs (PySem.W.fnOf x qual params body scope .none (.ref D) doc pm an cdv ct) ⟨c :: rest, []⟩ = ((nsGet D kx >>= k1) >>= k2) >>= k3 ∧ k1 (some v) = pure a ∧ (k2 a >>= k3) = (newTuple rest >>= fun t => pure [(p1, c), (kx, v), (pv, t)]))
    (hbody : ∀ (cdv : Value) (A : Around) (outer : List Env) (s : Shared) (H : Hp) (vs : List V) (Q : VK) (E : XK), Room k (A.deeper (envOfC qual scope s.heap.objs.size f cdv)) → sp vs H Q E →
      ∃ t, PSs (cxOf CX P w K mg base N qual scope f cdv A outer s H E) body t ∧ t { nx := fun _ H' => Q .non H', rt := Q } (start N vs) H) :
    FnS P w K mg base CX (k + 1) f [] (fun vs zs H Q E => ∃ c rest, vs = c :: rest ∧ zs = [] ∧ rest.length ≤ sizeLine ∧ ∀ p, H p = Option.none → sp [c, dv, V.ref p] (upd H p (.tup rest)) Q E) := by
  intro A outer s H us ws vs zs Q E hr e0 r rz hsp
  obtain ⟨c, rest, rfl, rfl, hz, hq⟩ := hsp
  obtain ⟨oc, od, dV, kV, doc, pm, an, cdv, ct, osl, rfl, lk, hcd, hD, hK⟩ := F.ex
  have e : dV = .none := by
    rcases hD with ⟨_, e⟩ | ⟨e, _⟩
    · exact e
    · exact absurd rfl e
  subst e
  rcases hK with e | ⟨D, rfl, hq0⟩
  · cases e
  obtain ⟨uv, hns, rv⟩ := hq0 (kx, dv) (List.mem_singleton.mpr rfl)
  cases rz
  cases r with
  | cons rc rr =>
  rename_i uc ur
  have hn : H s.heap.objs.size = Option.none := e0.hok.fresh (Nat.le_refl _)
  have hl2 : ur.length ≤ sizeLine := by rw [← rr.length]; exact hz
  have KX : K.In s.heap := e0.mod.kin.keeps fun b o e => (e0.bs b o e).1
  refine StX.run_bnd lk hcd S hr e0 (G := fun xs H2 => ∃ p, H p = Option.none ∧ xs = [c, dv, V.ref p] ∧ H2 = upd H p (.tup rest)) (fun A' Ex Q' h => ?_) fun s2 H2 xs ⟨p, hp, ex, eH⟩ hr' => ?_
  · obtain ⟨β, γ, k1, k2, k3, a, e1, e2, e3⟩ := hb D doc pm an cdv ct uc uv ur
    rw [show (([] : List Str).zip ([] : List Value)) = [] from rfl, e1, bind_assoc]
    refine wpAny_bind (wpAny_bind ((PySem.W.looks_nsIn KX hns).here ?_))
    rw [e2]
    refine wpAny_pure ?_
    rw [e3]
    refine wpAny_bind (wpAny_newTuple (wpAny_pure ?_) hl2)
    have new : ObjOk P w (upd H s.heap.objs.size (.tup rest)) (s.heap.push ({ cls := .type "tuple", data := .seq ur.toArray } : Obj)) s.heap.objs.size (.tup rest) := ⟨hz, ur, rr, ⟨_, Heap.get?_push_size _ rfl, rfl, _, rfl⟩⟩
    have un := StX.un_laid (fs := frs outer) (s := s) (o := ({ cls := .type "tuple", data := .seq ur.toArray } : Obj)) (u := .tup rest) hn
    exact h _ _ [c, dv, V.ref s.heap.objs.size] [uc, uv, Value.ref s.heap.objs.size] (StX.env0_laid e0 new) un rfl (fun e s' => hCX outer s H _ _ E e s' un (fun b o q => Heap.get?_push_of_some _ q) rfl) (.cons rc (.cons rv (.cons rfl .nil))) rfl ⟨_, hn, rfl, rfl⟩
  · subst ex eH
    exact hbody cdv A outer s2 _ _ Q E hr' (hq p hp)
end
end L2

set_option maxRecDepth 100000
set_option maxHeartbeats 4000000
namespace L2
open PySem PySem.Spec PyProof.Rows
/-- cls(e, ..), cls a local name that holds the class at C -/
def tMakeL (i : Nat) (C : Addr) (sp : Sp) (E : XK) (t : TA) : TE := fun σ H Q => σ[i]? = some (some (.ref C)) ∧ tMake C sp [] E t σ H Q
section
variable {X : Cx} {CX : CXT} {k i : Nat} {f C : Addr} {ps : List Str} {sp : Sp} {E : XK} {x : Str} {p pos : Pos} {e : Expr} {es : List Expr} {t : TA}
theorem pmkL (O : Ok X.prog X.w X.K X.mg X.base CX k f ps sp) (M : Mk X.K C f) (hr : Room (k + 1) X.A) (hN : X.N[i]? = some x) (hv : Vis X.env.scope x) (hx : Passes CX X E) (ha : PA X (e :: es) t) (hdb : (x == ("__debug__" : Str)) = false := by decide)  (hcd : (x == ("__classdict__" : Str)) = false := by decide)
    (he : starEach (e :: es) X.env = (false, eval e X.env) :: starEach es X.env := by rfl) (hpl : (backTo pos (starEach es X.env)).any (·.1) = false := by rfl) :
    PE X (.Call (.Name x p) (e :: es) [] pos) (tMakeL i C sp E t) := by
  obtain ⟨fd, F, hb, _⟩ := O.ex
  refine ⟨fun pins s σ H Q I h => ?_⟩
  obtain ⟨hs, h⟩ := h
  refine wpAny_Call_Name_kw (thn ((pe_var (pos := p) hN hv hdb hcd).run pins s σ H (fun v H1 => v = .ref C ∧ H1 = H) I ⟨.ref C, hs, rfl, rfl⟩) fun u s1 ⟨v, H1, I1, r1, q1⟩ => ?_)
  obtain ⟨rfl, rfl⟩ := q1
  cases r1
  refine PySem.W.callWith_K (h₀ := X.base) I.ok.mod.kin M.kp (thn (ha.run pos pins s1 σ _ _ I1 h) fun us s2 ⟨vs, H2, I2, r, q⟩ => ⟨I2.kIn, ?_⟩) he hpl
  exact run_make M F hr hb .nil hx I2 r q
end
end L2

set_option maxRecDepth 100000
set_option maxHeartbeats 4000000
/-! # calls and own operators in a try's body -/
namespace L2
open PySem PySem.Spec PyProof.Rows
section
variable {X : Cx} {CX : CXT} {k : Nat} {f C : Addr} {ps : List Str} {sp : Sp} {E : St → XK} {x : Str} {p pos : Pos} {e a b : Expr} {es : List Expr} {ta tb : TE} {t : TA} {op : Operator}
theorem pcS (O : Ok X.prog X.w X.K X.mg X.base CX k f ps sp) (hr : Room k X.A) (hm : X.mg x = some (.ref f)) (hx : ∀ σ, PassesAt CX X σ (E σ)) (ha : PA X (e :: es) t) (hg : Gl X x := by rfl) (hdb : (x == ("__debug__" : Str)) = false := by decide)
    (he : starEach (e :: es) X.env = (false, eval e X.env) :: starEach es X.env := by rfl) (hpl : (backTo pos (starEach es X.env)).any (·.1) = false := by rfl) :
    PE X (.Call (.Name x p) (e :: es) [] pos) (tCallS sp E t) := let ⟨fd, a, b, c⟩ := O.ex; pe_callS a hr hg hm c b hx ha hdb he hpl
/-- a op n in a try's body -/
def tOwnIS (C : Addr) (sp : Sp) (E : St → XK) (ta tb : TE) : TE := fun σ H Q => ta σ H fun x H1 => tb σ H1 fun y H2 => rOwnOpI C sp (E σ) x y H2 Q
theorem peOwnIS (O : Ok X.prog X.w X.K X.mg X.base CX k f ps sp) (W : OwnOpT X.K C op f "int") (hr : Room k X.A) (hx : ∀ σ, PassesAt CX X σ (E σ)) (ha : PE X a ta) (hb : PE X b tb) : PE X (.BinOp a op b pos) (tOwnIS C sp E ta tb) := by
  obtain ⟨fd, F, bn, _⟩ := O.ex
  refine ⟨fun pins s σ H Q I h => wpAny_BinOp (binT ha hb I h fun v u s2 x y H2 I2 rx ry q => ?_)⟩
  obtain ⟨a, dx, fs, n, rfl, rfl, ha, hsp⟩ := q
  cases rx
  obtain ⟨t, rfl⟩ := ry
  obtain ⟨od, J⟩ := inst_of I2.hok ha
  obtain ⟨m, hF⟩ := I2.fr
  obtain ⟨rc, h1, h2⟩ := W.rev
  obtain ⟨fo, h3⟩ := W.tf
  obtain ⟨ro, h4⟩ := W.tr
  refine PySem.W.ksp_binT (T := "int") hF I2.ok.mod.kin J rfl W.first W.at_ W.fn h1 h2 h3 h4 W.sub (wpAny_mono (run_fnS F hr bn (hx σ) I2 (us := [.ref a, .int n t]) (vs := [.ref a, .int n]) (.cons rfl (.cons ⟨t, rfl⟩ .nil)) hsp) (fun r s' q => back_of q) fun _ _ z => z)
end
end L2

set_option maxRecDepth 100000
set_option maxHeartbeats 4000000
/-! # Words of every law: all but the pool, data that are alike, errors that are due -/
namespace L2
open PySem PySem.Spec PyProof.Rows
/-- all but p is as it was -/
def But (p : Addr) (H H' : Hp) : Prop := ∀ b o, b ≠ p → H b = some o → H' b = some o
theorem But.refl (p : Addr) (H : Hp) : But p H H := fun _ _ _ h => h
theorem But.trans {p : Addr} {H H1 H2 : Hp} (a : But p H H1) (b : But p H1 H2) : But p H H2 := fun c o n h => b c o n (a c o n h)
theorem But.set {p : Addr} {H : Hp} {o : HO} : But p H (upd H p o) := fun b u n h => by rw [upd_ne n]; exact h
theorem But.of {p : Addr} {H H' : Hp} (s : Same H H') : But p H H' := fun b o _ h => s b o h
theorem But.sqL {K : PySem.W.Frag} {p a : Addr} {H H' : Hp} {xs : List V} (s : But p H H') (n : a ≠ p) (h : SqL K H a xs) : SqL K H' a xs := by
  rcases h with (h | ⟨o, h⟩) | h
  · exact .inl (.inl (s _ _ n h))
  · exact .inl (.inr ⟨o, s _ _ n h⟩)
  · exact .inr h
theorem yesT {A B : Hp → Prop} {σ : St} {H : Hp} (h : A H) : tYes σ H (fun b H3 => if b = true then A H3 else B H3) := by
  show (if true = true then A H else B H)
  exact iteT h
theorem nope {b : Bool} {A B : Prop} (h : b = false) (k : B) : if b = true then A else B := by
  rw [h]; exact iteF k
theorem yep {b : Bool} {A B : Prop} (h : b = true) (k : A) : if b = true then A else B := by
  rw [h]; exact iteT k
theorem SqT.ty {K : PySem.W.Frag} {H : Hp} {a : Addr} {xs : List V} (h : SqT K H a xs) : TyX K H (.ref a) (.type "tuple") := by
  rcases h with (h | ⟨o, h⟩) | ⟨o, its, n, h, c, _⟩
  · exact .base (.tup h)
  · exact .fTuple h
  · exact .kTuple h c
theorem SqL.ty {K : PySem.W.Frag} {H : Hp} {a : Addr} {xs : List V} (h : SqL K H a xs) : TyX K H (.ref a) (.type "list") := by
  rcases h with (h | ⟨o, h⟩) | ⟨o, its, n, h, c, _⟩
  · exact .base (.lst h)
  · exact .base (.frz h)
  · exact .kList h c
/-- None, a bool, a number, a text -/
inductive Atom : V → Prop where
  | non : Atom .non
  | bl (b : Bool) : Atom (.bl b)
  | int (i : Int) : Atom (.int i)
  | str (z : Str) : Atom (.str z)
/-- x and y are the same data, at most n deep -/
def Eqd (K : PySem.W.Frag) : Nat → Hp → V → V → Prop
  | 0, _, x, y => x = y ∧ Atom x
  | n + 1, H, x, y => (x = y ∧ Atom x) ∨ (∃ a b xs ys, x = .ref a ∧ y = .ref b ∧ ((SqT K H a xs ∧ SqT K H b ys) ∨ (SqL K H a xs ∧ SqL K H b ys)) ∧ xs.length = ys.length ∧ xs.length ≤ sizeLine ∧ ∀ (i : Nat) (u v : V), xs[i]? = some u → ys[i]? = some v → Eqd K n H u v)
theorem Eqd.atom {K : PySem.W.Frag} {n : Nat} {H : Hp} {x : V} (h : Atom x) : Eqd K n H x x := by
  cases n with
  | zero => exact ⟨rfl, h⟩
  | succ n => exact .inl ⟨rfl, h⟩
theorem Eqd.same {K : PySem.W.Frag} : ∀ {n : Nat} {H H' : Hp} {x y : V}, Eqd K n H x y → Same H H' → Eqd K n H' x y := by
  intro n
  induction n with
  | zero => intro H H' x y h _; exact h
  | succ n ih =>
    intro H H' x y h s
    rcases h with h | ⟨a, b, xs, ys, e1, e2, h, hl, hz, hi⟩
    · exact .inl h
    · exact .inr ⟨a, b, xs, ys, e1, e2, h.imp (fun z => ⟨s.seqT z.1, s.seqT z.2⟩) (fun z => ⟨s.seq z.1, s.seq z.2⟩), hl, hz, fun i u v h1 h2 => ih (hi i u v h1 h2) s⟩
theorem Eqd.ints {K : PySem.W.Frag} {n : Nat} {H : Hp} {ns : List Int} : ∀ (i : Nat) (u v : V), (ns.map V.int)[i]? = some u → (ns.map V.int)[i]? = some v → Eqd K n H u v := fun i u v h1 h2 => by
  obtain ⟨x, _, rfl⟩ := map_get h1
  rw [h1] at h2
  cases h2
  exact .atom (.int x)
theorem But.fresh {p : Addr} {o : HO} {H H' : Hp} (hn : H p = none) (bt : But p (upd H p o) H') : Same H H' := fun b u e => by
  have nb : b ≠ p := fun z => by rw [z, hn] at e; cases e
  exact bt b u nb (by rw [upd_ne nb]; exact e)
theorem But.seqT {K : PySem.W.Frag} {p a : Addr} {H H' : Hp} {xs ps : List V} (s : But p H H') (hp : H p = some (.lst ps)) (h : SqT K H a xs) : SqT K H' a xs := by
  rcases h with (h | ⟨o, h⟩) | h
  · exact .inl (.inl (s _ _ (fun z => by rw [z, hp] at h; cases h) h))
  · exact .inl (.inr ⟨o, s _ _ (fun z => by rw [z, hp] at h; cases h) h⟩)
  · exact .inr h
/-- an error of class C with the dict o is raised over a heap that has grown -/
def Rs (C : Addr) (o : HO) (H : Hp) (E : XK) : Prop := ∀ H' d, Same H H' → H' d = none → E (.ref C) (some d) (upd H' d o)
theorem Rs.now {C : Addr} {o : HO} {H : Hp} {E : XK} (h : Rs C o H E) (d : Addr) (hd : H d = none) : E (.ref C) (some d) (upd H d o) := h H d (.refl _) hd
theorem Rs.same {C : Addr} {o : HO} {H H' : Hp} {E : XK} (h : Rs C o H E) (s : Same H H') : Rs C o H' E := fun H2 d s2 hd => h H2 d (s.trans s2) hd
theorem passF {X : Cx} : Passes (L2.CX X.prog X.w) X (fun _ _ _ => False) := passes_call takes0 (fun _ _ _ _ h => h)
theorem sL {n : Nat} (h : n ≤ 1000) : n ≤ sizeLine := by rw [sizeLine_eq]; omega
theorem Eqd.row {K : PySem.W.Frag} {n : Nat} {H : Hp} {a b : Addr} {ns : List Int} (h : (SqT K H a (ns.map V.int) ∧ SqT K H b (ns.map V.int)) ∨ (SqL K H a (ns.map V.int) ∧ SqL K H b (ns.map V.int))) (l : ns.length ≤ 1000) : Eqd K (n + 1) H (.ref a) (.ref b) :=
  .inr ⟨a, b, _, _, rfl, rfl, h, rfl, by rw [List.length_map]; exact sL l, Eqd.ints⟩
theorem mod_lt {a m : Int} (h : 0 < m) : 0 ≤ a.fmod m ∧ a.fmod m < m := by
  rw [Int.fmod_eq_emod_of_nonneg a (by omega)]
  exact ⟨Int.emod_nonneg _ (by omega), Int.emod_lt_of_pos _ h⟩
/-- a law's pool of draws -/
def PoolOk (st : List V) : Prop := ∃ a b c : Int, st = [.int a, .int b, .int c] ∧ 0 ≤ b ∧ b < 2147483648
end L2

set_option maxRecDepth 100000
set_option maxHeartbeats 4000000
/-! # len(obj) of an own class -/
namespace L2
open PySem PySem.Spec PyProof.Rows
section
variable {X : Cx} {CX : CXT} {C f : Addr} {ps : List Str} {sp : Sp} {E : XK} {k : Nat}
/-- len(a), a of a class with __len__, which gives a number below 2 ^ 62 -/
def rOwnLenW (C : Addr) (sp : Sp) (E : XK) : List V → Hp → VK → Prop := fun xs H Q => ∃ a dx fs, xs = [.ref a] ∧ H a = some (.ins C dx fs) ∧ sp [.ref a] H (fun v H' => ∃ n : Nat, v = .int (n : Nat) ∧ n < 2 ^ 62 ∧ Q v H') E
theorem cLen (O : Ok X.prog X.w X.K X.mg X.base CX k f ps sp) (W : PySem.W.findIn X.K (.ref C) "__len__" = some (some (.ref f)) ∧ PySem.W.isFn X.K (.ref f) = true) (hr : Room (k + 1) X.A) (hx : Passes CX X E) : CallR X (.builtin "len") (rOwnLenW C sp E) := by
  obtain ⟨fd, F, hb, _⟩ := O.ex
  intro pins s σ H xs us Q I r h
  obtain ⟨a, dx, fs, rfl, ha, hsp⟩ := h
  cases r with
  | cons r rr =>
  cases rr
  cases r
  obtain ⟨od, J⟩ := inst_of I.hok ha
  obtain ⟨m, hF⟩ := I.fr
  refine PySem.W.len_K hF I.ok.mod.kin J W.1 W.2 (wpAny_mono (run_fnA F hb hr.in1 I.env0.in1 hx I (us := [.ref a]) (vs := [.ref a]) (.cons rfl .nil) hsp) (fun v s' q => ?_) fun _ _ z => z)
  obtain ⟨x, H', I', rx, n, rfl, hn, q⟩ := q
  obtain ⟨t, rfl⟩ := rx
  exact ⟨⟨by omega, by omega⟩, .int (n : Nat), H', I'.tok _, ⟨_, rfl⟩, q⟩
/-- a def called within a built-in's call, in a try's body -/
theorem run_fnAS {E : St → XK} {fd : FuncData} {A : Around} {pins : List (Addr × Obj)} {σ : St} {H : Hp} {s : Shared} {Q : VK} {us : List Value} {vs : List V} (F : FnOk X.prog X.w X.K X.mg X.base CX k f fd ps sp) (hb : Binds X.K fd ps []) (hr : Room k A) (e0 : Env0 X.prog X.w X.K X.mg X.base A X.stack s H) (hx : PassesAt CX X σ (E σ))
    (I : Inv X pins σ H s) (r : Vals vs us) (h : sp vs H Q (E σ)) : wpAny (model X.prog X.w) A (call (.ref f) us) (EP X pins σ Q) X.xe s := by
  have hl : us.length = ps.length := r.length.symm.trans (F.len _ _ _ _ h)
  have B : BindsTo s fd ⟨us, []⟩ (ps.zip us) := by
    have := hb s us I.kIn (by rw [List.append_nil]; exact hl)
    rwa [List.append_nil] at this
  refine wpAny_call (codeAny_mono (F.run A X.stack s H ⟨us, []⟩ us vs Q (E σ) hr e0 B r h) fun r s' hq => ?_)
  cases r with
  | error e => exact hx pins H s e s' I hq
  | ok fl =>
    cases fl with
    | ret u => exact I.after hq
    | next => exact hq.elim
    | brk => exact hq.elim
    | cont => exact hq.elim
/-- a[i], a of a class with __getitem__, i a number; E may hang on the slots (a try's body) -/
def tOwnIx (C : Addr) (sp : Sp) (E : St → XK) (ta tb : TE) : TE := fun σ H Q => ta σ H fun x H1 => tb σ H1 fun y H2 => ∃ p dx fs i, x = .ref p ∧ y = .int i ∧ H2 p = some (.ins C dx fs) ∧ sp [.ref p, .int i] H2 Q (E σ)
structure OwnIx (K : PySem.W.Frag) (C f : Addr) : Prop where
  at_ : PySem.W.findIn K (.ref C) "__getitem__" = some (some (.ref f))
  fi : PySem.W.fnIn K f = true
  fn : PySem.W.isFn K (.ref f) = true
theorem peOwnIx {E : St → XK} {a b : Expr} {ta tb : TE} {pos : Pos} (O : Ok X.prog X.w X.K X.mg X.base CX k f ps sp) (W : OwnIx X.K C f) (hr : Room (k + 1) X.A) (hx : ∀ σ, PassesAt CX X σ (E σ)) (ha : PE X a ta) (hb : PE X b tb)
    (hsl : ∀ (p : Addr) (i : Value), subscripted b true (.ref p) i = runValue (.builtin "lifetime.subscript" ⟨[.ref p, i], []⟩) := by intro _ _; with_unfolding_all rfl) : PE X (.Subscript a b pos) (tOwnIx C sp E ta tb) := by
  obtain ⟨fd, F, bn, _⟩ := O.ex
  refine ⟨fun pins s σ H Q I h => Subscript_ (binT ha hb I h fun v u s2 x y H2 I2 rx ry q => ?_)⟩
  obtain ⟨p, dx, fs, i, rfl, rfl, hp, hsp⟩ := q
  cases rx
  obtain ⟨t, rfl⟩ := ry
  obtain ⟨od, J⟩ := inst_of I2.hok hp
  obtain ⟨m, hF⟩ := I2.fr
  exact PySem.W.sub_K hF I2.ok.mod.kin J W.at_ W.fi W.fn (run_fnAS F bn hr.in1 I2.env0.in1 (hx σ) I2 (us := [.ref p, .int i t]) (vs := [.ref p, .int i]) (.cons rfl (.cons ⟨t, rfl⟩ .nil)) hsp) (hsl p _)
/-- outside a try -/
theorem atP {E : XK} (h : Passes CX X E) : ∀ σ : St, PassesAt CX X σ E := fun σ pins H s e s' I c => h pins σ H s e s' I c
end
end L2

set_option maxRecDepth 100000
set_option maxHeartbeats 4000000
/-! # obj == x, obj < x: an own class's comparison with a value of any of four kinds -/
namespace L2
open PySem PySem.Spec PyProof.Rows
/-- what the right side may be, and its type -/
inductive CmpTy (K : PySem.W.Frag) (H : Hp) : V → Value → Prop
  | int (n : Int) : CmpTy K H (.int n) (.type "int")
  | lst {a : Addr} {xs : List V} (h : SqL K H a xs) : CmpTy K H (.ref a) (.type "list")
  | tup {a : Addr} {xs : List V} (h : SqT K H a xs) : CmpTy K H (.ref a) (.type "tuple")
  | own {a C dx : Addr} {fs : List (Str × V)} (h : H a = some (.ins C dx fs)) : CmpTy K H (.ref a) (.ref C)
theorem CmpTy.looks {X : Cx} {pins : List (Addr × Obj)} {σ : St} {H : Hp} {s : Shared} {y : V} {u tb : Value} (I : Inv X pins σ H s) (c : CmpTy X.K H y tb) (r : RelV y u) : PySem.W.Looks (model X.prog X.w) s.heap (typeOf u) tb := by
  cases c with
  | int n => obtain ⟨t, rfl⟩ := r; exact PySem.W.Looks.of_pure rfl
  | lst h =>
    cases r
    obtain ⟨its, _, p, _⟩ := I.list h
    obtain ⟨o, ho, hc, _⟩ := p.isList
    exact fun A Q E s' k q => wpAny_typeOf_ref (k _ _ ho) (by rw [hc]; exact q)
  | tup h =>
    cases r
    obtain ⟨its, _, ⟨o, ho, hc, _⟩, _⟩ := I.tuple h
    exact fun A Q E s' k q => wpAny_typeOf_ref (k _ _ ho) (by rw [hc]; exact q)
  | own h =>
    cases r
    obtain ⟨od, J⟩ := inst_of I.hok h
    exact J.type
/-- a op y, a of the class at C, whose def for op is at f -/
structure OwnCmp (K : PySem.W.Frag) (C : Addr) (op : CmpOp) (f : Addr) (tb : Value) : Prop where
  at_ : PySem.W.findIn K (.ref C) (cmpInfo op).2.1 = some (some (.ref f))
  fn : PySem.W.isFn K (.ref f) = true
  nf : PySem.W.notFirst K C tb = true
def rOwnCmp (K : PySem.W.Frag) (C : Addr) (tb : Value) (sp : Sp) (E : XK) : R2 := fun x y H Q => ∃ a dx fs, x = .ref a ∧ H a = some (.ins C dx fs) ∧ CmpTy K H y tb ∧ sp [.ref a, y] H Q E
section
variable {X : Cx} {CX : CXT} {C f : Addr} {ps : List Str} {sp : Sp} {E : XK} {k : Nat}
theorem oCmp {op : CmpOp} {tb : Value} (hop : ∀ a b, compareOp op a b = richCompare op a b) (O : Ok X.prog X.w X.K X.mg X.base CX k f ps sp) (W : OwnCmp X.K C op f tb) (hr : Room k X.A) (hx : Passes CX X E) : OpR X (compareOp op) (rOwnCmp X.K C tb sp E) := by
  obtain ⟨fd, F, hb, _⟩ := O.ex
  intro pins s σ H x y v u Q I rx ry h
  obtain ⟨a, dx, fs, rfl, ha, ct, hsp⟩ := h
  cases rx
  obtain ⟨od, J⟩ := inst_of I.hok ha
  obtain ⟨m, hF⟩ := I.fr
  rw [hop]
  exact PySem.W.cmp_K (op := op) hr.units0 hF I.ok.mod.kin J (ct.looks I ry) W.nf W.at_ W.fn (wpAny_mono (run_fn F hr hb .nil hx I (us := [.ref a, u]) (vs := [.ref a, y]) (.cons rfl (.cons ry .nil)) hsp) (fun r s' q => back_of q) fun _ _ z => z)
/-- xs[i] as it is read in xs[i] += n, 0 ≤ i -/
def gIxL (K : PySem.W.Frag) : V → V → Hp → VK → Prop := fun o i H Q => ∃ p xs j v, o = .ref p ∧ i = .int ((j : Nat) : Int) ∧ SqL K H p xs ∧ xs[j]? = some v ∧ Q v H
theorem get_list : PGet X (gIxL X.K) := by
  intro pins s σ H o i ov iv Q I ro ri h
  obtain ⟨p, xs, j, v, rfl, rfl, hp, hj, q⟩ := h
  cases ro
  obtain ⟨t, rfl⟩ := ri
  obtain ⟨its, r, pl, hz⟩ := I.list hp
  obtain ⟨w, ew, rw'⟩ := r.get hj
  have hl := r.length
  have lt : j < xs.length := (List.getElem?_eq_some_iff.mp hj).1
  have hn := line63
  exact wpAny_getItem_list pl.isList (by omega) (by omega) (by rw [Int.toNat_natCast]; simpa using ew) ⟨v, H, I, rw', q⟩
end
end L2

set_option maxRecDepth 100000
set_option maxHeartbeats 4000000
namespace FC
open PySem PySem.W PySem.Calls PyProof.Rows He He5 HX
def cmpB (K : Frag) (C : Addr) (op : CmpOp) (f : Addr) (tb : Value) : Bool := eqO (findIn K (.ref C) (cmpInfo op).2.1) (some (some (.ref f))) && (isFn K (.ref f) && notFirst K C tb)
theorem cmp_ok {K : Frag} {C f : Addr} {op : CmpOp} {tb : Value} (h : cmpB K C op f tb = true) : L2.OwnCmp K C op f tb := by
  obtain ⟨h1, h⟩ := ba h
  obtain ⟨h2, h3⟩ := ba h
  exact ⟨eqO_ok h1, h2, h3⟩
def ixB (K : Frag) (C f : Addr) : Bool := eqO (findIn K (.ref C) "__getitem__") (some (some (.ref f))) && (fnIn K f && isFn K (.ref f))
theorem ix_ok {K : Frag} {C f : Addr} (h : ixB K C f = true) : L2.OwnIx K C f := by
  obtain ⟨h1, h⟩ := ba h
  obtain ⟨h2, h3⟩ := ba h
  exact ⟨eqO_ok h1, h2, h3⟩
end FC

set_option maxRecDepth 100000
set_option maxHeartbeats 0
namespace K02
open PySem PySem.W PySem.Spec PySem.Calls PyProof.Rows L2 He He5 HX
/-! ### the text by its places -/
abbrev PG : Program := PySem.Challenge.pw_nightsoff_k02_tellings
def topS (i : Nat) : Stmt := PG.main.body.getD i (.Pass ⟨0, 0, 0, 0⟩)
abbrev s_check_count : Stmt := topS 9
abbrev s_check_number : Stmt := topS 10
abbrev s_check_numbers : Stmt := topS 11
abbrev s_check_not_negative : Stmt := topS 12
abbrev s_Telling_init : Stmt := inClass (topS 15) 0
abbrev s_Telling_len : Stmt := inClass (topS 15) 1
abbrev s_Telling_iter : Stmt := inClass (topS 15) 2
abbrev s_Telling_getitem : Stmt := inClass (topS 15) 3
abbrev s_Telling_eq : Stmt := inClass (topS 15) 4
abbrev s_Telling_lt : Stmt := inClass (topS 15) 5
abbrev s_Telling_add : Stmt := inClass (topS 15) 6
abbrev s_Telling_mul : Stmt := inClass (topS 15) 7
abbrev s_Telling_rmul : Stmt := inClass (topS 15) 8
abbrev s_Telling_xor : Stmt := inClass (topS 15) 9
abbrev s_Telling_abs : Stmt := inClass (topS 15) 10
abbrev s_Telling_no_steeper : Stmt := inClass (topS 15) 11
abbrev s_Telling_moved : Stmt := inClass (topS 15) 12
abbrev s_Telling_check_place : Stmt := inClass (topS 15) 13
abbrev s_Telling_check_alike : Stmt := inClass (topS 15) 14
abbrev s_law_pool : Stmt := topS 17
abbrev s_law_draw : Stmt := topS 18
abbrev s_law_int : Stmt := topS 19
abbrev s_law_same : Stmt := topS 20
abbrev s_law_entry : Stmt := topS 21
abbrev s_law_entries : Stmt := topS 22
abbrev s_law_second : Stmt := topS 23
abbrev s_law_odd : Stmt := topS 24
abbrev s_law_loose : Stmt := topS 25
abbrev s_law_person : Stmt := topS 26
abbrev s_law_numbers : Stmt := topS 27
abbrev s_law_due_made : Stmt := topS 28
abbrev s_law_due_moved : Stmt := topS 29
abbrev s_law_no_steeper : Stmt := topS 30
abbrev s_law_due : Stmt := topS 31
abbrev s_law_worked : Stmt := topS 32
abbrev s_law_try : Stmt := topS 33
abbrev s_law_try_person : Stmt := topS 34
abbrev s_law_reads : Stmt := topS 35
abbrev s_law_compared : Stmt := topS 36
abbrev s_law : Stmt := topS 37
abbrev e_NoPerson : Stmt := inClass (topS 2) 0
abbrev e_NamedTwice : Stmt := inClass (topS 3) 0
abbrev e_BadNumber : Stmt := inClass (topS 4) 0
abbrev e_TooLong : Stmt := inClass (topS 5) 0
abbrev e_WrongLength : Stmt := inClass (topS 6) 0
/-! ### the errors: what their __init__ says -/
theorem tx_NoPerson : InitTx PG e_NoPerson "NoPerson.__init__" ["person"] [("person", "person")] where
  txt := ⟨_, _, _, _, _, _, _, _, _, rfl, .cons (.nil), fun env h => (by rw [show interactive env = (env.scope.kind == ScopeKind.module && env.scope.more.any fun (n, _) => n == ("interactive" : Str)) from rfl, h]; rfl), fun env h => ⟨_, by obtain ⟨⟩ := env; cases h; rfl⟩⟩
  par := ⟨_, rfl, rfl⟩
  sc := ⟨⟨rfl, rfl, rfl⟩, by decide +kernel, rfl, rfl, rfl⟩
  loc := by decide +kernel
  nod := by decide +kernel
  bind := fun s e fd us hl h1 h2 h3 => (match us, hl with | [_], _ => .of_eq (by obtain ⟨⟩ := fd; cases h1; cases h2; cases h3; rfl))
  top := by decide +kernel
  few := by decide
theorem tx_NamedTwice : InitTx PG e_NamedTwice "NamedTwice.__init__" ["person"] [("person", "person")] where
  txt := ⟨_, _, _, _, _, _, _, _, _, rfl, .cons (.nil), fun env h => (by rw [show interactive env = (env.scope.kind == ScopeKind.module && env.scope.more.any fun (n, _) => n == ("interactive" : Str)) from rfl, h]; rfl), fun env h => ⟨_, by obtain ⟨⟩ := env; cases h; rfl⟩⟩
  par := ⟨_, rfl, rfl⟩
  sc := ⟨⟨rfl, rfl, rfl⟩, by decide +kernel, rfl, rfl, rfl⟩
  loc := by decide +kernel
  nod := by decide +kernel
  bind := fun s e fd us hl h1 h2 h3 => (match us, hl with | [_], _ => .of_eq (by obtain ⟨⟩ := fd; cases h1; cases h2; cases h3; rfl))
  top := by decide +kernel
  few := by decide
theorem tx_BadNumber : InitTx PG e_BadNumber "BadNumber.__init__" ["place", "number"] [("place", "place"), ("number", "number")] where
  txt := ⟨_, _, _, _, _, _, _, _, _, rfl, .cons (.cons (.nil)), fun env h => (by rw [show interactive env = (env.scope.kind == ScopeKind.module && env.scope.more.any fun (n, _) => n == ("interactive" : Str)) from rfl, h]; rfl), fun env h => ⟨_, by obtain ⟨⟩ := env; cases h; rfl⟩⟩
  par := ⟨_, rfl, rfl⟩
  sc := ⟨⟨rfl, rfl, rfl⟩, by decide +kernel, rfl, rfl, rfl⟩
  loc := by decide +kernel
  nod := by decide +kernel
  bind := fun s e fd us hl h1 h2 h3 => (match us, hl with | [_, _], _ => .of_eq (by obtain ⟨⟩ := fd; cases h1; cases h2; cases h3; rfl))
  top := by decide +kernel
  few := by decide
theorem tx_TooLong : InitTx PG e_TooLong "TooLong.__init__" ["count"] [("count", "count")] where
  txt := ⟨_, _, _, _, _, _, _, _, _, rfl, .cons (.nil), fun env h => (by rw [show interactive env = (env.scope.kind == ScopeKind.module && env.scope.more.any fun (n, _) => n == ("interactive" : Str)) from rfl, h]; rfl), fun env h => ⟨_, by obtain ⟨⟩ := env; cases h; rfl⟩⟩
  par := ⟨_, rfl, rfl⟩
  sc := ⟨⟨rfl, rfl, rfl⟩, by decide +kernel, rfl, rfl, rfl⟩
  loc := by decide +kernel
  nod := by decide +kernel
  bind := fun s e fd us hl h1 h2 h3 => (match us, hl with | [_], _ => .of_eq (by obtain ⟨⟩ := fd; cases h1; cases h2; cases h3; rfl))
  top := by decide +kernel
  few := by decide
theorem tx_WrongLength : InitTx PG e_WrongLength "WrongLength.__init__" ["found", "wanted"] [("found", "found"), ("wanted", "wanted")] where
  txt := ⟨_, _, _, _, _, _, _, _, _, rfl, .cons (.cons (.nil)), fun env h => (by rw [show interactive env = (env.scope.kind == ScopeKind.module && env.scope.more.any fun (n, _) => n == ("interactive" : Str)) from rfl, h]; rfl), fun env h => ⟨_, by obtain ⟨⟩ := env; cases h; rfl⟩⟩
  par := ⟨_, rfl, rfl⟩
  sc := ⟨⟨rfl, rfl, rfl⟩, by decide +kernel, rfl, rfl, rfl⟩
  loc := by decide +kernel
  nod := by decide +kernel
  bind := fun s e fd us hl h1 h2 h3 => (match us, hl with | [_, _], _ => .of_eq (by obtain ⟨⟩ := fd; cases h1; cases h2; cases h3; rfl))
  top := by decide +kernel
  few := by decide
/-! ### facts -/
def fn : List DefA := [
  { at_ := fun K => ga K "check_count", name := "check_count", qual := "check_count", params := defArgs s_check_count, body := defBody s_check_count, scope := defScope s_check_count },
  { at_ := fun K => ga K "check_number", name := "check_number", qual := "check_number", params := defArgs s_check_number, body := defBody s_check_number, scope := defScope s_check_number },
  { at_ := fun K => ga K "check_numbers", name := "check_numbers", qual := "check_numbers", params := defArgs s_check_numbers, body := defBody s_check_numbers, scope := defScope s_check_numbers },
  { at_ := fun K => ga K "check_not_negative", name := "check_not_negative", qual := "check_not_negative", params := defArgs s_check_not_negative, body := defBody s_check_not_negative, scope := defScope s_check_not_negative },
  { at_ := fun K => ma K (ga K "Telling") "__init__", name := "__init__", qual := "Telling.__init__", params := defArgs s_Telling_init, body := defBody s_Telling_init, scope := defScope s_Telling_init },
  { at_ := fun K => ma K (ga K "Telling") "__len__", name := "__len__", qual := "Telling.__len__", params := defArgs s_Telling_len, body := defBody s_Telling_len, scope := defScope s_Telling_len },
  { at_ := fun K => ma K (ga K "Telling") "__iter__", name := "__iter__", qual := "Telling.__iter__", params := defArgs s_Telling_iter, body := defBody s_Telling_iter, scope := defScope s_Telling_iter },
  { at_ := fun K => ma K (ga K "Telling") "__getitem__", name := "__getitem__", qual := "Telling.__getitem__", params := defArgs s_Telling_getitem, body := defBody s_Telling_getitem, scope := defScope s_Telling_getitem },
  { at_ := fun K => ma K (ga K "Telling") "__eq__", name := "__eq__", qual := "Telling.__eq__", params := defArgs s_Telling_eq, body := defBody s_Telling_eq, scope := defScope s_Telling_eq },
  { at_ := fun K => ma K (ga K "Telling") "__lt__", name := "__lt__", qual := "Telling.__lt__", params := defArgs s_Telling_lt, body := defBody s_Telling_lt, scope := defScope s_Telling_lt },
  { at_ := fun K => ma K (ga K "Telling") "__add__", name := "__add__", qual := "Telling.__add__", params := defArgs s_Telling_add, body := defBody s_Telling_add, scope := defScope s_Telling_add },
  { at_ := fun K => ma K (ga K "Telling") "__mul__", name := "__mul__", qual := "Telling.__mul__", params := defArgs s_Telling_mul, body := defBody s_Telling_mul, scope := defScope s_Telling_mul },
  { at_ := fun K => ma K (ga K "Telling") "__rmul__", name := "__rmul__", qual := "Telling.__rmul__", params := defArgs s_Telling_rmul, body := defBody s_Telling_rmul, scope := defScope s_Telling_rmul },
  { at_ := fun K => ma K (ga K "Telling") "__xor__", name := "__xor__", qual := "Telling.__xor__", params := defArgs s_Telling_xor, body := defBody s_Telling_xor, scope := defScope s_Telling_xor },
  { at_ := fun K => ma K (ga K "Telling") "__abs__", name := "__abs__", qual := "Telling.__abs__", params := defArgs s_Telling_abs, body := defBody s_Telling_abs, scope := defScope s_Telling_abs },
  { at_ := fun K => ma K (ga K "Telling") "no_steeper", name := "no_steeper", qual := "Telling.no_steeper", params := defArgs s_Telling_no_steeper, body := defBody s_Telling_no_steeper, scope := defScope s_Telling_no_steeper },
  { at_ := fun K => ma K (ga K "Telling") "moved", name := "moved", qual := "Telling.moved", params := defArgs s_Telling_moved, body := defBody s_Telling_moved, scope := defScope s_Telling_moved, dfl := [.int 1] },
  { at_ := fun K => ma K (ga K "Telling") "_check_place", name := "_check_place", qual := "Telling._check_place", params := defArgs s_Telling_check_place, body := defBody s_Telling_check_place, scope := defScope s_Telling_check_place },
  { at_ := fun K => ma K (ga K "Telling") "_check_alike", name := "_check_alike", qual := "Telling._check_alike", params := defArgs s_Telling_check_alike, body := defBody s_Telling_check_alike, scope := defScope s_Telling_check_alike },
  { at_ := fun K => ga K "_law_pool", name := "_law_pool", qual := "_law_pool", params := defArgs s_law_pool, body := defBody s_law_pool, scope := defScope s_law_pool },
  { at_ := fun K => ga K "_law_draw", name := "_law_draw", qual := "_law_draw", params := defArgs s_law_draw, body := defBody s_law_draw, scope := defScope s_law_draw },
  { at_ := fun K => ga K "_law_int", name := "_law_int", qual := "_law_int", params := defArgs s_law_int, body := defBody s_law_int, scope := defScope s_law_int },
  { at_ := fun K => ga K "_law_same", name := "_law_same", qual := "_law_same", params := defArgs s_law_same, body := defBody s_law_same, scope := defScope s_law_same },
  { at_ := fun K => ga K "_law_entry", name := "_law_entry", qual := "_law_entry", params := defArgs s_law_entry, body := defBody s_law_entry, scope := defScope s_law_entry },
  { at_ := fun K => ga K "_law_entries", name := "_law_entries", qual := "_law_entries", params := defArgs s_law_entries, body := defBody s_law_entries, scope := defScope s_law_entries },
  { at_ := fun K => ga K "_law_second", name := "_law_second", qual := "_law_second", params := defArgs s_law_second, body := defBody s_law_second, scope := defScope s_law_second },
  { at_ := fun K => ga K "_law_odd", name := "_law_odd", qual := "_law_odd", params := defArgs s_law_odd, body := defBody s_law_odd, scope := defScope s_law_odd },
  { at_ := fun K => ga K "_law_loose", name := "_law_loose", qual := "_law_loose", params := defArgs s_law_loose, body := defBody s_law_loose, scope := defScope s_law_loose },
  { at_ := fun K => ga K "_law_person", name := "_law_person", qual := "_law_person", params := defArgs s_law_person, body := defBody s_law_person, scope := defScope s_law_person },
  { at_ := fun K => ga K "_law_numbers", name := "_law_numbers", qual := "_law_numbers", params := defArgs s_law_numbers, body := defBody s_law_numbers, scope := defScope s_law_numbers },
  { at_ := fun K => ga K "_law_due_made", name := "_law_due_made", qual := "_law_due_made", params := defArgs s_law_due_made, body := defBody s_law_due_made, scope := defScope s_law_due_made },
  { at_ := fun K => ga K "_law_due_moved", name := "_law_due_moved", qual := "_law_due_moved", params := defArgs s_law_due_moved, body := defBody s_law_due_moved, scope := defScope s_law_due_moved },
  { at_ := fun K => ga K "_law_no_steeper", name := "_law_no_steeper", qual := "_law_no_steeper", params := defArgs s_law_no_steeper, body := defBody s_law_no_steeper, scope := defScope s_law_no_steeper },
  { at_ := fun K => ga K "_law_due", name := "_law_due", qual := "_law_due", params := defArgs s_law_due, body := defBody s_law_due, scope := defScope s_law_due },
  { at_ := fun K => ga K "_law_worked", name := "_law_worked", qual := "_law_worked", params := defArgs s_law_worked, body := defBody s_law_worked, scope := defScope s_law_worked },
  { at_ := fun K => ga K "_law_try", name := "_law_try", qual := "_law_try", params := defArgs s_law_try, body := defBody s_law_try, scope := defScope s_law_try },
  { at_ := fun K => ga K "_law_try_person", name := "_law_try_person", qual := "_law_try_person", params := defArgs s_law_try_person, body := defBody s_law_try_person, scope := defScope s_law_try_person },
  { at_ := fun K => ga K "_law_reads", name := "_law_reads", qual := "_law_reads", params := defArgs s_law_reads, body := defBody s_law_reads, scope := defScope s_law_reads },
  { at_ := fun K => ga K "_law_compared", name := "_law_compared", qual := "_law_compared", params := defArgs s_law_compared, body := defBody s_law_compared, scope := defScope s_law_compared },
  { at_ := fun K => ga K "law", name := "law", qual := "law", params := defArgs s_law, body := defBody s_law, scope := defScope s_law }]
def er : List ErrD := [⟨"NoPerson", e_NoPerson, "NoPerson.__init__", ["person"]⟩, ⟨"NamedTwice", e_NamedTwice, "NamedTwice.__init__", ["person"]⟩, ⟨"BadNumber", e_BadNumber, "BadNumber.__init__", ["place", "number"]⟩, ⟨"TooLong", e_TooLong, "TooLong.__init__", ["count"]⟩, ⟨"WrongLength", e_WrongLength, "WrongLength.__init__", ["found", "wanted"]⟩]
def bl (K : Frag) : List Bool := [
  (Fa.free "super").ok K,
  eqO (nsIn K cStatics "thirdparty.any") (some none),
  (Fa.free "len").ok K,
  (Fa.free "enumerate").ok K,
  (Fa.free "tuple").ok K,
  (Fa.free "iter").ok K,
  (Fa.free "sum").ok K,
  (Fa.free "abs").ok K,
  (Fa.free "int").ok K,
  (Fa.free "range").ok K,
  (Fa.free "isinstance").ok K,
  (Fa.free "bool").ok K,
  (Fa.free "str").ok K,
  (Fa.free "list").ok K,
  (Fa.free "zip").ok K,
  (Fa.free "sorted").ok K,
  (Fa.free "NotImplemented").ok K,
  (Fa.free "ValueError").ok K,
  (Fa.free "max").ok K,
  (Fa.free "min").ok K,
  (Fa.glo "check_count").ok K,
  (Fa.glo "check_number").ok K,
  (Fa.glo "check_numbers").ok K,
  (Fa.glo "check_not_negative").ok K,
  (Fa.glo "_law_pool").ok K,
  (Fa.glo "_law_draw").ok K,
  (Fa.glo "_law_int").ok K,
  (Fa.glo "_law_same").ok K,
  (Fa.glo "_law_entry").ok K,
  (Fa.glo "_law_entries").ok K,
  (Fa.glo "_law_second").ok K,
  (Fa.glo "_law_odd").ok K,
  (Fa.glo "_law_loose").ok K,
  (Fa.glo "_law_person").ok K,
  (Fa.glo "_law_numbers").ok K,
  (Fa.glo "_law_due_made").ok K,
  (Fa.glo "_law_due_moved").ok K,
  (Fa.glo "_law_no_steeper").ok K,
  (Fa.glo "_law_due").ok K,
  (Fa.glo "_law_worked").ok K,
  (Fa.glo "_law_try").ok K,
  (Fa.glo "_law_try_person").ok K,
  (Fa.glo "_law_reads").ok K,
  (Fa.glo "_law_compared").ok K,
  (Fa.glo "law").ok K,
  (Fa.cls "Telling").ok K,
  (Fa.glo "Telling").ok K,
  EF.clsB K (ga K "Telling"),
  (Fa.mkr "Telling").ok K,
  (Fa.noat "Telling" "entries").ok K,
  (Fa.int "MOST_PEOPLE" 30).ok K,
  (Fa.int "LIMIT" 1000000000000000000000000000000).ok K,
  FB.opB K (ga K "Telling") .Add (ma K (ga K "Telling") "__add__"),
  FB.opTB K (ga K "Telling") .Mult (ma K (ga K "Telling") "__mul__") "int",
  FB.opRB K (ga K "Telling") .Mult (ma K (ga K "Telling") "__rmul__"),
  FB.opB K (ga K "Telling") .BitXor (ma K (ga K "Telling") "__xor__"),
  FB.spB K (ga K "Telling") "__len__" (ma K (ga K "Telling") "__len__"),
  FB.spB K (ga K "Telling") "__iter__" (ma K (ga K "Telling") "__iter__"),
  FB.spB K (ga K "Telling") "__getitem__" (ma K (ga K "Telling") "__getitem__"),
  FB.spB K (ga K "Telling") "__eq__" (ma K (ga K "Telling") "__eq__"),
  FB.spB K (ga K "Telling") "__lt__" (ma K (ga K "Telling") "__lt__"),
  FB.spB K (ga K "Telling") "__abs__" (ma K (ga K "Telling") "__abs__"),
  (Fa.meth "Telling" "no_steeper").ok K,
  (Fa.meth "Telling" "moved").ok K,
  (Fa.meth "Telling" "_check_place").ok K,
  (Fa.meth "Telling" "_check_alike").ok K,
  FC.cmpB K (ga K "Telling") .Eq (ma K (ga K "Telling") "__eq__") (.ref (ga K "Telling")),
  FC.cmpB K (ga K "Telling") .Eq (ma K (ga K "Telling") "__eq__") (.type "int"),
  FC.cmpB K (ga K "Telling") .Eq (ma K (ga K "Telling") "__eq__") (.type "list"),
  FC.cmpB K (ga K "Telling") .Eq (ma K (ga K "Telling") "__eq__") (.type "tuple"),
  FC.cmpB K (ga K "Telling") .Lt (ma K (ga K "Telling") "__lt__") (.ref (ga K "Telling")),
  FC.ixB K (ga K "Telling") (ma K (ga K "Telling") "__getitem__"),
  (Fa.glo "NightsError").ok K,
  EF.excB K (ga K "NoPerson"),
  (Fa.noat "NoPerson" "person").ok K,
  (Fa.exm "NoPerson" "WrongLength" false).ok K,
  decide (kitOne K (.ref (ga K "NoPerson")) (.ref (ga K "WrongLength")) = some false),
  (Fa.exm "NoPerson" "BadNumber" false).ok K,
  decide (kitOne K (.ref (ga K "NoPerson")) (.ref (ga K "BadNumber")) = some false),
  (Fa.exm "NoPerson" "NamedTwice" false).ok K,
  decide (kitOne K (.ref (ga K "NoPerson")) (.ref (ga K "NamedTwice")) = some false),
  (Fa.exm "NoPerson" "NoPerson" true).ok K,
  decide (kitOne K (.ref (ga K "NoPerson")) (.ref (ga K "NoPerson")) = some true),
  (Fa.exm "NoPerson" "TooLong" false).ok K,
  decide (kitOne K (.ref (ga K "NoPerson")) (.ref (ga K "TooLong")) = some false),
  (Fa.exm "NoPerson" "NightsError" true).ok K,
  decide (kitOne K (.ref (ga K "NoPerson")) (.ref (ga K "NightsError")) = some true),
  decide (kitOne K (.ref (ga K "NoPerson")) (.type "ValueError") = some true),
  EF.excB K (ga K "NamedTwice"),
  (Fa.noat "NamedTwice" "person").ok K,
  (Fa.exm "NamedTwice" "WrongLength" false).ok K,
  decide (kitOne K (.ref (ga K "NamedTwice")) (.ref (ga K "WrongLength")) = some false),
  (Fa.exm "NamedTwice" "BadNumber" false).ok K,
  decide (kitOne K (.ref (ga K "NamedTwice")) (.ref (ga K "BadNumber")) = some false),
  (Fa.exm "NamedTwice" "NamedTwice" true).ok K,
  decide (kitOne K (.ref (ga K "NamedTwice")) (.ref (ga K "NamedTwice")) = some true),
  (Fa.exm "NamedTwice" "NoPerson" false).ok K,
  decide (kitOne K (.ref (ga K "NamedTwice")) (.ref (ga K "NoPerson")) = some false),
  (Fa.exm "NamedTwice" "TooLong" false).ok K,
  decide (kitOne K (.ref (ga K "NamedTwice")) (.ref (ga K "TooLong")) = some false),
  (Fa.exm "NamedTwice" "NightsError" true).ok K,
  decide (kitOne K (.ref (ga K "NamedTwice")) (.ref (ga K "NightsError")) = some true),
  decide (kitOne K (.ref (ga K "NamedTwice")) (.type "ValueError") = some true),
  EF.excB K (ga K "BadNumber"),
  (Fa.noat "BadNumber" "place").ok K,
  (Fa.noat "BadNumber" "number").ok K,
  (Fa.exm "BadNumber" "WrongLength" false).ok K,
  decide (kitOne K (.ref (ga K "BadNumber")) (.ref (ga K "WrongLength")) = some false),
  (Fa.exm "BadNumber" "BadNumber" true).ok K,
  decide (kitOne K (.ref (ga K "BadNumber")) (.ref (ga K "BadNumber")) = some true),
  (Fa.exm "BadNumber" "NamedTwice" false).ok K,
  decide (kitOne K (.ref (ga K "BadNumber")) (.ref (ga K "NamedTwice")) = some false),
  (Fa.exm "BadNumber" "NoPerson" false).ok K,
  decide (kitOne K (.ref (ga K "BadNumber")) (.ref (ga K "NoPerson")) = some false),
  (Fa.exm "BadNumber" "TooLong" false).ok K,
  decide (kitOne K (.ref (ga K "BadNumber")) (.ref (ga K "TooLong")) = some false),
  (Fa.exm "BadNumber" "NightsError" true).ok K,
  decide (kitOne K (.ref (ga K "BadNumber")) (.ref (ga K "NightsError")) = some true),
  decide (kitOne K (.ref (ga K "BadNumber")) (.type "ValueError") = some true),
  EF.excB K (ga K "TooLong"),
  (Fa.noat "TooLong" "count").ok K,
  (Fa.exm "TooLong" "WrongLength" false).ok K,
  decide (kitOne K (.ref (ga K "TooLong")) (.ref (ga K "WrongLength")) = some false),
  (Fa.exm "TooLong" "BadNumber" false).ok K,
  decide (kitOne K (.ref (ga K "TooLong")) (.ref (ga K "BadNumber")) = some false),
  (Fa.exm "TooLong" "NamedTwice" false).ok K,
  decide (kitOne K (.ref (ga K "TooLong")) (.ref (ga K "NamedTwice")) = some false),
  (Fa.exm "TooLong" "NoPerson" false).ok K,
  decide (kitOne K (.ref (ga K "TooLong")) (.ref (ga K "NoPerson")) = some false),
  (Fa.exm "TooLong" "TooLong" true).ok K,
  decide (kitOne K (.ref (ga K "TooLong")) (.ref (ga K "TooLong")) = some true),
  (Fa.exm "TooLong" "NightsError" true).ok K,
  decide (kitOne K (.ref (ga K "TooLong")) (.ref (ga K "NightsError")) = some true),
  decide (kitOne K (.ref (ga K "TooLong")) (.type "ValueError") = some true),
  EF.excB K (ga K "WrongLength"),
  (Fa.noat "WrongLength" "found").ok K,
  (Fa.noat "WrongLength" "wanted").ok K,
  (Fa.exm "WrongLength" "WrongLength" true).ok K,
  decide (kitOne K (.ref (ga K "WrongLength")) (.ref (ga K "WrongLength")) = some true),
  (Fa.exm "WrongLength" "BadNumber" false).ok K,
  decide (kitOne K (.ref (ga K "WrongLength")) (.ref (ga K "BadNumber")) = some false),
  (Fa.exm "WrongLength" "NamedTwice" false).ok K,
  decide (kitOne K (.ref (ga K "WrongLength")) (.ref (ga K "NamedTwice")) = some false),
  (Fa.exm "WrongLength" "NoPerson" false).ok K,
  decide (kitOne K (.ref (ga K "WrongLength")) (.ref (ga K "NoPerson")) = some false),
  (Fa.exm "WrongLength" "TooLong" false).ok K,
  decide (kitOne K (.ref (ga K "WrongLength")) (.ref (ga K "TooLong")) = some false),
  (Fa.exm "WrongLength" "NightsError" true).ok K,
  decide (kitOne K (.ref (ga K "WrongLength")) (.ref (ga K "NightsError")) = some true),
  decide (kitOne K (.ref (ga K "WrongLength")) (.type "ValueError") = some true),
  decide (kitOne K (.ref (ga K "Telling")) (.ref (ga K "Telling")) = some true),
  decide (kitOne K (.type "list") (.ref (ga K "Telling")) = some false),
  decide (kitOne K (.type "tuple") (.ref (ga K "Telling")) = some false),
  decide (kitOne K (.type "int") (.ref (ga K "Telling")) = some false)]
def bx (K : Frag) : Bool := (bl K).all fun b => b
abbrev R : OpenRow := OpenLaw.row PySem.Challenge.rw_nightsoff_k02_tellings
abbrev hk : Hook := hookX 6 bx fn er "/claim/cut.py"
def ob (s : SharedT) : AlX := obsXG 6 bx fn er "/claim/cut.py" (HandSHeadRun.getT s)
theorem ob_eq (s : SharedT) : ob s = hk.obs s.abs := obsXG_eq (HandSHeadRun.getT_eq s)
def nm0 : List Str := ["NightsError", "NoPerson", "NamedTwice", "BadNumber", "TooLong", "WrongLength", "MOST_PEOPLE", "check_count", "check_number", "check_numbers", "check_not_negative", "LIMIT", "Telling", "_law_pool", "_law_draw", "_law_int", "_law_same", "_law_entry", "_law_entries", "_law_second", "_law_odd", "_law_loose", "_law_person", "_law_numbers", "_law_due_made", "_law_due_moved", "_law_no_steeper", "_law_due", "_law_worked", "_law_try"]
def nm1 : List Str := ["_law_try_person", "_law_reads", "_law_compared"]
def names : List Str := nm0 ++ nm1
theorem run (w : World) : HandSHeadRun.RunEq R (view R.prog [37]) hk ob 20000 names w := by
  intro os
  kernel_rfl
theorem fact {K : Frag} (c : SaysX bx fn er "/claim/cut.py" K) (i : Nat) {b : Bool} (h : (bl K)[i]? = some b := by rfl) : b = true := List.all_eq_true.mp (SaysX.bool c) b (List.mem_of_getElem? h)
/-! ### where the defs stand, their names, their facts in one bundle -/
abbrev c_NightsError (K : Frag) : Addr := ga K "NightsError"
abbrev c_NoPerson (K : Frag) : Addr := ga K "NoPerson"
abbrev c_NamedTwice (K : Frag) : Addr := ga K "NamedTwice"
abbrev c_BadNumber (K : Frag) : Addr := ga K "BadNumber"
abbrev c_TooLong (K : Frag) : Addr := ga K "TooLong"
abbrev c_WrongLength (K : Frag) : Addr := ga K "WrongLength"
abbrev c_Telling (K : Frag) : Addr := ga K "Telling"
abbrev a_check_count (K : Frag) : Addr := (fun K => ga K "check_count") K
abbrev a_check_number (K : Frag) : Addr := (fun K => ga K "check_number") K
abbrev a_check_numbers (K : Frag) : Addr := (fun K => ga K "check_numbers") K
abbrev a_check_not_negative (K : Frag) : Addr := (fun K => ga K "check_not_negative") K
abbrev a_Telling_init (K : Frag) : Addr := (fun K => ma K (ga K "Telling") "__init__") K
abbrev a_Telling_len (K : Frag) : Addr := (fun K => ma K (ga K "Telling") "__len__") K
abbrev a_Telling_iter (K : Frag) : Addr := (fun K => ma K (ga K "Telling") "__iter__") K
abbrev a_Telling_getitem (K : Frag) : Addr := (fun K => ma K (ga K "Telling") "__getitem__") K
abbrev a_Telling_eq (K : Frag) : Addr := (fun K => ma K (ga K "Telling") "__eq__") K
abbrev a_Telling_lt (K : Frag) : Addr := (fun K => ma K (ga K "Telling") "__lt__") K
abbrev a_Telling_add (K : Frag) : Addr := (fun K => ma K (ga K "Telling") "__add__") K
abbrev a_Telling_mul (K : Frag) : Addr := (fun K => ma K (ga K "Telling") "__mul__") K
abbrev a_Telling_rmul (K : Frag) : Addr := (fun K => ma K (ga K "Telling") "__rmul__") K
abbrev a_Telling_xor (K : Frag) : Addr := (fun K => ma K (ga K "Telling") "__xor__") K
abbrev a_Telling_abs (K : Frag) : Addr := (fun K => ma K (ga K "Telling") "__abs__") K
abbrev a_Telling_no_steeper (K : Frag) : Addr := (fun K => ma K (ga K "Telling") "no_steeper") K
abbrev a_Telling_moved (K : Frag) : Addr := (fun K => ma K (ga K "Telling") "moved") K
abbrev a_Telling_check_place (K : Frag) : Addr := (fun K => ma K (ga K "Telling") "_check_place") K
abbrev a_Telling_check_alike (K : Frag) : Addr := (fun K => ma K (ga K "Telling") "_check_alike") K
abbrev a_law_pool (K : Frag) : Addr := (fun K => ga K "_law_pool") K
abbrev a_law_draw (K : Frag) : Addr := (fun K => ga K "_law_draw") K
abbrev a_law_int (K : Frag) : Addr := (fun K => ga K "_law_int") K
abbrev a_law_same (K : Frag) : Addr := (fun K => ga K "_law_same") K
abbrev a_law_entry (K : Frag) : Addr := (fun K => ga K "_law_entry") K
abbrev a_law_entries (K : Frag) : Addr := (fun K => ga K "_law_entries") K
abbrev a_law_second (K : Frag) : Addr := (fun K => ga K "_law_second") K
abbrev a_law_odd (K : Frag) : Addr := (fun K => ga K "_law_odd") K
abbrev a_law_loose (K : Frag) : Addr := (fun K => ga K "_law_loose") K
abbrev a_law_person (K : Frag) : Addr := (fun K => ga K "_law_person") K
abbrev a_law_numbers (K : Frag) : Addr := (fun K => ga K "_law_numbers") K
abbrev a_law_due_made (K : Frag) : Addr := (fun K => ga K "_law_due_made") K
abbrev a_law_due_moved (K : Frag) : Addr := (fun K => ga K "_law_due_moved") K
abbrev a_law_no_steeper (K : Frag) : Addr := (fun K => ga K "_law_no_steeper") K
abbrev a_law_due (K : Frag) : Addr := (fun K => ga K "_law_due") K
abbrev a_law_worked (K : Frag) : Addr := (fun K => ga K "_law_worked") K
abbrev a_law_try (K : Frag) : Addr := (fun K => ga K "_law_try") K
abbrev a_law_try_person (K : Frag) : Addr := (fun K => ga K "_law_try_person") K
abbrev a_law_reads (K : Frag) : Addr := (fun K => ga K "_law_reads") K
abbrev a_law_compared (K : Frag) : Addr := (fun K => ga K "_law_compared") K
abbrev a_law (K : Frag) : Addr := (fun K => ga K "law") K
abbrev i_NoPerson (K : Frag) : Addr := ma K (ga K "NoPerson") "__init__"
abbrev i_NamedTwice (K : Frag) : Addr := ma K (ga K "NamedTwice") "__init__"
abbrev i_BadNumber (K : Frag) : Addr := ma K (ga K "BadNumber") "__init__"
abbrev i_TooLong (K : Frag) : Addr := ma K (ga K "TooLong") "__init__"
abbrev i_WrongLength (K : Frag) : Addr := ma K (ga K "WrongLength") "__init__"
abbrev n_check_count : List Str := ["count", "most"]
abbrev p_check_count : List Str := ["count", "most"]
theorem sc_check_count : FnScope n_check_count p_check_count (defScope s_check_count) := ⟨rfl, rfl, rfl, by decide +kernel, rfl, by decide +kernel, by decide +kernel⟩
abbrev n_check_number : List Str := ["place", "number", "greatest"]
abbrev p_check_number : List Str := ["place", "number", "greatest"]
theorem sc_check_number : FnScope n_check_number p_check_number (defScope s_check_number) := ⟨rfl, rfl, rfl, by decide +kernel, rfl, by decide +kernel, by decide +kernel⟩
abbrev n_check_numbers : List Str := ["numbers", "greatest", "index", "number"]
abbrev p_check_numbers : List Str := ["numbers", "greatest"]
theorem sc_check_numbers : FnScope n_check_numbers p_check_numbers (defScope s_check_numbers) := ⟨rfl, rfl, rfl, by decide +kernel, rfl, by decide +kernel, by decide +kernel⟩
abbrev n_check_not_negative : List Str := ["number"]
abbrev p_check_not_negative : List Str := ["number"]
theorem sc_check_not_negative : FnScope n_check_not_negative p_check_not_negative (defScope s_check_not_negative) := ⟨rfl, rfl, rfl, by decide +kernel, rfl, by decide +kernel, by decide +kernel⟩
abbrev n_Telling_init : List Str := ["self", "entries"]
abbrev p_Telling_init : List Str := ["self", "entries"]
theorem sc_Telling_init : FnScope n_Telling_init p_Telling_init (defScope s_Telling_init) := ⟨rfl, rfl, rfl, by decide +kernel, rfl, by decide +kernel, by decide +kernel⟩
abbrev n_Telling_len : List Str := ["self"]
abbrev p_Telling_len : List Str := ["self"]
theorem sc_Telling_len : FnScope n_Telling_len p_Telling_len (defScope s_Telling_len) := ⟨rfl, rfl, rfl, by decide +kernel, rfl, by decide +kernel, by decide +kernel⟩
abbrev n_Telling_iter : List Str := ["self"]
abbrev p_Telling_iter : List Str := ["self"]
theorem sc_Telling_iter : FnScope n_Telling_iter p_Telling_iter (defScope s_Telling_iter) := ⟨rfl, rfl, rfl, by decide +kernel, rfl, by decide +kernel, by decide +kernel⟩
abbrev n_Telling_getitem : List Str := ["self", "at"]
abbrev p_Telling_getitem : List Str := ["self", "at"]
theorem sc_Telling_getitem : FnScope n_Telling_getitem p_Telling_getitem (defScope s_Telling_getitem) := ⟨rfl, rfl, rfl, by decide +kernel, rfl, by decide +kernel, by decide +kernel⟩
abbrev n_Telling_eq : List Str := ["self", "other"]
abbrev p_Telling_eq : List Str := ["self", "other"]
theorem sc_Telling_eq : FnScope n_Telling_eq p_Telling_eq (defScope s_Telling_eq) := ⟨rfl, rfl, rfl, by decide +kernel, rfl, by decide +kernel, by decide +kernel⟩
abbrev n_Telling_lt : List Str := ["self", "other"]
abbrev p_Telling_lt : List Str := ["self", "other"]
theorem sc_Telling_lt : FnScope n_Telling_lt p_Telling_lt (defScope s_Telling_lt) := ⟨rfl, rfl, rfl, by decide +kernel, rfl, by decide +kernel, by decide +kernel⟩
abbrev n_Telling_add : List Str := ["self", "other", "one", "two"]
abbrev p_Telling_add : List Str := ["self", "other"]
theorem sc_Telling_add : FnScope n_Telling_add p_Telling_add (defScope s_Telling_add) := ⟨rfl, rfl, rfl, by decide +kernel, rfl, by decide +kernel, by decide +kernel⟩
abbrev n_Telling_mul : List Str := ["self", "other", "entry"]
abbrev p_Telling_mul : List Str := ["self", "other"]
theorem sc_Telling_mul : FnScope n_Telling_mul p_Telling_mul (defScope s_Telling_mul) := ⟨rfl, rfl, rfl, by decide +kernel, rfl, by decide +kernel, by decide +kernel⟩
abbrev n_Telling_rmul : List Str := ["self", "other"]
abbrev p_Telling_rmul : List Str := ["self", "other"]
theorem sc_Telling_rmul : FnScope n_Telling_rmul p_Telling_rmul (defScope s_Telling_rmul) := ⟨rfl, rfl, rfl, by decide +kernel, rfl, by decide +kernel, by decide +kernel⟩
abbrev n_Telling_xor : List Str := ["self", "other", "one", "two"]
abbrev p_Telling_xor : List Str := ["self", "other"]
theorem sc_Telling_xor : FnScope n_Telling_xor p_Telling_xor (defScope s_Telling_xor) := ⟨rfl, rfl, rfl, by decide +kernel, rfl, by decide +kernel, by decide +kernel⟩
abbrev n_Telling_abs : List Str := ["self"]
abbrev p_Telling_abs : List Str := ["self"]
theorem sc_Telling_abs : FnScope n_Telling_abs p_Telling_abs (defScope s_Telling_abs) := ⟨rfl, rfl, rfl, by decide +kernel, rfl, by decide +kernel, by decide +kernel⟩
abbrev n_Telling_no_steeper : List Str := ["self", "other", "ahead", "mine", "theirs", "one", "two"]
abbrev p_Telling_no_steeper : List Str := ["self", "other"]
theorem sc_Telling_no_steeper : FnScope n_Telling_no_steeper p_Telling_no_steeper (defScope s_Telling_no_steeper) := ⟨rfl, rfl, rfl, by decide +kernel, rfl, by decide +kernel, by decide +kernel⟩
abbrev n_Telling_moved : List Str := ["self", "giver", "taker", "count", "entries"]
abbrev p_Telling_moved : List Str := ["self", "giver", "taker", "count"]
theorem sc_Telling_moved : FnScope n_Telling_moved p_Telling_moved (defScope s_Telling_moved) := ⟨rfl, rfl, rfl, by decide +kernel, rfl, by decide +kernel, by decide +kernel⟩
abbrev n_Telling_check_place : List Str := ["self", "person"]
abbrev p_Telling_check_place : List Str := ["self", "person"]
theorem sc_Telling_check_place : FnScope n_Telling_check_place p_Telling_check_place (defScope s_Telling_check_place) := ⟨rfl, rfl, rfl, by decide +kernel, rfl, by decide +kernel, by decide +kernel⟩
abbrev n_Telling_check_alike : List Str := ["self", "other"]
abbrev p_Telling_check_alike : List Str := ["self", "other"]
theorem sc_Telling_check_alike : FnScope n_Telling_check_alike p_Telling_check_alike (defScope s_Telling_check_alike) := ⟨rfl, rfl, rfl, by decide +kernel, rfl, by decide +kernel, by decide +kernel⟩
abbrev n_law_pool : List Str := ["script", "at", "cell"]
abbrev p_law_pool : List Str := ["script", "at"]
theorem sc_law_pool : FnScope n_law_pool p_law_pool (defScope s_law_pool) := ⟨rfl, rfl, rfl, by decide +kernel, rfl, by decide +kernel, by decide +kernel⟩
abbrev n_law_draw : List Str := ["pool", "many", "value", "mixed"]
abbrev p_law_draw : List Str := ["pool", "many"]
theorem sc_law_draw : FnScope n_law_draw p_law_draw (defScope s_law_draw) := ⟨rfl, rfl, rfl, by decide +kernel, rfl, by decide +kernel, by decide +kernel⟩
abbrev n_law_int : List Str := ["x"]
abbrev p_law_int : List Str := ["x"]
theorem sc_law_int : FnScope n_law_int p_law_int (defScope s_law_int) := ⟨rfl, rfl, rfl, by decide +kernel, rfl, by decide +kernel, by decide +kernel⟩
abbrev n_law_same : List Str := ["got", "due", "place"]
abbrev p_law_same : List Str := ["got", "due"]
theorem sc_law_same : FnScope n_law_same p_law_same (defScope s_law_same) := ⟨rfl, rfl, rfl, by decide +kernel, rfl, by decide +kernel, by decide +kernel⟩
abbrev n_law_entry : List Str := ["pool", "way"]
abbrev p_law_entry : List Str := ["pool"]
theorem sc_law_entry : FnScope n_law_entry p_law_entry (defScope s_law_entry) := ⟨rfl, rfl, rfl, by decide +kernel, rfl, by decide +kernel, by decide +kernel⟩
abbrev n_law_entries : List Str := ["pool", "many", "place"]
abbrev p_law_entries : List Str := ["pool"]
theorem sc_law_entries : FnScope n_law_entries p_law_entries (defScope s_law_entries) := ⟨rfl, rfl, rfl, by decide +kernel, rfl, by decide +kernel, by decide +kernel⟩
abbrev n_law_second : List Str := ["pool", "row", "way", "place", "second", "turn", "giver", "taker", "moved"]
abbrev p_law_second : List Str := ["pool", "row"]
theorem sc_law_second : FnScope n_law_second p_law_second (defScope s_law_second) := ⟨rfl, rfl, rfl, by decide +kernel, rfl, by decide +kernel, by decide +kernel⟩
abbrev n_law_odd : List Str := ["pool", "way"]
abbrev p_law_odd : List Str := ["pool"]
theorem sc_law_odd : FnScope n_law_odd p_law_odd (defScope s_law_odd) := ⟨rfl, rfl, rfl, by decide +kernel, rfl, by decide +kernel, by decide +kernel⟩
abbrev n_law_loose : List Str := ["pool", "many", "style", "place", "row"]
abbrev p_law_loose : List Str := ["pool"]
theorem sc_law_loose : FnScope n_law_loose p_law_loose (defScope s_law_loose) := ⟨rfl, rfl, rfl, by decide +kernel, rfl, by decide +kernel, by decide +kernel⟩
abbrev n_law_person : List Str := ["pool", "many"]
abbrev p_law_person : List Str := ["pool", "many"]
theorem sc_law_person : FnScope n_law_person p_law_person (defScope s_law_person) := ⟨rfl, rfl, rfl, by decide +kernel, rfl, by decide +kernel, by decide +kernel⟩
abbrev n_law_numbers : List Str := ["pool", "row", "numbers", "entry", "way"]
abbrev p_law_numbers : List Str := ["pool", "row"]
theorem sc_law_numbers : FnScope n_law_numbers p_law_numbers (defScope s_law_numbers) := ⟨rfl, rfl, rfl, by decide +kernel, rfl, by decide +kernel, by decide +kernel⟩
abbrev n_law_due_made : List Str := ["row", "place"]
abbrev p_law_due_made : List Str := ["row"]
theorem sc_law_due_made : FnScope n_law_due_made p_law_due_made (defScope s_law_due_made) := ⟨rfl, rfl, rfl, by decide +kernel, rfl, by decide +kernel, by decide +kernel⟩
abbrev n_law_due_moved : List Str := ["row", "giver", "taker", "many", "person", "moved"]
abbrev p_law_due_moved : List Str := ["row", "giver", "taker", "many"]
theorem sc_law_due_moved : FnScope n_law_due_moved p_law_due_moved (defScope s_law_due_moved) := ⟨rfl, rfl, rfl, by decide +kernel, rfl, by decide +kernel, by decide +kernel⟩
abbrev n_law_no_steeper : List Str := ["row", "other_row", "high", "entry", "bound", "many"]
abbrev p_law_no_steeper : List Str := ["row", "other_row"]
theorem sc_law_no_steeper : FnScope n_law_no_steeper p_law_no_steeper (defScope s_law_no_steeper) := ⟨rfl, rfl, rfl, by decide +kernel, rfl, by decide +kernel, by decide +kernel⟩
abbrev n_law_due : List Str := ["way", "row", "other_row", "numbers", "entry", "place"]
abbrev p_law_due : List Str := ["way", "row", "other_row", "numbers"]
theorem sc_law_due : FnScope n_law_due p_law_due (defScope s_law_due) := ⟨rfl, rfl, rfl, by decide +kernel, rfl, by decide +kernel, by decide +kernel⟩
abbrev n_law_worked : List Str := ["way", "one", "other", "numbers"]
abbrev p_law_worked : List Str := ["way", "one", "other", "numbers"]
theorem sc_law_worked : FnScope n_law_worked p_law_worked (defScope s_law_worked) := ⟨rfl, rfl, rfl, by decide +kernel, rfl, by decide +kernel, by decide +kernel⟩
abbrev n_law_try : List Str := ["way", "one", "other", "numbers", "told", "word", "e", "strange"]
abbrev p_law_try : List Str := ["way", "one", "other", "numbers"]
theorem sc_law_try : FnScope n_law_try p_law_try (defScope s_law_try) := ⟨rfl, rfl, rfl, by decide +kernel, rfl, by decide +kernel, by decide +kernel⟩
abbrev n_law_try_person : List Str := ["telling", "person", "entry", "word", "e"]
abbrev p_law_try_person : List Str := ["telling", "person"]
theorem sc_law_try_person : FnScope n_law_try_person p_law_try_person (defScope s_law_try_person) := ⟨rfl, rfl, rfl, by decide +kernel, rfl, by decide +kernel, by decide +kernel⟩
abbrev n_law_reads : List Str := ["telling", "row", "entry", "person", "due", "other"]
abbrev p_law_reads : List Str := ["telling", "row"]
theorem sc_law_reads : FnScope n_law_reads p_law_reads (defScope s_law_reads) := ⟨rfl, rfl, rfl, by decide +kernel, rfl, by decide +kernel, by decide +kernel⟩
abbrev n_law_compared : List Str := ["one", "other", "row", "other_row"]
abbrev p_law_compared : List Str := ["one", "other", "row", "other_row"]
theorem sc_law_compared : FnScope n_law_compared p_law_compared (defScope s_law_compared) := ⟨rfl, rfl, rfl, by decide +kernel, rfl, by decide +kernel, by decide +kernel⟩
abbrev n_law : List Str := ["script", "first", "rows", "given", "tellings", "pool", "pair", "one", "other", "row", "other_row", "numbers", "way", "due", "twin", "loose"]
abbrev p_law : List Str := ["script"]
theorem sc_law : FnScope n_law p_law (defScope s_law) := ⟨rfl, rfl, rfl, by decide +kernel, rfl, by decide +kernel, by decide +kernel⟩
theorem bi_check_count {K : Frag} {fd : FuncData} (F : FunD K "check_count" "check_count" (defArgs s_check_count) (defBody s_check_count) (defScope s_check_count) [] [] (a_check_count K) fd) : Binds K fd p_check_count [] := F.bindsN fun _ _ _ _ _ _ us hl => (match us, hl with | [_, _], _ => rfl)
theorem bi_check_number {K : Frag} {fd : FuncData} (F : FunD K "check_number" "check_number" (defArgs s_check_number) (defBody s_check_number) (defScope s_check_number) [] [] (a_check_number K) fd) : Binds K fd p_check_number [] := F.bindsN fun _ _ _ _ _ _ us hl => (match us, hl with | [_, _, _], _ => rfl)
theorem bi_check_numbers {K : Frag} {fd : FuncData} (F : FunD K "check_numbers" "check_numbers" (defArgs s_check_numbers) (defBody s_check_numbers) (defScope s_check_numbers) [] [] (a_check_numbers K) fd) : Binds K fd p_check_numbers [] := F.bindsN fun _ _ _ _ _ _ us hl => (match us, hl with | [_, _], _ => rfl)
theorem bi_check_not_negative {K : Frag} {fd : FuncData} (F : FunD K "check_not_negative" "check_not_negative" (defArgs s_check_not_negative) (defBody s_check_not_negative) (defScope s_check_not_negative) [] [] (a_check_not_negative K) fd) : Binds K fd p_check_not_negative [] := F.bindsN fun _ _ _ _ _ _ us hl => (match us, hl with | [_], _ => rfl)
theorem bi_Telling_init {K : Frag} {fd : FuncData} (F : FunD K "__init__" "Telling.__init__" (defArgs s_Telling_init) (defBody s_Telling_init) (defScope s_Telling_init) [] [] (a_Telling_init K) fd) : Binds K fd p_Telling_init [] := F.bindsN fun _ _ _ _ _ _ us hl => (match us, hl with | [_, _], _ => rfl)
theorem bi_Telling_len {K : Frag} {fd : FuncData} (F : FunD K "__len__" "Telling.__len__" (defArgs s_Telling_len) (defBody s_Telling_len) (defScope s_Telling_len) [] [] (a_Telling_len K) fd) : Binds K fd p_Telling_len [] := F.bindsN fun _ _ _ _ _ _ us hl => (match us, hl with | [_], _ => rfl)
theorem bi_Telling_iter {K : Frag} {fd : FuncData} (F : FunD K "__iter__" "Telling.__iter__" (defArgs s_Telling_iter) (defBody s_Telling_iter) (defScope s_Telling_iter) [] [] (a_Telling_iter K) fd) : Binds K fd p_Telling_iter [] := F.bindsN fun _ _ _ _ _ _ us hl => (match us, hl with | [_], _ => rfl)
theorem bi_Telling_getitem {K : Frag} {fd : FuncData} (F : FunD K "__getitem__" "Telling.__getitem__" (defArgs s_Telling_getitem) (defBody s_Telling_getitem) (defScope s_Telling_getitem) [] [] (a_Telling_getitem K) fd) : Binds K fd p_Telling_getitem [] := F.bindsN fun _ _ _ _ _ _ us hl => (match us, hl with | [_, _], _ => rfl)
theorem bi_Telling_eq {K : Frag} {fd : FuncData} (F : FunD K "__eq__" "Telling.__eq__" (defArgs s_Telling_eq) (defBody s_Telling_eq) (defScope s_Telling_eq) [] [] (a_Telling_eq K) fd) : Binds K fd p_Telling_eq [] := F.bindsN fun _ _ _ _ _ _ us hl => (match us, hl with | [_, _], _ => rfl)
theorem bi_Telling_lt {K : Frag} {fd : FuncData} (F : FunD K "__lt__" "Telling.__lt__" (defArgs s_Telling_lt) (defBody s_Telling_lt) (defScope s_Telling_lt) [] [] (a_Telling_lt K) fd) : Binds K fd p_Telling_lt [] := F.bindsN fun _ _ _ _ _ _ us hl => (match us, hl with | [_, _], _ => rfl)
theorem bi_Telling_add {K : Frag} {fd : FuncData} (F : FunD K "__add__" "Telling.__add__" (defArgs s_Telling_add) (defBody s_Telling_add) (defScope s_Telling_add) [] [] (a_Telling_add K) fd) : Binds K fd p_Telling_add [] := F.bindsN fun _ _ _ _ _ _ us hl => (match us, hl with | [_, _], _ => rfl)
theorem bi_Telling_mul {K : Frag} {fd : FuncData} (F : FunD K "__mul__" "Telling.__mul__" (defArgs s_Telling_mul) (defBody s_Telling_mul) (defScope s_Telling_mul) [] [] (a_Telling_mul K) fd) : Binds K fd p_Telling_mul [] := F.bindsN fun _ _ _ _ _ _ us hl => (match us, hl with | [_, _], _ => rfl)
theorem bi_Telling_rmul {K : Frag} {fd : FuncData} (F : FunD K "__rmul__" "Telling.__rmul__" (defArgs s_Telling_rmul) (defBody s_Telling_rmul) (defScope s_Telling_rmul) [] [] (a_Telling_rmul K) fd) : Binds K fd p_Telling_rmul [] := F.bindsN fun _ _ _ _ _ _ us hl => (match us, hl with | [_, _], _ => rfl)
theorem bi_Telling_xor {K : Frag} {fd : FuncData} (F : FunD K "__xor__" "Telling.__xor__" (defArgs s_Telling_xor) (defBody s_Telling_xor) (defScope s_Telling_xor) [] [] (a_Telling_xor K) fd) : Binds K fd p_Telling_xor [] := F.bindsN fun _ _ _ _ _ _ us hl => (match us, hl with | [_, _], _ => rfl)
theorem bi_Telling_abs {K : Frag} {fd : FuncData} (F : FunD K "__abs__" "Telling.__abs__" (defArgs s_Telling_abs) (defBody s_Telling_abs) (defScope s_Telling_abs) [] [] (a_Telling_abs K) fd) : Binds K fd p_Telling_abs [] := F.bindsN fun _ _ _ _ _ _ us hl => (match us, hl with | [_], _ => rfl)
theorem bi_Telling_no_steeper {K : Frag} {fd : FuncData} (F : FunD K "no_steeper" "Telling.no_steeper" (defArgs s_Telling_no_steeper) (defBody s_Telling_no_steeper) (defScope s_Telling_no_steeper) [] [] (a_Telling_no_steeper K) fd) : Binds K fd p_Telling_no_steeper [] := F.bindsN fun _ _ _ _ _ _ us hl => (match us, hl with | [_, _], _ => rfl)
theorem bi_Telling_check_place {K : Frag} {fd : FuncData} (F : FunD K "_check_place" "Telling._check_place" (defArgs s_Telling_check_place) (defBody s_Telling_check_place) (defScope s_Telling_check_place) [] [] (a_Telling_check_place K) fd) : Binds K fd p_Telling_check_place [] := F.bindsN fun _ _ _ _ _ _ us hl => (match us, hl with | [_, _], _ => rfl)
theorem bi_Telling_check_alike {K : Frag} {fd : FuncData} (F : FunD K "_check_alike" "Telling._check_alike" (defArgs s_Telling_check_alike) (defBody s_Telling_check_alike) (defScope s_Telling_check_alike) [] [] (a_Telling_check_alike K) fd) : Binds K fd p_Telling_check_alike [] := F.bindsN fun _ _ _ _ _ _ us hl => (match us, hl with | [_, _], _ => rfl)
theorem bi_law_pool {K : Frag} {fd : FuncData} (F : FunD K "_law_pool" "_law_pool" (defArgs s_law_pool) (defBody s_law_pool) (defScope s_law_pool) [] [] (a_law_pool K) fd) : Binds K fd p_law_pool [] := F.bindsN fun _ _ _ _ _ _ us hl => (match us, hl with | [_, _], _ => rfl)
theorem bi_law_draw {K : Frag} {fd : FuncData} (F : FunD K "_law_draw" "_law_draw" (defArgs s_law_draw) (defBody s_law_draw) (defScope s_law_draw) [] [] (a_law_draw K) fd) : Binds K fd p_law_draw [] := F.bindsN fun _ _ _ _ _ _ us hl => (match us, hl with | [_, _], _ => rfl)
theorem bi_law_int {K : Frag} {fd : FuncData} (F : FunD K "_law_int" "_law_int" (defArgs s_law_int) (defBody s_law_int) (defScope s_law_int) [] [] (a_law_int K) fd) : Binds K fd p_law_int [] := F.bindsN fun _ _ _ _ _ _ us hl => (match us, hl with | [_], _ => rfl)
theorem bi_law_same {K : Frag} {fd : FuncData} (F : FunD K "_law_same" "_law_same" (defArgs s_law_same) (defBody s_law_same) (defScope s_law_same) [] [] (a_law_same K) fd) : Binds K fd p_law_same [] := F.bindsN fun _ _ _ _ _ _ us hl => (match us, hl with | [_, _], _ => rfl)
theorem bi_law_entry {K : Frag} {fd : FuncData} (F : FunD K "_law_entry" "_law_entry" (defArgs s_law_entry) (defBody s_law_entry) (defScope s_law_entry) [] [] (a_law_entry K) fd) : Binds K fd p_law_entry [] := F.bindsN fun _ _ _ _ _ _ us hl => (match us, hl with | [_], _ => rfl)
theorem bi_law_entries {K : Frag} {fd : FuncData} (F : FunD K "_law_entries" "_law_entries" (defArgs s_law_entries) (defBody s_law_entries) (defScope s_law_entries) [] [] (a_law_entries K) fd) : Binds K fd p_law_entries [] := F.bindsN fun _ _ _ _ _ _ us hl => (match us, hl with | [_], _ => rfl)
theorem bi_law_second {K : Frag} {fd : FuncData} (F : FunD K "_law_second" "_law_second" (defArgs s_law_second) (defBody s_law_second) (defScope s_law_second) [] [] (a_law_second K) fd) : Binds K fd p_law_second [] := F.bindsN fun _ _ _ _ _ _ us hl => (match us, hl with | [_, _], _ => rfl)
theorem bi_law_odd {K : Frag} {fd : FuncData} (F : FunD K "_law_odd" "_law_odd" (defArgs s_law_odd) (defBody s_law_odd) (defScope s_law_odd) [] [] (a_law_odd K) fd) : Binds K fd p_law_odd [] := F.bindsN fun _ _ _ _ _ _ us hl => (match us, hl with | [_], _ => rfl)
theorem bi_law_loose {K : Frag} {fd : FuncData} (F : FunD K "_law_loose" "_law_loose" (defArgs s_law_loose) (defBody s_law_loose) (defScope s_law_loose) [] [] (a_law_loose K) fd) : Binds K fd p_law_loose [] := F.bindsN fun _ _ _ _ _ _ us hl => (match us, hl with | [_], _ => rfl)
theorem bi_law_person {K : Frag} {fd : FuncData} (F : FunD K "_law_person" "_law_person" (defArgs s_law_person) (defBody s_law_person) (defScope s_law_person) [] [] (a_law_person K) fd) : Binds K fd p_law_person [] := F.bindsN fun _ _ _ _ _ _ us hl => (match us, hl with | [_, _], _ => rfl)
theorem bi_law_numbers {K : Frag} {fd : FuncData} (F : FunD K "_law_numbers" "_law_numbers" (defArgs s_law_numbers) (defBody s_law_numbers) (defScope s_law_numbers) [] [] (a_law_numbers K) fd) : Binds K fd p_law_numbers [] := F.bindsN fun _ _ _ _ _ _ us hl => (match us, hl with | [_, _], _ => rfl)
theorem bi_law_due_made {K : Frag} {fd : FuncData} (F : FunD K "_law_due_made" "_law_due_made" (defArgs s_law_due_made) (defBody s_law_due_made) (defScope s_law_due_made) [] [] (a_law_due_made K) fd) : Binds K fd p_law_due_made [] := F.bindsN fun _ _ _ _ _ _ us hl => (match us, hl with | [_], _ => rfl)
theorem bi_law_due_moved {K : Frag} {fd : FuncData} (F : FunD K "_law_due_moved" "_law_due_moved" (defArgs s_law_due_moved) (defBody s_law_due_moved) (defScope s_law_due_moved) [] [] (a_law_due_moved K) fd) : Binds K fd p_law_due_moved [] := F.bindsN fun _ _ _ _ _ _ us hl => (match us, hl with | [_, _, _, _], _ => rfl)
theorem bi_law_no_steeper {K : Frag} {fd : FuncData} (F : FunD K "_law_no_steeper" "_law_no_steeper" (defArgs s_law_no_steeper) (defBody s_law_no_steeper) (defScope s_law_no_steeper) [] [] (a_law_no_steeper K) fd) : Binds K fd p_law_no_steeper [] := F.bindsN fun _ _ _ _ _ _ us hl => (match us, hl with | [_, _], _ => rfl)
theorem bi_law_due {K : Frag} {fd : FuncData} (F : FunD K "_law_due" "_law_due" (defArgs s_law_due) (defBody s_law_due) (defScope s_law_due) [] [] (a_law_due K) fd) : Binds K fd p_law_due [] := F.bindsN fun _ _ _ _ _ _ us hl => (match us, hl with | [_, _, _, _], _ => rfl)
theorem bi_law_worked {K : Frag} {fd : FuncData} (F : FunD K "_law_worked" "_law_worked" (defArgs s_law_worked) (defBody s_law_worked) (defScope s_law_worked) [] [] (a_law_worked K) fd) : Binds K fd p_law_worked [] := F.bindsN fun _ _ _ _ _ _ us hl => (match us, hl with | [_, _, _, _], _ => rfl)
theorem bi_law_try {K : Frag} {fd : FuncData} (F : FunD K "_law_try" "_law_try" (defArgs s_law_try) (defBody s_law_try) (defScope s_law_try) [] [] (a_law_try K) fd) : Binds K fd p_law_try [] := F.bindsN fun _ _ _ _ _ _ us hl => (match us, hl with | [_, _, _, _], _ => rfl)
theorem bi_law_try_person {K : Frag} {fd : FuncData} (F : FunD K "_law_try_person" "_law_try_person" (defArgs s_law_try_person) (defBody s_law_try_person) (defScope s_law_try_person) [] [] (a_law_try_person K) fd) : Binds K fd p_law_try_person [] := F.bindsN fun _ _ _ _ _ _ us hl => (match us, hl with | [_, _], _ => rfl)
theorem bi_law_reads {K : Frag} {fd : FuncData} (F : FunD K "_law_reads" "_law_reads" (defArgs s_law_reads) (defBody s_law_reads) (defScope s_law_reads) [] [] (a_law_reads K) fd) : Binds K fd p_law_reads [] := F.bindsN fun _ _ _ _ _ _ us hl => (match us, hl with | [_, _], _ => rfl)
theorem bi_law_compared {K : Frag} {fd : FuncData} (F : FunD K "_law_compared" "_law_compared" (defArgs s_law_compared) (defBody s_law_compared) (defScope s_law_compared) [] [] (a_law_compared K) fd) : Binds K fd p_law_compared [] := F.bindsN fun _ _ _ _ _ _ us hl => (match us, hl with | [_, _, _, _], _ => rfl)
theorem bi_law {K : Frag} {fd : FuncData} (F : FunD K "law" "law" (defArgs s_law) (defBody s_law) (defScope s_law) [] [] (a_law K) fd) : Binds K fd p_law [] := F.bindsN fun _ _ _ _ _ _ us hl => (match us, hl with | [_], _ => rfl)
structure Tx (K : Frag) (mg : Str → Option Value) : Prop where
  any : nsIn K cStatics "thirdparty.any" = some none
  m_super : mg "super" = none
  m_len : mg "len" = none
  m_enumerate : mg "enumerate" = none
  m_tuple : mg "tuple" = none
  m_iter : mg "iter" = none
  m_sum : mg "sum" = none
  m_abs : mg "abs" = none
  m_int : mg "int" = none
  m_range : mg "range" = none
  m_isinstance : mg "isinstance" = none
  m_bool : mg "bool" = none
  m_str : mg "str" = none
  m_list : mg "list" = none
  m_zip : mg "zip" = none
  m_sorted : mg "sorted" = none
  m_NotImplemented : mg "NotImplemented" = none
  m_ValueError : mg "ValueError" = none
  m_max : mg "max" = none
  m_min : mg "min" = none
  g_check_count : mg "check_count" = some (.ref (a_check_count K))
  g_check_number : mg "check_number" = some (.ref (a_check_number K))
  g_check_numbers : mg "check_numbers" = some (.ref (a_check_numbers K))
  g_check_not_negative : mg "check_not_negative" = some (.ref (a_check_not_negative K))
  g_law_pool : mg "_law_pool" = some (.ref (a_law_pool K))
  g_law_draw : mg "_law_draw" = some (.ref (a_law_draw K))
  g_law_int : mg "_law_int" = some (.ref (a_law_int K))
  g_law_same : mg "_law_same" = some (.ref (a_law_same K))
  g_law_entry : mg "_law_entry" = some (.ref (a_law_entry K))
  g_law_entries : mg "_law_entries" = some (.ref (a_law_entries K))
  g_law_second : mg "_law_second" = some (.ref (a_law_second K))
  g_law_odd : mg "_law_odd" = some (.ref (a_law_odd K))
  g_law_loose : mg "_law_loose" = some (.ref (a_law_loose K))
  g_law_person : mg "_law_person" = some (.ref (a_law_person K))
  g_law_numbers : mg "_law_numbers" = some (.ref (a_law_numbers K))
  g_law_due_made : mg "_law_due_made" = some (.ref (a_law_due_made K))
  g_law_due_moved : mg "_law_due_moved" = some (.ref (a_law_due_moved K))
  g_law_no_steeper : mg "_law_no_steeper" = some (.ref (a_law_no_steeper K))
  g_law_due : mg "_law_due" = some (.ref (a_law_due K))
  g_law_worked : mg "_law_worked" = some (.ref (a_law_worked K))
  g_law_try : mg "_law_try" = some (.ref (a_law_try K))
  g_law_try_person : mg "_law_try_person" = some (.ref (a_law_try_person K))
  g_law_reads : mg "_law_reads" = some (.ref (a_law_reads K))
  g_law_compared : mg "_law_compared" = some (.ref (a_law_compared K))
  g_law : mg "law" = some (.ref (a_law K))
  f_check_count : ∃ fd, FunD K "check_count" "check_count" (defArgs s_check_count) (defBody s_check_count) (defScope s_check_count) [] [] (a_check_count K) fd
  f_check_number : ∃ fd, FunD K "check_number" "check_number" (defArgs s_check_number) (defBody s_check_number) (defScope s_check_number) [] [] (a_check_number K) fd
  f_check_numbers : ∃ fd, FunD K "check_numbers" "check_numbers" (defArgs s_check_numbers) (defBody s_check_numbers) (defScope s_check_numbers) [] [] (a_check_numbers K) fd
  f_check_not_negative : ∃ fd, FunD K "check_not_negative" "check_not_negative" (defArgs s_check_not_negative) (defBody s_check_not_negative) (defScope s_check_not_negative) [] [] (a_check_not_negative K) fd
  f_Telling_init : ∃ fd, FunD K "__init__" "Telling.__init__" (defArgs s_Telling_init) (defBody s_Telling_init) (defScope s_Telling_init) [] [] (a_Telling_init K) fd
  f_Telling_len : ∃ fd, FunD K "__len__" "Telling.__len__" (defArgs s_Telling_len) (defBody s_Telling_len) (defScope s_Telling_len) [] [] (a_Telling_len K) fd
  f_Telling_iter : ∃ fd, FunD K "__iter__" "Telling.__iter__" (defArgs s_Telling_iter) (defBody s_Telling_iter) (defScope s_Telling_iter) [] [] (a_Telling_iter K) fd
  f_Telling_getitem : ∃ fd, FunD K "__getitem__" "Telling.__getitem__" (defArgs s_Telling_getitem) (defBody s_Telling_getitem) (defScope s_Telling_getitem) [] [] (a_Telling_getitem K) fd
  f_Telling_eq : ∃ fd, FunD K "__eq__" "Telling.__eq__" (defArgs s_Telling_eq) (defBody s_Telling_eq) (defScope s_Telling_eq) [] [] (a_Telling_eq K) fd
  f_Telling_lt : ∃ fd, FunD K "__lt__" "Telling.__lt__" (defArgs s_Telling_lt) (defBody s_Telling_lt) (defScope s_Telling_lt) [] [] (a_Telling_lt K) fd
  f_Telling_add : ∃ fd, FunD K "__add__" "Telling.__add__" (defArgs s_Telling_add) (defBody s_Telling_add) (defScope s_Telling_add) [] [] (a_Telling_add K) fd
  f_Telling_mul : ∃ fd, FunD K "__mul__" "Telling.__mul__" (defArgs s_Telling_mul) (defBody s_Telling_mul) (defScope s_Telling_mul) [] [] (a_Telling_mul K) fd
  f_Telling_rmul : ∃ fd, FunD K "__rmul__" "Telling.__rmul__" (defArgs s_Telling_rmul) (defBody s_Telling_rmul) (defScope s_Telling_rmul) [] [] (a_Telling_rmul K) fd
  f_Telling_xor : ∃ fd, FunD K "__xor__" "Telling.__xor__" (defArgs s_Telling_xor) (defBody s_Telling_xor) (defScope s_Telling_xor) [] [] (a_Telling_xor K) fd
  f_Telling_abs : ∃ fd, FunD K "__abs__" "Telling.__abs__" (defArgs s_Telling_abs) (defBody s_Telling_abs) (defScope s_Telling_abs) [] [] (a_Telling_abs K) fd
  f_Telling_no_steeper : ∃ fd, FunD K "no_steeper" "Telling.no_steeper" (defArgs s_Telling_no_steeper) (defBody s_Telling_no_steeper) (defScope s_Telling_no_steeper) [] [] (a_Telling_no_steeper K) fd
  f_Telling_moved : ∃ fd, FunD K "moved" "Telling.moved" (defArgs s_Telling_moved) (defBody s_Telling_moved) (defScope s_Telling_moved) [.int (1)] [] (a_Telling_moved K) fd
  f_Telling_check_place : ∃ fd, FunD K "_check_place" "Telling._check_place" (defArgs s_Telling_check_place) (defBody s_Telling_check_place) (defScope s_Telling_check_place) [] [] (a_Telling_check_place K) fd
  f_Telling_check_alike : ∃ fd, FunD K "_check_alike" "Telling._check_alike" (defArgs s_Telling_check_alike) (defBody s_Telling_check_alike) (defScope s_Telling_check_alike) [] [] (a_Telling_check_alike K) fd
  f_law_pool : ∃ fd, FunD K "_law_pool" "_law_pool" (defArgs s_law_pool) (defBody s_law_pool) (defScope s_law_pool) [] [] (a_law_pool K) fd
  f_law_draw : ∃ fd, FunD K "_law_draw" "_law_draw" (defArgs s_law_draw) (defBody s_law_draw) (defScope s_law_draw) [] [] (a_law_draw K) fd
  f_law_int : ∃ fd, FunD K "_law_int" "_law_int" (defArgs s_law_int) (defBody s_law_int) (defScope s_law_int) [] [] (a_law_int K) fd
  f_law_same : ∃ fd, FunD K "_law_same" "_law_same" (defArgs s_law_same) (defBody s_law_same) (defScope s_law_same) [] [] (a_law_same K) fd
  f_law_entry : ∃ fd, FunD K "_law_entry" "_law_entry" (defArgs s_law_entry) (defBody s_law_entry) (defScope s_law_entry) [] [] (a_law_entry K) fd
  f_law_entries : ∃ fd, FunD K "_law_entries" "_law_entries" (defArgs s_law_entries) (defBody s_law_entries) (defScope s_law_entries) [] [] (a_law_entries K) fd
  f_law_second : ∃ fd, FunD K "_law_second" "_law_second" (defArgs s_law_second) (defBody s_law_second) (defScope s_law_second) [] [] (a_law_second K) fd
  f_law_odd : ∃ fd, FunD K "_law_odd" "_law_odd" (defArgs s_law_odd) (defBody s_law_odd) (defScope s_law_odd) [] [] (a_law_odd K) fd
  f_law_loose : ∃ fd, FunD K "_law_loose" "_law_loose" (defArgs s_law_loose) (defBody s_law_loose) (defScope s_law_loose) [] [] (a_law_loose K) fd
  f_law_person : ∃ fd, FunD K "_law_person" "_law_person" (defArgs s_law_person) (defBody s_law_person) (defScope s_law_person) [] [] (a_law_person K) fd
  f_law_numbers : ∃ fd, FunD K "_law_numbers" "_law_numbers" (defArgs s_law_numbers) (defBody s_law_numbers) (defScope s_law_numbers) [] [] (a_law_numbers K) fd
  f_law_due_made : ∃ fd, FunD K "_law_due_made" "_law_due_made" (defArgs s_law_due_made) (defBody s_law_due_made) (defScope s_law_due_made) [] [] (a_law_due_made K) fd
  f_law_due_moved : ∃ fd, FunD K "_law_due_moved" "_law_due_moved" (defArgs s_law_due_moved) (defBody s_law_due_moved) (defScope s_law_due_moved) [] [] (a_law_due_moved K) fd
  f_law_no_steeper : ∃ fd, FunD K "_law_no_steeper" "_law_no_steeper" (defArgs s_law_no_steeper) (defBody s_law_no_steeper) (defScope s_law_no_steeper) [] [] (a_law_no_steeper K) fd
  f_law_due : ∃ fd, FunD K "_law_due" "_law_due" (defArgs s_law_due) (defBody s_law_due) (defScope s_law_due) [] [] (a_law_due K) fd
  f_law_worked : ∃ fd, FunD K "_law_worked" "_law_worked" (defArgs s_law_worked) (defBody s_law_worked) (defScope s_law_worked) [] [] (a_law_worked K) fd
  f_law_try : ∃ fd, FunD K "_law_try" "_law_try" (defArgs s_law_try) (defBody s_law_try) (defScope s_law_try) [] [] (a_law_try K) fd
  f_law_try_person : ∃ fd, FunD K "_law_try_person" "_law_try_person" (defArgs s_law_try_person) (defBody s_law_try_person) (defScope s_law_try_person) [] [] (a_law_try_person K) fd
  f_law_reads : ∃ fd, FunD K "_law_reads" "_law_reads" (defArgs s_law_reads) (defBody s_law_reads) (defScope s_law_reads) [] [] (a_law_reads K) fd
  f_law_compared : ∃ fd, FunD K "_law_compared" "_law_compared" (defArgs s_law_compared) (defBody s_law_compared) (defScope s_law_compared) [] [] (a_law_compared K) fd
  f_law : ∃ fd, FunD K "law" "law" (defArgs s_law) (defBody s_law) (defScope s_law) [] [] (a_law K) fd
  e_NoPerson : Exn PG K mg "NoPerson" (c_NoPerson K) (i_NoPerson K) ["person"] [("person", "person")]
  e_NamedTwice : Exn PG K mg "NamedTwice" (c_NamedTwice K) (i_NamedTwice K) ["person"] [("person", "person")]
  e_BadNumber : Exn PG K mg "BadNumber" (c_BadNumber K) (i_BadNumber K) ["place", "number"] [("place", "place"), ("number", "number")]
  e_TooLong : Exn PG K mg "TooLong" (c_TooLong K) (i_TooLong K) ["count"] [("count", "count")]
  e_WrongLength : Exn PG K mg "WrongLength" (c_WrongLength K) (i_WrongLength K) ["found", "wanted"] [("found", "found"), ("wanted", "wanted")]
  cTelling : Cls K (c_Telling K)
  gTelling : mg "Telling" = some (.ref (c_Telling K))
  tTelling : EF.ClsT K (c_Telling K)
  kTelling : Mk K (c_Telling K) (a_Telling_init K)
  nTelling_entries : NoAttr K (c_Telling K) "entries"
  v_MOST_PEOPLE : ∃ t, mg "MOST_PEOPLE" = some (.int 30 t)
  v_LIMIT : ∃ t, mg "LIMIT" = some (.int 1000000000000000000000000000000 t)
  wTelling_add : OwnOp K (c_Telling K) .Add (a_Telling_add K)
  wTelling_mul : OwnOpT K (c_Telling K) .Mult (a_Telling_mul K) "int"
  wTelling_rmul : OwnR K (c_Telling K) .Mult (a_Telling_rmul K)
  wTelling_xor : OwnOp K (c_Telling K) .BitXor (a_Telling_xor K)
  wTelling_len : findIn K (.ref (c_Telling K)) "__len__" = some (some (.ref (a_Telling_len K))) ∧ isFn K (.ref (a_Telling_len K)) = true
  wTelling_iter : findIn K (.ref (c_Telling K)) "__iter__" = some (some (.ref (a_Telling_iter K))) ∧ isFn K (.ref (a_Telling_iter K)) = true
  wTelling_getitem : findIn K (.ref (c_Telling K)) "__getitem__" = some (some (.ref (a_Telling_getitem K))) ∧ isFn K (.ref (a_Telling_getitem K)) = true
  wTelling_eq : findIn K (.ref (c_Telling K)) "__eq__" = some (some (.ref (a_Telling_eq K))) ∧ isFn K (.ref (a_Telling_eq K)) = true
  wTelling_lt : findIn K (.ref (c_Telling K)) "__lt__" = some (some (.ref (a_Telling_lt K))) ∧ isFn K (.ref (a_Telling_lt K)) = true
  wTelling_abs : findIn K (.ref (c_Telling K)) "__abs__" = some (some (.ref (a_Telling_abs K))) ∧ isFn K (.ref (a_Telling_abs K)) = true
  wTelling_no_steeper : Meth K (c_Telling K) "no_steeper" (a_Telling_no_steeper K)
  wTelling_moved : Meth K (c_Telling K) "moved" (a_Telling_moved K)
  wTelling_check_place : Meth K (c_Telling K) "_check_place" (a_Telling_check_place K)
  wTelling_check_alike : Meth K (c_Telling K) "_check_alike" (a_Telling_check_alike K)
  qTelling_eq_Telling : OwnCmp K (c_Telling K) .Eq (a_Telling_eq K) (.ref (c_Telling K))
  qTelling_eq_int : OwnCmp K (c_Telling K) .Eq (a_Telling_eq K) (.type "int")
  qTelling_eq_list : OwnCmp K (c_Telling K) .Eq (a_Telling_eq K) (.type "list")
  qTelling_eq_tuple : OwnCmp K (c_Telling K) .Eq (a_Telling_eq K) (.type "tuple")
  qTelling_lt_Telling : OwnCmp K (c_Telling K) .Lt (a_Telling_lt K) (.ref (c_Telling K))
  iTelling_getitem : OwnIx K (c_Telling K) (a_Telling_getitem K)
  gNightsError : mg "NightsError" = some (.ref (c_NightsError K))
  xNoPerson : XfC K (c_NoPerson K) ∧ ExcC K (c_NoPerson K)
  nNoPerson_person : findIn K (.ref (c_NoPerson K)) "person" = some none
  mNoPerson_WrongLength : exmOne K (.ref (c_NoPerson K)) (.ref (c_WrongLength K)) = some false
  kNoPerson_WrongLength : kitOne K (.ref (c_NoPerson K)) (.ref (c_WrongLength K)) = some false
  mNoPerson_BadNumber : exmOne K (.ref (c_NoPerson K)) (.ref (c_BadNumber K)) = some false
  kNoPerson_BadNumber : kitOne K (.ref (c_NoPerson K)) (.ref (c_BadNumber K)) = some false
  mNoPerson_NamedTwice : exmOne K (.ref (c_NoPerson K)) (.ref (c_NamedTwice K)) = some false
  kNoPerson_NamedTwice : kitOne K (.ref (c_NoPerson K)) (.ref (c_NamedTwice K)) = some false
  mNoPerson_NoPerson : exmOne K (.ref (c_NoPerson K)) (.ref (c_NoPerson K)) = some true
  kNoPerson_NoPerson : kitOne K (.ref (c_NoPerson K)) (.ref (c_NoPerson K)) = some true
  mNoPerson_TooLong : exmOne K (.ref (c_NoPerson K)) (.ref (c_TooLong K)) = some false
  kNoPerson_TooLong : kitOne K (.ref (c_NoPerson K)) (.ref (c_TooLong K)) = some false
  mNoPerson_NightsError : exmOne K (.ref (c_NoPerson K)) (.ref (c_NightsError K)) = some true
  kNoPerson_NightsError : kitOne K (.ref (c_NoPerson K)) (.ref (c_NightsError K)) = some true
  kNoPerson_ValueError : kitOne K (.ref (c_NoPerson K)) (.type "ValueError") = some true
  xNamedTwice : XfC K (c_NamedTwice K) ∧ ExcC K (c_NamedTwice K)
  nNamedTwice_person : findIn K (.ref (c_NamedTwice K)) "person" = some none
  mNamedTwice_WrongLength : exmOne K (.ref (c_NamedTwice K)) (.ref (c_WrongLength K)) = some false
  kNamedTwice_WrongLength : kitOne K (.ref (c_NamedTwice K)) (.ref (c_WrongLength K)) = some false
  mNamedTwice_BadNumber : exmOne K (.ref (c_NamedTwice K)) (.ref (c_BadNumber K)) = some false
  kNamedTwice_BadNumber : kitOne K (.ref (c_NamedTwice K)) (.ref (c_BadNumber K)) = some false
  mNamedTwice_NamedTwice : exmOne K (.ref (c_NamedTwice K)) (.ref (c_NamedTwice K)) = some true
  kNamedTwice_NamedTwice : kitOne K (.ref (c_NamedTwice K)) (.ref (c_NamedTwice K)) = some true
  mNamedTwice_NoPerson : exmOne K (.ref (c_NamedTwice K)) (.ref (c_NoPerson K)) = some false
  kNamedTwice_NoPerson : kitOne K (.ref (c_NamedTwice K)) (.ref (c_NoPerson K)) = some false
  mNamedTwice_TooLong : exmOne K (.ref (c_NamedTwice K)) (.ref (c_TooLong K)) = some false
  kNamedTwice_TooLong : kitOne K (.ref (c_NamedTwice K)) (.ref (c_TooLong K)) = some false
  mNamedTwice_NightsError : exmOne K (.ref (c_NamedTwice K)) (.ref (c_NightsError K)) = some true
  kNamedTwice_NightsError : kitOne K (.ref (c_NamedTwice K)) (.ref (c_NightsError K)) = some true
  kNamedTwice_ValueError : kitOne K (.ref (c_NamedTwice K)) (.type "ValueError") = some true
  xBadNumber : XfC K (c_BadNumber K) ∧ ExcC K (c_BadNumber K)
  nBadNumber_place : findIn K (.ref (c_BadNumber K)) "place" = some none
  nBadNumber_number : findIn K (.ref (c_BadNumber K)) "number" = some none
  mBadNumber_WrongLength : exmOne K (.ref (c_BadNumber K)) (.ref (c_WrongLength K)) = some false
  kBadNumber_WrongLength : kitOne K (.ref (c_BadNumber K)) (.ref (c_WrongLength K)) = some false
  mBadNumber_BadNumber : exmOne K (.ref (c_BadNumber K)) (.ref (c_BadNumber K)) = some true
  kBadNumber_BadNumber : kitOne K (.ref (c_BadNumber K)) (.ref (c_BadNumber K)) = some true
  mBadNumber_NamedTwice : exmOne K (.ref (c_BadNumber K)) (.ref (c_NamedTwice K)) = some false
  kBadNumber_NamedTwice : kitOne K (.ref (c_BadNumber K)) (.ref (c_NamedTwice K)) = some false
  mBadNumber_NoPerson : exmOne K (.ref (c_BadNumber K)) (.ref (c_NoPerson K)) = some false
  kBadNumber_NoPerson : kitOne K (.ref (c_BadNumber K)) (.ref (c_NoPerson K)) = some false
  mBadNumber_TooLong : exmOne K (.ref (c_BadNumber K)) (.ref (c_TooLong K)) = some false
  kBadNumber_TooLong : kitOne K (.ref (c_BadNumber K)) (.ref (c_TooLong K)) = some false
  mBadNumber_NightsError : exmOne K (.ref (c_BadNumber K)) (.ref (c_NightsError K)) = some true
  kBadNumber_NightsError : kitOne K (.ref (c_BadNumber K)) (.ref (c_NightsError K)) = some true
  kBadNumber_ValueError : kitOne K (.ref (c_BadNumber K)) (.type "ValueError") = some true
  xTooLong : XfC K (c_TooLong K) ∧ ExcC K (c_TooLong K)
  nTooLong_count : findIn K (.ref (c_TooLong K)) "count" = some none
  mTooLong_WrongLength : exmOne K (.ref (c_TooLong K)) (.ref (c_WrongLength K)) = some false
  kTooLong_WrongLength : kitOne K (.ref (c_TooLong K)) (.ref (c_WrongLength K)) = some false
  mTooLong_BadNumber : exmOne K (.ref (c_TooLong K)) (.ref (c_BadNumber K)) = some false
  kTooLong_BadNumber : kitOne K (.ref (c_TooLong K)) (.ref (c_BadNumber K)) = some false
  mTooLong_NamedTwice : exmOne K (.ref (c_TooLong K)) (.ref (c_NamedTwice K)) = some false
  kTooLong_NamedTwice : kitOne K (.ref (c_TooLong K)) (.ref (c_NamedTwice K)) = some false
  mTooLong_NoPerson : exmOne K (.ref (c_TooLong K)) (.ref (c_NoPerson K)) = some false
  kTooLong_NoPerson : kitOne K (.ref (c_TooLong K)) (.ref (c_NoPerson K)) = some false
  mTooLong_TooLong : exmOne K (.ref (c_TooLong K)) (.ref (c_TooLong K)) = some true
  kTooLong_TooLong : kitOne K (.ref (c_TooLong K)) (.ref (c_TooLong K)) = some true
  mTooLong_NightsError : exmOne K (.ref (c_TooLong K)) (.ref (c_NightsError K)) = some true
  kTooLong_NightsError : kitOne K (.ref (c_TooLong K)) (.ref (c_NightsError K)) = some true
  kTooLong_ValueError : kitOne K (.ref (c_TooLong K)) (.type "ValueError") = some true
  xWrongLength : XfC K (c_WrongLength K) ∧ ExcC K (c_WrongLength K)
  nWrongLength_found : findIn K (.ref (c_WrongLength K)) "found" = some none
  nWrongLength_wanted : findIn K (.ref (c_WrongLength K)) "wanted" = some none
  mWrongLength_WrongLength : exmOne K (.ref (c_WrongLength K)) (.ref (c_WrongLength K)) = some true
  kWrongLength_WrongLength : kitOne K (.ref (c_WrongLength K)) (.ref (c_WrongLength K)) = some true
  mWrongLength_BadNumber : exmOne K (.ref (c_WrongLength K)) (.ref (c_BadNumber K)) = some false
  kWrongLength_BadNumber : kitOne K (.ref (c_WrongLength K)) (.ref (c_BadNumber K)) = some false
  mWrongLength_NamedTwice : exmOne K (.ref (c_WrongLength K)) (.ref (c_NamedTwice K)) = some false
  kWrongLength_NamedTwice : kitOne K (.ref (c_WrongLength K)) (.ref (c_NamedTwice K)) = some false
  mWrongLength_NoPerson : exmOne K (.ref (c_WrongLength K)) (.ref (c_NoPerson K)) = some false
  kWrongLength_NoPerson : kitOne K (.ref (c_WrongLength K)) (.ref (c_NoPerson K)) = some false
  mWrongLength_TooLong : exmOne K (.ref (c_WrongLength K)) (.ref (c_TooLong K)) = some false
  kWrongLength_TooLong : kitOne K (.ref (c_WrongLength K)) (.ref (c_TooLong K)) = some false
  mWrongLength_NightsError : exmOne K (.ref (c_WrongLength K)) (.ref (c_NightsError K)) = some true
  kWrongLength_NightsError : kitOne K (.ref (c_WrongLength K)) (.ref (c_NightsError K)) = some true
  kWrongLength_ValueError : kitOne K (.ref (c_WrongLength K)) (.type "ValueError") = some true
  kTelling_Telling : kitOne K (.ref (c_Telling K)) (.ref (c_Telling K)) = some true
  k_list_Telling : kitOne K (.type "list") (.ref (c_Telling K)) = some false
  k_tuple_Telling : kitOne K (.type "tuple") (.ref (c_Telling K)) = some false
  k_int_Telling : kitOne K (.type "int") (.ref (c_Telling K)) = some false
theorem tx_of {K : Frag} {h : Heap} {mg : Str → Option Value} (c : SaysX bx fn er "/claim/cut.py" K) (X : K.In h) (G : h.Ns mainGlobals mg) : Tx K mg where
  any := eqO_ok (fact c 1)
  m_super := free_ok X G (x := "super") (fact c 0)
  m_len := free_ok X G (x := "len") (fact c 2)
  m_enumerate := free_ok X G (x := "enumerate") (fact c 3)
  m_tuple := free_ok X G (x := "tuple") (fact c 4)
  m_iter := free_ok X G (x := "iter") (fact c 5)
  m_sum := free_ok X G (x := "sum") (fact c 6)
  m_abs := free_ok X G (x := "abs") (fact c 7)
  m_int := free_ok X G (x := "int") (fact c 8)
  m_range := free_ok X G (x := "range") (fact c 9)
  m_isinstance := free_ok X G (x := "isinstance") (fact c 10)
  m_bool := free_ok X G (x := "bool") (fact c 11)
  m_str := free_ok X G (x := "str") (fact c 12)
  m_list := free_ok X G (x := "list") (fact c 13)
  m_zip := free_ok X G (x := "zip") (fact c 14)
  m_sorted := free_ok X G (x := "sorted") (fact c 15)
  m_NotImplemented := free_ok X G (x := "NotImplemented") (fact c 16)
  m_ValueError := free_ok X G (x := "ValueError") (fact c 17)
  m_max := free_ok X G (x := "max") (fact c 18)
  m_min := free_ok X G (x := "min") (fact c 19)
  g_check_count := glo_ok X G (x := "check_count") (fact c 20)
  g_check_number := glo_ok X G (x := "check_number") (fact c 21)
  g_check_numbers := glo_ok X G (x := "check_numbers") (fact c 22)
  g_check_not_negative := glo_ok X G (x := "check_not_negative") (fact c 23)
  g_law_pool := glo_ok X G (x := "_law_pool") (fact c 24)
  g_law_draw := glo_ok X G (x := "_law_draw") (fact c 25)
  g_law_int := glo_ok X G (x := "_law_int") (fact c 26)
  g_law_same := glo_ok X G (x := "_law_same") (fact c 27)
  g_law_entry := glo_ok X G (x := "_law_entry") (fact c 28)
  g_law_entries := glo_ok X G (x := "_law_entries") (fact c 29)
  g_law_second := glo_ok X G (x := "_law_second") (fact c 30)
  g_law_odd := glo_ok X G (x := "_law_odd") (fact c 31)
  g_law_loose := glo_ok X G (x := "_law_loose") (fact c 32)
  g_law_person := glo_ok X G (x := "_law_person") (fact c 33)
  g_law_numbers := glo_ok X G (x := "_law_numbers") (fact c 34)
  g_law_due_made := glo_ok X G (x := "_law_due_made") (fact c 35)
  g_law_due_moved := glo_ok X G (x := "_law_due_moved") (fact c 36)
  g_law_no_steeper := glo_ok X G (x := "_law_no_steeper") (fact c 37)
  g_law_due := glo_ok X G (x := "_law_due") (fact c 38)
  g_law_worked := glo_ok X G (x := "_law_worked") (fact c 39)
  g_law_try := glo_ok X G (x := "_law_try") (fact c 40)
  g_law_try_person := glo_ok X G (x := "_law_try_person") (fact c 41)
  g_law_reads := glo_ok X G (x := "_law_reads") (fact c 42)
  g_law_compared := glo_ok X G (x := "_law_compared") (fact c 43)
  g_law := glo_ok X G (x := "law") (fact c 44)
  f_check_count := c.def_ 0
  f_check_number := c.def_ 1
  f_check_numbers := c.def_ 2
  f_check_not_negative := c.def_ 3
  f_Telling_init := c.def_ 4
  f_Telling_len := c.def_ 5
  f_Telling_iter := c.def_ 6
  f_Telling_getitem := c.def_ 7
  f_Telling_eq := c.def_ 8
  f_Telling_lt := c.def_ 9
  f_Telling_add := c.def_ 10
  f_Telling_mul := c.def_ 11
  f_Telling_rmul := c.def_ 12
  f_Telling_xor := c.def_ 13
  f_Telling_abs := c.def_ 14
  f_Telling_no_steeper := c.def_ 15
  f_Telling_moved := c.def_ 16
  f_Telling_check_place := c.def_ 17
  f_Telling_check_alike := c.def_ 18
  f_law_pool := c.def_ 19
  f_law_draw := c.def_ 20
  f_law_int := c.def_ 21
  f_law_same := c.def_ 22
  f_law_entry := c.def_ 23
  f_law_entries := c.def_ 24
  f_law_second := c.def_ 25
  f_law_odd := c.def_ 26
  f_law_loose := c.def_ 27
  f_law_person := c.def_ 28
  f_law_numbers := c.def_ 29
  f_law_due_made := c.def_ 30
  f_law_due_moved := c.def_ 31
  f_law_no_steeper := c.def_ 32
  f_law_due := c.def_ 33
  f_law_worked := c.def_ 34
  f_law_try := c.def_ 35
  f_law_try_person := c.def_ 36
  f_law_reads := c.def_ 37
  f_law_compared := c.def_ 38
  f_law := c.def_ 39
  e_NoPerson := errD_ok (d := ⟨"NoPerson", e_NoPerson, "NoPerson.__init__", ["person"]⟩) X G tx_NoPerson rfl (free_ok X G (x := "super") (fact c 0)) (eqO_ok (fact c 1)) (c.err_ (d := ⟨"NoPerson", e_NoPerson, "NoPerson.__init__", ["person"]⟩) 0).1 (c.err_ (d := ⟨"NoPerson", e_NoPerson, "NoPerson.__init__", ["person"]⟩) 0).2
  e_NamedTwice := errD_ok (d := ⟨"NamedTwice", e_NamedTwice, "NamedTwice.__init__", ["person"]⟩) X G tx_NamedTwice rfl (free_ok X G (x := "super") (fact c 0)) (eqO_ok (fact c 1)) (c.err_ (d := ⟨"NamedTwice", e_NamedTwice, "NamedTwice.__init__", ["person"]⟩) 1).1 (c.err_ (d := ⟨"NamedTwice", e_NamedTwice, "NamedTwice.__init__", ["person"]⟩) 1).2
  e_BadNumber := errD_ok (d := ⟨"BadNumber", e_BadNumber, "BadNumber.__init__", ["place", "number"]⟩) X G tx_BadNumber rfl (free_ok X G (x := "super") (fact c 0)) (eqO_ok (fact c 1)) (c.err_ (d := ⟨"BadNumber", e_BadNumber, "BadNumber.__init__", ["place", "number"]⟩) 2).1 (c.err_ (d := ⟨"BadNumber", e_BadNumber, "BadNumber.__init__", ["place", "number"]⟩) 2).2
  e_TooLong := errD_ok (d := ⟨"TooLong", e_TooLong, "TooLong.__init__", ["count"]⟩) X G tx_TooLong rfl (free_ok X G (x := "super") (fact c 0)) (eqO_ok (fact c 1)) (c.err_ (d := ⟨"TooLong", e_TooLong, "TooLong.__init__", ["count"]⟩) 3).1 (c.err_ (d := ⟨"TooLong", e_TooLong, "TooLong.__init__", ["count"]⟩) 3).2
  e_WrongLength := errD_ok (d := ⟨"WrongLength", e_WrongLength, "WrongLength.__init__", ["found", "wanted"]⟩) X G tx_WrongLength rfl (free_ok X G (x := "super") (fact c 0)) (eqO_ok (fact c 1)) (c.err_ (d := ⟨"WrongLength", e_WrongLength, "WrongLength.__init__", ["found", "wanted"]⟩) 4).1 (c.err_ (d := ⟨"WrongLength", e_WrongLength, "WrongLength.__init__", ["found", "wanted"]⟩) 4).2
  cTelling := cls_ok (fact c 45)
  gTelling := glo_ok X G (x := "Telling") (fact c 46)
  tTelling := EF.cls_ok (fact c 47)
  kTelling := mkr_ok (fact c 48)
  nTelling_entries := noat_ok (x := "Telling") (f := "entries") (fact c 49)
  v_MOST_PEOPLE := int_ok X G (x := "MOST_PEOPLE") (i := 30) (fact c 50)
  v_LIMIT := int_ok X G (x := "LIMIT") (i := 1000000000000000000000000000000) (fact c 51)
  wTelling_add := FB.op_ok (fact c 52)
  wTelling_mul := FB.opT_ok (fact c 53)
  wTelling_rmul := FB.opR_ok (fact c 54)
  wTelling_xor := FB.op_ok (fact c 55)
  wTelling_len := FB.sp_ok (fact c 56)
  wTelling_iter := FB.sp_ok (fact c 57)
  wTelling_getitem := FB.sp_ok (fact c 58)
  wTelling_eq := FB.sp_ok (fact c 59)
  wTelling_lt := FB.sp_ok (fact c 60)
  wTelling_abs := FB.sp_ok (fact c 61)
  wTelling_no_steeper := meth_ok (x := "Telling") (m := "no_steeper") (fact c 62)
  wTelling_moved := meth_ok (x := "Telling") (m := "moved") (fact c 63)
  wTelling_check_place := meth_ok (x := "Telling") (m := "_check_place") (fact c 64)
  wTelling_check_alike := meth_ok (x := "Telling") (m := "_check_alike") (fact c 65)
  qTelling_eq_Telling := FC.cmp_ok (fact c 66)
  qTelling_eq_int := FC.cmp_ok (fact c 67)
  qTelling_eq_list := FC.cmp_ok (fact c 68)
  qTelling_eq_tuple := FC.cmp_ok (fact c 69)
  qTelling_lt_Telling := FC.cmp_ok (fact c 70)
  iTelling_getitem := FC.ix_ok (fact c 71)
  gNightsError := glo_ok X G (x := "NightsError") (fact c 72)
  xNoPerson := EF.exc_ok (fact c 73)
  nNoPerson_person := noat_ok (x := "NoPerson") (f := "person") (fact c 74)
  mNoPerson_WrongLength := of_decide_eq_true (fact c 75)
  kNoPerson_WrongLength := of_decide_eq_true (fact c 76)
  mNoPerson_BadNumber := of_decide_eq_true (fact c 77)
  kNoPerson_BadNumber := of_decide_eq_true (fact c 78)
  mNoPerson_NamedTwice := of_decide_eq_true (fact c 79)
  kNoPerson_NamedTwice := of_decide_eq_true (fact c 80)
  mNoPerson_NoPerson := of_decide_eq_true (fact c 81)
  kNoPerson_NoPerson := of_decide_eq_true (fact c 82)
  mNoPerson_TooLong := of_decide_eq_true (fact c 83)
  kNoPerson_TooLong := of_decide_eq_true (fact c 84)
  mNoPerson_NightsError := of_decide_eq_true (fact c 85)
  kNoPerson_NightsError := of_decide_eq_true (fact c 86)
  kNoPerson_ValueError := of_decide_eq_true (fact c 87)
  xNamedTwice := EF.exc_ok (fact c 88)
  nNamedTwice_person := noat_ok (x := "NamedTwice") (f := "person") (fact c 89)
  mNamedTwice_WrongLength := of_decide_eq_true (fact c 90)
  kNamedTwice_WrongLength := of_decide_eq_true (fact c 91)
  mNamedTwice_BadNumber := of_decide_eq_true (fact c 92)
  kNamedTwice_BadNumber := of_decide_eq_true (fact c 93)
  mNamedTwice_NamedTwice := of_decide_eq_true (fact c 94)
  kNamedTwice_NamedTwice := of_decide_eq_true (fact c 95)
  mNamedTwice_NoPerson := of_decide_eq_true (fact c 96)
  kNamedTwice_NoPerson := of_decide_eq_true (fact c 97)
  mNamedTwice_TooLong := of_decide_eq_true (fact c 98)
  kNamedTwice_TooLong := of_decide_eq_true (fact c 99)
  mNamedTwice_NightsError := of_decide_eq_true (fact c 100)
  kNamedTwice_NightsError := of_decide_eq_true (fact c 101)
  kNamedTwice_ValueError := of_decide_eq_true (fact c 102)
  xBadNumber := EF.exc_ok (fact c 103)
  nBadNumber_place := noat_ok (x := "BadNumber") (f := "place") (fact c 104)
  nBadNumber_number := noat_ok (x := "BadNumber") (f := "number") (fact c 105)
  mBadNumber_WrongLength := of_decide_eq_true (fact c 106)
  kBadNumber_WrongLength := of_decide_eq_true (fact c 107)
  mBadNumber_BadNumber := of_decide_eq_true (fact c 108)
  kBadNumber_BadNumber := of_decide_eq_true (fact c 109)
  mBadNumber_NamedTwice := of_decide_eq_true (fact c 110)
  kBadNumber_NamedTwice := of_decide_eq_true (fact c 111)
  mBadNumber_NoPerson := of_decide_eq_true (fact c 112)
  kBadNumber_NoPerson := of_decide_eq_true (fact c 113)
  mBadNumber_TooLong := of_decide_eq_true (fact c 114)
  kBadNumber_TooLong := of_decide_eq_true (fact c 115)
  mBadNumber_NightsError := of_decide_eq_true (fact c 116)
  kBadNumber_NightsError := of_decide_eq_true (fact c 117)
  kBadNumber_ValueError := of_decide_eq_true (fact c 118)
  xTooLong := EF.exc_ok (fact c 119)
  nTooLong_count := noat_ok (x := "TooLong") (f := "count") (fact c 120)
  mTooLong_WrongLength := of_decide_eq_true (fact c 121)
  kTooLong_WrongLength := of_decide_eq_true (fact c 122)
  mTooLong_BadNumber := of_decide_eq_true (fact c 123)
  kTooLong_BadNumber := of_decide_eq_true (fact c 124)
  mTooLong_NamedTwice := of_decide_eq_true (fact c 125)
  kTooLong_NamedTwice := of_decide_eq_true (fact c 126)
  mTooLong_NoPerson := of_decide_eq_true (fact c 127)
  kTooLong_NoPerson := of_decide_eq_true (fact c 128)
  mTooLong_TooLong := of_decide_eq_true (fact c 129)
  kTooLong_TooLong := of_decide_eq_true (fact c 130)
  mTooLong_NightsError := of_decide_eq_true (fact c 131)
  kTooLong_NightsError := of_decide_eq_true (fact c 132)
  kTooLong_ValueError := of_decide_eq_true (fact c 133)
  xWrongLength := EF.exc_ok (fact c 134)
  nWrongLength_found := noat_ok (x := "WrongLength") (f := "found") (fact c 135)
  nWrongLength_wanted := noat_ok (x := "WrongLength") (f := "wanted") (fact c 136)
  mWrongLength_WrongLength := of_decide_eq_true (fact c 137)
  kWrongLength_WrongLength := of_decide_eq_true (fact c 138)
  mWrongLength_BadNumber := of_decide_eq_true (fact c 139)
  kWrongLength_BadNumber := of_decide_eq_true (fact c 140)
  mWrongLength_NamedTwice := of_decide_eq_true (fact c 141)
  kWrongLength_NamedTwice := of_decide_eq_true (fact c 142)
  mWrongLength_NoPerson := of_decide_eq_true (fact c 143)
  kWrongLength_NoPerson := of_decide_eq_true (fact c 144)
  mWrongLength_TooLong := of_decide_eq_true (fact c 145)
  kWrongLength_TooLong := of_decide_eq_true (fact c 146)
  mWrongLength_NightsError := of_decide_eq_true (fact c 147)
  kWrongLength_NightsError := of_decide_eq_true (fact c 148)
  kWrongLength_ValueError := of_decide_eq_true (fact c 149)
  kTelling_Telling := of_decide_eq_true (fact c 150)
  k_list_Telling := of_decide_eq_true (fact c 151)
  k_tuple_Telling := of_decide_eq_true (fact c 152)
  k_int_Telling := of_decide_eq_true (fact c 153)
end K02

set_option maxRecDepth 100000
set_option maxHeartbeats 4000000
namespace K02
open PySem PySem.Spec PyProof.Rows L2
section
variable {w : World} {K : PySem.W.Frag} {mg : Str → Option Value} {base : Heap}
/-! ### the law's draws -/
def spPool (K : PySem.W.Frag) : Sp := fun vs H Q _ => ∃ (a : Addr) (ns : List Int) (i : Nat), vs = [.ref a, .int (i : Nat)] ∧ SqL K H a (ns.map V.int) ∧ ∀ l st, H l = none → PoolOk st → Q (.ref l) (upd H l (.lst st))
theorem ok_law_pool (T : Tx K mg) : Ok PG w K mg base CX0 2 (a_law_pool K) p_law_pool (spPool K) := by
  refine Ok.of 1 T.f_law_pool sc_law_pool bi_law_pool (by decide) (fun vs H Q E h => ?_) (fun cdv A outer s H vs Q E hr h => ?_)
  · obtain ⟨_, _, _, rfl, _⟩ := h
    rfl
  · obtain ⟨a, ns, i, rfl, hs, q⟩ := h
    have nd := sc_law_pool.nd
    refine ⟨_, pss_cons (ps_set (i := 2) nd rfl (.inl rfl) pe_int)
      (pss_cons (ps_if (pt_cmpR op_lt (pv 1) (pe_callB call_len_seq (by rfl) T.m_len PySem.boot_len (pa_cons (pv 0) pa_nil)) (nomark _)) (pss_one (ps_set (i := 2) nd rfl (.inl rfl) (pe_callB call_abs (by rfl) T.m_abs (by decide +kernel) (pa_cons (pe_ix ix_list (pv 0) (pv 1) (fun _ _ => rfl)) pa_nil)))) pss_nil)
      (pss_cons (ps_if (pt_cmpR op_ge (pv 2) (pe_op op_pow pe_int pe_int) (nomark _)) (pss_one (ps_ret (pe_lst (pa_cons (pe_op op_sub (pv 2) (pe_op op_pow pe_int pe_int)) (pa_cons pe_int (pa_cons pe_int pa_nil)))))) pss_nil)
      (pss_one (ps_ret (pe_lst (pa_cons (pe_un un_neg pe_int) (pa_cons (pe_op op_modN (pe_callTy call_int1 (by rfl) T.m_int (by decide +kernel) (pa_cons (pv 2) pa_nil)) pe_int) (pa_cons (pe_op op_add (pv 1) pe_int) pa_nil)))))))), ?_⟩
    refine ⟨_, rfl, _, rfl, a, _, rfl, .inl hs, _, _, rfl, rfl, _, rfl, ?_⟩
    refine ite2 (fun c => ?_) (fun c => ?_)
    · have hi : i < ns.length := by
        have := of_decide_eq_true c
        rw [List.length_map] at this
        omega
      refine ⟨_, rfl, _, rfl, a, _, _, .int ns[i], rfl, rfl, hs, atI_nat (by rw [List.getElem?_map, List.getElem?_eq_getElem hi]; rfl), _, rfl, ?_⟩
      generalize (if ns[i] < 0 then -ns[i] else ns[i]) = z
      refine ⟨_, rfl, _, _, rfl, rfl, ⟨by decide, by decide, by decide⟩, _, _, rfl, rfl, _, rfl, ?_⟩
      refine ite2 (fun c => ?_) (fun c => ?_)
      · exact ⟨_, rfl, _, _, rfl, rfl, ⟨by decide, by decide, by decide⟩, _, _, rfl, rfl, by show 3 ≤ sizeLine; decide, fun l hl => q l _ hl ⟨_, _, _, rfl, by decide, by decide⟩⟩
      · exact ⟨_, rfl, _, rfl, .inl ⟨_, rfl, _, _, rfl, rfl, (by show (2147483399 : Int) ≠ 0; decide), _, rfl, _, _, rfl, rfl, by show 3 ≤ sizeLine; decide, fun l hl => q l _ hl ⟨_, _, _, rfl, (mod_lt (by decide)).1, Int.lt_trans (mod_lt (by decide)).2 (by decide)⟩⟩⟩
    · refine ⟨_, rfl, _, _, rfl, rfl, ⟨by decide, by decide, by decide⟩, _, _, rfl, rfl, _, rfl, ?_⟩
      refine ite2 (fun c => ?_) (fun c => ?_)
      · exact ⟨_, rfl, _, _, rfl, rfl, ⟨by decide, by decide, by decide⟩, _, _, rfl, rfl, by show 3 ≤ sizeLine; decide, fun l hl => q l _ hl ⟨_, _, _, rfl, by decide, by decide⟩⟩
      · exact ⟨_, rfl, _, rfl, .inl ⟨_, rfl, _, _, rfl, rfl, (by show (2147483399 : Int) ≠ 0; decide), _, rfl, _, _, rfl, rfl, by show 3 ≤ sizeLine; decide, fun l hl => q l _ hl ⟨_, _, _, rfl, (mod_lt (by decide)).1, Int.lt_trans (mod_lt (by decide)).2 (by decide)⟩⟩⟩
def spDraw (_K : PySem.W.Frag) : Sp := fun vs H Q _ => ∃ (p : Addr) (st : List V) (m : Int), vs = [.ref p, .int m] ∧ 0 < m ∧ m.natAbs < 2 ^ 200 ∧ H p = some (.lst st) ∧ PoolOk st ∧ ∀ v st', 0 ≤ v → v < m → PoolOk st' → Q (.int v) (upd H p (.lst st'))
theorem ok_law_draw (T : Tx K mg) : Ok PG w K mg base CX0 2 (a_law_draw K) p_law_draw (spDraw K) := by
  refine Ok.of 1 T.f_law_draw sc_law_draw bi_law_draw (by decide) (fun vs H Q E h => ?_) (fun cdv A outer s H vs Q E hr h => ?_)
  · obtain ⟨_, _, _, rfl, _⟩ := h
    rfl
  · obtain ⟨p, st, m, rfl, m0, mw, hp, ⟨a, b, c, rfl, b0, b1⟩, q⟩ := h
    have nd := sc_law_draw.nd
    refine ⟨_, pss_cons (ps_if (pt_cmpR op_ge (pe_ix ix_list (pv 0) pe_int (fun _ _ => rfl)) pe_int (nomark _)) (pss_cons (ps_set (i := 2) nd rfl (.inl rfl) (pe_op op_modN (pe_callTy call_int1 (by rfl) T.m_int (by decide +kernel) (pa_cons (pe_ix ix_list (pv 0) pe_int (fun _ _ => rfl)) pa_nil)) (pv 1)))
        (pss_cons (ps_asg (pe_op op_fdivW (pe_ix ix_list (pv 0) pe_int (fun _ _ => rfl)) (pv 1)) (pg_sub (pv 0) pe_int set_list)) (pss_one (ps_ret (pv 2))))) pss_nil)
      (pss_cons (ps_asg (pe_op op_add (pe_ix ix_list (pv 0) pe_int (fun _ _ => rfl)) pe_int) (pg_sub (pv 0) pe_int set_list))
      (pss_cons (ps_set (i := 3) nd rfl (.inl rfl) (pe_ix ix_list (pv 0) pe_int (fun _ _ => rfl)))
      (pss_cons (ps_set (i := 3) nd rfl (.inl rfl) (pe_op op_modN (pe_callTy call_int1 (by rfl) T.m_int (by decide +kernel) (pa_cons (pe_op op_add (pe_op op_add (pe_op op_mul (pv 3) (pv 3)) (pe_op op_mul (pe_ix ix_list (pv 0) pe_int (fun _ _ => rfl)) pe_int)) pe_int) pa_nil)) pe_int))
      (pss_cons (ps_set (i := 3) nd rfl (.inl rfl) (pe_op op_modN (pe_callTy call_int1 (by rfl) T.m_int (by decide +kernel) (pa_cons (pe_op op_add (pe_op op_mul (pv 3) (pv 3)) (pe_op op_fdiv (pv 3) pe_int)) pa_nil)) pe_int))
      (pss_cons (ps_asg (pv 3) (pg_sub (pv 0) pe_int set_list))
      (pss_one (ps_ret (pe_op op_modN (pe_callTy call_int1 (by rfl) T.m_int (by decide +kernel) (pa_cons (pe_op op_fdiv (pv 3) pe_int) pa_nil)) (pv 1))))))))), ?_⟩
    have at0 : ∀ x y z : V, atI [x, y, z] (0 : Int) = some x := fun _ _ _ => rfl
    have at1 : ∀ x y z : V, atI [x, y, z] (1 : Int) = some y := fun _ _ _ => rfl
    have at2 : ∀ x y z : V, atI [x, y, z] (2 : Int) = some z := fun _ _ _ => rfl
    refine ⟨_, rfl, p, _, _, _, rfl, rfl, SqL.of hp, at0 _ _ _, _, _, rfl, rfl, _, rfl, ?_⟩
    refine ite2 (fun ca => ?_) (fun ca => ?_)
    · refine ⟨_, rfl, p, _, _, _, rfl, rfl, SqL.of hp, at0 _ _ _, .inl ⟨_, rfl, _, rfl, _, _, rfl, rfl, by omega, ?_⟩⟩
      refine ⟨_, rfl, p, _, _, _, rfl, rfl, SqL.of hp, at0 _ _ _, _, rfl, _, _, rfl, rfl, wide_div m0 mw (by decide) (by decide), ?_⟩
      refine ⟨_, rfl, p, _, _, 0, rfl, rfl, hp, rfl, _, rfl, ?_⟩
      exact q _ _ (mod_lt m0).1 (mod_lt m0).2 ⟨_, _, _, rfl, b0, b1⟩
    · refine ⟨_, rfl, p, _, _, _, rfl, rfl, SqL.of hp, at2 _ _ _, _, _, rfl, rfl, ?_⟩
      refine ⟨_, rfl, p, _, _, 2, rfl, rfl, hp, rfl, ?_⟩
      refine ⟨_, rfl, p, _, _, _, rfl, rfl, SqL.of upd_same, at1 _ _ _, ?_⟩
      refine ⟨_, rfl, _, rfl, _, _, rfl, rfl, .inl ⟨by omega, by omega⟩, ?_⟩
      refine ⟨_, rfl, p, _, _, _, rfl, rfl, SqL.of upd_same, at2 _ _ _, _, _, rfl, rfl, .inr ⟨by decide, by decide⟩, ?_⟩
      refine ⟨_, _, rfl, rfl, _, _, rfl, rfl, .inl ⟨_, rfl, _, _, rfl, rfl, (by show (2147483399 : Int) ≠ 0; decide), ?_⟩⟩
      have x1 := mod_lt (a := (b * b + (c + 1) * 3571 + 40692 : Int)) (m := 2147483399) (by decide)
      refine ⟨_, rfl, _, rfl, _, _, rfl, rfl, .inl ⟨Int.lt_of_lt_of_le (by decide : -(2 ^ 64 : Int) < 0) x1.1, Int.lt_trans x1.2 (by decide)⟩, _, rfl, _, _, rfl, rfl, ⟨by decide, by decide⟩, _, _, rfl, rfl, .inl ⟨_, rfl, _, _, rfl, rfl, (by show (2147483629 : Int) ≠ 0; decide), ?_⟩⟩
      refine ⟨_, rfl, _, rfl, p, _, _, 1, rfl, rfl, upd_same, rfl, ?_⟩
      refine ⟨_, rfl, _, _, rfl, rfl, ⟨by decide, by decide⟩, .inl ⟨_, rfl, _, rfl, _, _, rfl, rfl, by omega, ?_⟩⟩
      rw [upd_upd]
      exact q _ _ (mod_lt m0).1 (mod_lt m0).2 ⟨_, _, _, rfl, (mod_lt (m := 2147483629) (by decide)).1, Int.lt_trans (mod_lt (m := 2147483629) (by decide)).2 (by decide)⟩
end
end K02
namespace K02
open PySem PySem.Spec PyProof.Rows L2
section
variable {w : World} {K : PySem.W.Frag} {mg : Str → Option Value} {base : Heap}
def spInt : Sp := fun vs H Q _ => ∃ (n : Int), vs = [.int n] ∧ Q (.bl true) H
theorem ok_law_int (T : Tx K mg) : Ok PG w K mg base CX0 2 (a_law_int K) p_law_int spInt := by
  refine Ok.of 1 T.f_law_int sc_law_int bi_law_int (by decide) (fun vs H Q E h => ?_) (fun cdv A outer s H vs Q E hr h => ?_)
  · obtain ⟨_, rfl, _⟩ := h
    rfl
  · obtain ⟨n, rfl, q⟩ := h
    refine ⟨_, pss_one (ps_ret (pe_and (pe_callB call_isi (by rfl) T.m_isinstance (by decide +kernel) (pa_cons (pv 0) (pa_cons (pe_bltn (v := .ty "int") (by rfl) T.m_int (by decide +kernel) rfl) pa_nil)))
      (pe_one (pe_not (pe_callB call_isi (by rfl) T.m_isinstance (by decide +kernel) (pa_cons (pv 0) (pa_cons (pe_bltn (v := .ty "bool") (by rfl) T.m_bool (by decide +kernel) rfl) pa_nil))))))), ?_⟩
    refine ⟨_, rfl, _, _, _, _, true, rfl, .ty _, .base (.int n), kit_ty (by decide +kernel), _, rfl, yep rfl ?_⟩
    exact ⟨_, rfl, _, _, _, _, false, rfl, .ty _, .base (.int n), kit_ty (by decide +kernel), _, rfl, q⟩
def spSame (K : PySem.W.Frag) (n : Nat) : Sp := fun vs H Q _ => ∃ (x y : V), vs = [x, y] ∧ Eqd K n H x y ∧ Q (.bl true) H
def spLow (K : PySem.W.Frag) : Nat → Sp
  | 0 => fun _ _ _ _ => False
  | n + 1 => spSame K n
theorem same_at (T : Tx K mg) (n k : Nat) (R0 : Ok PG w K mg base CX0 k (a_law_same K) p_law_same (spLow K n)) (hk : 2 ≤ k) : Ok PG w K mg base CX0 (k + 1) (a_law_same K) p_law_same (spSame K n) := by
  refine Ok.of k T.f_law_same sc_law_same bi_law_same (Nat.le_refl _) (fun vs H Q E h => ?_) (fun cdv A outer s H vs Q E hr h => ?_)
  · obtain ⟨_, _, rfl, _⟩ := h
    rfl
  · obtain ⟨x, y, rfl, hd, q⟩ := h
    have nd := sc_law_same.nd
    refine ⟨_, pss_cons (ps_if (pt_cmpR op_isN (pv 1) pe_non (nomark _)) (pss_one (ps_ret (pe_cmpR op_isN (pv 0) pe_non (nomark _)))) pss_nil)
      (pss_cons (ps_if (pt_cmpR op_isTF (pv 1) pe_bl (nomark _)) (pss_one (ps_ret (pe_cmpR op_isTF (pv 0) pe_bl (nomark _)))) pss_nil)
      (pss_cons (ps_if (pt_cmpR op_isTF (pv 1) pe_bl (nomark _)) (pss_one (ps_ret (pe_cmpR op_isTF (pv 0) pe_bl (nomark _)))) pss_nil)
      (pss_cons (ps_if (pt_val (pe_callB call_isi (by rfl) T.m_isinstance (by decide +kernel) (pa_cons (pv 1) (pa_cons (pe_bltn (v := .ty "int") (by rfl) T.m_int (by decide +kernel) rfl) pa_nil)))) (pss_one (ps_ret (pe_and (pc (ok_law_int T) (hr.mono hk) T.g_law_int pass0 (pa_cons (pv 0) pa_nil)) (pe_one (pe_cmpR op_eq (pv 0) (pv 1) (nomark _)))))) pss_nil)
      (pss_cons (ps_if (pt_val (pe_callB call_isi (by rfl) T.m_isinstance (by decide +kernel) (pa_cons (pv 1) (pa_cons (pe_bltn (v := .ty "str") (by rfl) T.m_str (by decide +kernel) rfl) pa_nil)))) (pss_one (ps_ret (pe_and (pe_callB call_isi (by rfl) T.m_isinstance (by decide +kernel) (pa_cons (pv 0) (pa_cons (pe_bltn (v := .ty "str") (by rfl) T.m_str (by decide +kernel) rfl) pa_nil))) (pe_one (pe_cmpR op_eq (pv 0) (pv 1) (nomark _)))))) pss_nil)
      (pss_cons (ps_if (pt_val (pe_callB call_isi (by rfl) T.m_isinstance (by decide +kernel) (pa_cons (pv 1) (pa_cons (pe_bltn (v := .ty "tuple") (by rfl) T.m_tuple (by decide +kernel) rfl) pa_nil))))
        (pss_one (ps_if (PW.pt (pw_or (pt_not (pt_val (pe_callB call_isi (by rfl) T.m_isinstance (by decide +kernel) (pa_cons (pv 0) (pa_cons (pe_bltn (v := .ty "tuple") (by rfl) T.m_tuple (by decide +kernel) rfl) pa_nil))))) (pw_or1 (pt_cmpR op_ne (pe_callB call_len_seq (by rfl) T.m_len PySem.boot_len (pa_cons (pv 0) pa_nil)) (pe_callB call_len_seq (by rfl) T.m_len PySem.boot_len (pa_cons (pv 1) pa_nil)) (nomark _))))) (pss_one (ps_ret pe_bl)) pss_nil))
        (pss_one (ps_if (PW.pt (pw_or (pt_not (pt_val (pe_callB call_isi (by rfl) T.m_isinstance (by decide +kernel) (pa_cons (pv 0) (pa_cons (pe_bltn (v := .ty "list") (by rfl) T.m_list (by decide +kernel) rfl) pa_nil))))) (pw_or1 (pt_cmpR op_ne (pe_callB call_len_seq (by rfl) T.m_len PySem.boot_len (pa_cons (pv 0) pa_nil)) (pe_callB call_len_seq (by rfl) T.m_len PySem.boot_len (pa_cons (pv 1) pa_nil)) (nomark _))))) (pss_one (ps_ret pe_bl)) pss_nil)))
      (pss_cons (ps_for (passX rfl) rfl (pi_range1 rfl T.m_range (pa_cons (pe_callB call_len_seq (by rfl) T.m_len PySem.boot_len (pa_cons (pv 1) pa_nil)) pa_nil)) (pg_name (i := 2) nd rfl (.inl rfl))
        (pss_one (ps_if (pt_not (pt_val (pc R0 hr T.g_law_same pass0 (pa_cons (pe_ix ix_seq (pv 0) (pv 2) (fun _ _ => rfl)) (pa_cons (pe_ix ix_seq (pv 1) (pv 2) (fun _ _ => rfl)) pa_nil))))) (pss_one (ps_ret pe_bl)) pss_nil)))
      (pss_one (ps_ret pe_bl)))))))), ?_⟩
    have hd2 : (x = y ∧ Atom x) ∨ ∃ m, n = m + 1 ∧ ∃ a b xs ys, x = .ref a ∧ y = .ref b ∧ ((SqT K H a xs ∧ SqT K H b ys) ∨ (SqL K H a xs ∧ SqL K H b ys)) ∧ xs.length = ys.length ∧ xs.length ≤ sizeLine ∧ ∀ (i : Nat) (u v : V), xs[i]? = some u → ys[i]? = some v → Eqd K m H u v := by
      cases n with
      | zero => exact .inl hd
      | succ m => exact hd.imp id fun z => ⟨m, rfl, z⟩
    rcases hd2 with ⟨rfl, ha⟩ | ⟨m, rfl, a, b, xs, ys, rfl, rfl, hs, hl, hz, hi⟩
    · cases ha with
      | non =>
        refine ⟨_, rfl, rfl, _, rfl, yep (by simp) ?_⟩
        exact ⟨_, rfl, rfl, by simpa using q⟩
      | bl b =>
        refine ⟨_, rfl, rfl, _, rfl, nope (by simp) ?_⟩
        cases b with
        | true =>
          refine ⟨_, rfl, _, rfl, _, rfl, yep (by simp) ?_⟩
          exact ⟨_, rfl, _, rfl, by simpa using q⟩
        | false =>
          refine ⟨_, rfl, _, rfl, _, rfl, nope (by simp) ?_⟩
          refine ⟨_, rfl, _, rfl, _, rfl, yep (by simp) ?_⟩
          exact ⟨_, rfl, _, rfl, by simpa using q⟩
      | int i =>
        refine ⟨_, rfl, rfl, _, rfl, nope (by simp) ?_⟩
        refine ⟨_, rfl, _, rfl, _, rfl, nope (by simp) ?_⟩
        refine ⟨_, rfl, _, rfl, _, rfl, nope (by simp) ?_⟩
        refine ⟨_, rfl, _, _, _, _, true, rfl, .ty _, .base (.int i), kit_ty (by decide +kernel), _, rfl, yep rfl ?_⟩
        refine ⟨_, rfl, i, rfl, _, rfl, yep rfl ?_⟩
        exact ⟨_, rfl, _, rfl, rfl, by simpa using q⟩
      | str z =>
        refine ⟨_, rfl, rfl, _, rfl, nope (by simp) ?_⟩
        refine ⟨_, rfl, _, rfl, _, rfl, nope (by simp) ?_⟩
        refine ⟨_, rfl, _, rfl, _, rfl, nope (by simp) ?_⟩
        refine ⟨_, rfl, _, _, _, _, false, rfl, .ty _, .base (.str z), kit_ty (by decide +kernel), _, rfl, nope rfl ?_⟩
        refine ⟨_, rfl, _, _, _, _, true, rfl, .ty _, .base (.str z), kit_ty (by decide +kernel), _, rfl, yep rfl ?_⟩
        refine ⟨_, rfl, _, _, _, _, true, rfl, .ty _, .base (.str z), kit_ty (by decide +kernel), _, rfl, yep rfl ?_⟩
        exact ⟨_, rfl, _, rfl, rfl, by simpa using q⟩
    · refine ⟨_, rfl, rfl, _, rfl, nope (by simp) ?_⟩
      refine ⟨_, rfl, _, rfl, _, rfl, nope (by simp) ?_⟩
      refine ⟨_, rfl, _, rfl, _, rfl, nope (by simp) ?_⟩
      have hsz : ys.length < 2 ^ 62 := by rw [← hl]; rw [sizeLine_eq] at hz; omega
      rcases hs with ⟨h1, h2⟩ | ⟨h1, h2⟩
      · refine ⟨_, rfl, _, _, _, _, false, rfl, .ty _, h2.ty, kit_ty (by decide +kernel), _, rfl, nope rfl ?_⟩
        refine ⟨_, rfl, _, _, _, _, false, rfl, .ty _, h2.ty, kit_ty (by decide +kernel), _, rfl, nope rfl ?_⟩
        refine ⟨_, rfl, _, _, _, _, true, rfl, .ty _, h2.ty, kit_ty (by decide +kernel), _, rfl, yep rfl ?_⟩
        refine ⟨_, rfl, _, _, _, _, true, rfl, .ty _, h1.ty, kit_ty (by decide +kernel), _, rfl, nope rfl ?_⟩
        refine ⟨_, rfl, a, xs, rfl, .inr h1, _, rfl, b, ys, rfl, .inr h2, rfl, _, rfl, nope (by simp [hl]) ?_⟩
        refine ⟨_, rfl, b, ys, rfl, .inr h2, _, rfl, by omega, by omega, ?_⟩
        refine for_range (lo := 0) (n := ys.length) (fun i σ H' => H' = H ∧ σ.length = 3 ∧ σ[0]? = some (some (.ref a)) ∧ σ[1]? = some (some (.ref b))) ⟨rfl, rfl, rfl, rfl⟩ ?_ ?_
        · rintro i σ H' hi' ⟨rfl, hl3, z0, z1⟩
          have hx : xs[i]? = some xs[i] := List.getElem?_eq_getElem (by omega)
          have hy : ys[i]? = some ys[i] := List.getElem?_eq_getElem hi'
          have w0 : (σ.set 2 (some (.int (0 + (i : Nat)))))[0]? = some (some (.ref a)) := by rw [List.getElem?_set_ne (by decide)]; exact z0
          have w1 : (σ.set 2 (some (.int (0 + (i : Nat)))))[1]? = some (some (.ref b)) := by rw [List.getElem?_set_ne (by decide)]; exact z1
          have w2 : (σ.set 2 (some (.int (0 + (i : Nat)))))[2]? = some (some (.int (i : Nat))) := by rw [List.getElem?_set_self (by omega), Int.zero_add]
          refine ⟨_, w0, _, w2, .inr (.inl ⟨a, xs, _, _, rfl, rfl, h1, atI_nat hx, _, w1, _, w2, .inr (.inl ⟨b, ys, _, _, rfl, rfl, h2, atI_nat hy, ?_⟩)⟩)⟩
          exact ⟨_, _, rfl, hi i _ _ hx hy, _, rfl, nope rfl ⟨rfl, by simp [hl3], w0, w1⟩⟩
        · rintro σ H' ⟨rfl, _⟩
          exact q
      · refine ⟨_, rfl, _, _, _, _, false, rfl, .ty _, h2.ty, kit_ty (by decide +kernel), _, rfl, nope rfl ?_⟩
        refine ⟨_, rfl, _, _, _, _, false, rfl, .ty _, h2.ty, kit_ty (by decide +kernel), _, rfl, nope rfl ?_⟩
        refine ⟨_, rfl, _, _, _, _, false, rfl, .ty _, h2.ty, kit_ty (by decide +kernel), _, rfl, nope rfl ?_⟩
        refine ⟨_, rfl, _, _, _, _, true, rfl, .ty _, h1.ty, kit_ty (by decide +kernel), _, rfl, nope rfl ?_⟩
        refine ⟨_, rfl, a, xs, rfl, .inl h1, _, rfl, b, ys, rfl, .inl h2, rfl, _, rfl, nope (by simp [hl]) ?_⟩
        refine ⟨_, rfl, b, ys, rfl, .inl h2, _, rfl, by omega, by omega, ?_⟩
        refine for_range (lo := 0) (n := ys.length) (fun i σ H' => H' = H ∧ σ.length = 3 ∧ σ[0]? = some (some (.ref a)) ∧ σ[1]? = some (some (.ref b))) ⟨rfl, rfl, rfl, rfl⟩ ?_ ?_
        · rintro i σ H' hi' ⟨rfl, hl3, z0, z1⟩
          have hx : xs[i]? = some xs[i] := List.getElem?_eq_getElem (by omega)
          have hy : ys[i]? = some ys[i] := List.getElem?_eq_getElem hi'
          have w0 : (σ.set 2 (some (.int (0 + (i : Nat)))))[0]? = some (some (.ref a)) := by rw [List.getElem?_set_ne (by decide)]; exact z0
          have w1 : (σ.set 2 (some (.int (0 + (i : Nat)))))[1]? = some (some (.ref b)) := by rw [List.getElem?_set_ne (by decide)]; exact z1
          have w2 : (σ.set 2 (some (.int (0 + (i : Nat)))))[2]? = some (some (.int (i : Nat))) := by rw [List.getElem?_set_self (by omega), Int.zero_add]
          refine ⟨_, w0, _, w2, .inl ⟨a, xs, _, _, rfl, rfl, h1, atI_nat hx, _, w1, _, w2, .inl ⟨b, ys, _, _, rfl, rfl, h2, atI_nat hy, ?_⟩⟩⟩
          exact ⟨_, _, rfl, hi i _ _ hx hy, _, rfl, nope rfl ⟨rfl, by simp [hl3], w0, w1⟩⟩
        · rintro σ H' ⟨rfl, _⟩
          exact q
theorem ok_law_same (T : Tx K mg) : ∀ n, Ok PG w K mg base CX0 (3 + n) (a_law_same K) p_law_same (spSame K n)
  | 0 => same_at T 0 2 (by
      obtain ⟨fd, F⟩ := T.f_law_same
      exact ⟨fd, ⟨fun _ _ _ _ h => h.elim, fun _ _ _ _ _ _ _ _ _ _ _ _ _ h => h.elim⟩, bi_law_same F, F.kp⟩) (Nat.le_refl _)
  | n + 1 => same_at T (n + 1) (3 + n) (ok_law_same T n) (by omega)
end
end K02
namespace K02
open PySem PySem.Spec PyProof.Rows L2
section
variable {w : World} {K : PySem.W.Frag} {mg : Str → Option Value} {base : Heap}
abbrev xT (n : Int) : HO := .xd [("count", .int n)]
abbrev xB (i n : Int) : HO := .xd [("number", .int n), ("place", .int i)]
def spCount (K : PySem.W.Frag) : Sp := fun vs H Q E => ∃ (n m : Int), vs = [.int n, .int m] ∧ (n > m → Rs (c_TooLong K) (xT n) H E) ∧ (¬ n > m → Q .non H)
theorem ok_check_count (T : Tx K mg) : Ok PG w K mg base (L2.CX PG w) 3 (a_check_count K) p_check_count (spCount K) := by
  refine Ok.of 2 T.f_check_count sc_check_count bi_check_count (by decide) (fun vs H Q E h => ?_) (fun cdv A outer s H vs Q E hr h => ?_)
  · obtain ⟨n, m, rfl, _⟩ := h
    rfl
  · obtain ⟨n, m, rfl, h1, h2⟩ := h
    refine ⟨_, pss_one (ps_if (pt_cmpR op_gt (pv 0) (pv 1) (nomark _)) (pss_one (ps_raiseX rfl T.e_TooLong (by decide) (by decide) hr (takes_of rfl rfl rfl rfl) rfl (pa_cons (pv 0) pa_nil))) pss_nil), ?_⟩
    refine ⟨_, rfl, _, rfl, _, _, rfl, rfl, _, rfl, ?_⟩
    refine ite2 (fun c => ?_) (fun c => ?_)
    · refine ⟨_, rfl, rfl, fun d hd => (h1 (of_decide_eq_true c)).now d hd⟩
    · exact h2 (of_decide_eq_false (by simpa using c))
def spNeg (K : PySem.W.Frag) : Sp := fun vs H Q E => ∃ (n : Int), vs = [.int n] ∧ (n < 0 → Rs (c_BadNumber K) (xB 0 n) H E) ∧ (¬ n < 0 → Q .non H)
theorem ok_check_not_negative (T : Tx K mg) : Ok PG w K mg base (L2.CX PG w) 3 (a_check_not_negative K) p_check_not_negative (spNeg K) := by
  refine Ok.of 2 T.f_check_not_negative sc_check_not_negative bi_check_not_negative (by decide) (fun vs H Q E h => ?_) (fun cdv A outer s H vs Q E hr h => ?_)
  · obtain ⟨n, rfl, _⟩ := h
    rfl
  · obtain ⟨n, rfl, h1, h2⟩ := h
    refine ⟨_, pss_one (ps_if (pt_cmpR op_lt (pv 0) pe_int (nomark _)) (pss_one (ps_raiseX rfl T.e_BadNumber (by decide) (by decide) hr (takes_of rfl rfl rfl rfl) rfl (pa_cons pe_int (pa_cons (pv 0) pa_nil)))) pss_nil), ?_⟩
    refine ⟨_, rfl, _, _, rfl, rfl, _, rfl, ?_⟩
    refine ite2 (fun c => ?_) (fun c => ?_)
    · refine ⟨_, rfl, rfl, fun d hd => (h1 (of_decide_eq_true c)).now d hd⟩
    · exact h2 (of_decide_eq_false (by simpa using c))
/-- the first of ns that is not from 0 to g -/
def bad (g : Int) : Nat → List Int → Option (Nat × Int)
  | _, [] => none
  | i, n :: ns => if 0 ≤ n ∧ n ≤ g then bad g (i + 1) ns else some (i, n)
theorem bad_step {g : Int} : ∀ {k : Nat} {ns : List Int} {i : Nat}, bad g (k + i) (ns.drop i) = bad g k ns → ∀ {n : Int}, ns[i]? = some n → (0 ≤ n ∧ n ≤ g → bad g (k + (i + 1)) (ns.drop (i + 1)) = bad g k ns) ∧ (¬ (0 ≤ n ∧ n ≤ g) → bad g k ns = some (k + i, n)) := by
  intro k ns i h n hn
  obtain ⟨hi, e⟩ := List.getElem?_eq_some_iff.mp hn
  rw [List.drop_eq_getElem_cons hi, e] at h
  constructor
  · intro c
    rw [← h, bad, if_pos c]
    rfl
  · intro c
    rw [← h, bad, if_neg c]
theorem bad_end {g : Int} {k : Nat} {ns : List Int} (h : bad g (k + ns.length) (ns.drop ns.length) = bad g k ns) : bad g k ns = none := by
  rw [← h, List.drop_length]
  rfl
theorem bad_none {g : Int} : ∀ {k : Nat} {ns : List Int}, bad g k ns = none ↔ ∀ n ∈ ns, 0 ≤ n ∧ n ≤ g
  | _, [] => by simp [bad]
  | k, n :: ns => by
    rw [bad]
    split
    · rename_i c
      rw [bad_none (ns := ns)]
      simp [c]
    · rename_i c
      simp [c]
def spOneNum (K : PySem.W.Frag) : Sp := fun vs H Q E => ∃ (i n g : Int), vs = [.int i, .int n, .int g] ∧ (¬ (0 ≤ n ∧ n ≤ g) → Rs (c_BadNumber K) (xB i n) H E) ∧ (0 ≤ n ∧ n ≤ g → Q .non H)
theorem ok_check_number (T : Tx K mg) : Ok PG w K mg base (L2.CX PG w) 2 (a_check_number K) p_check_number (spOneNum K) := by
  refine Ok.of 1 T.f_check_number sc_check_number bi_check_number (by decide) (fun vs H Q E h => ?_) (fun cdv A outer s H vs Q E hr h => ?_)
  · obtain ⟨_, _, _, rfl, _⟩ := h
    rfl
  · obtain ⟨i, n, g, rfl, h1, h2⟩ := h
    refine ⟨_, pss_one (ps_if (pt_not (pt_chain op_le op_le pe_int (pv 1) (pv 2))) (pss_one (ps_raiseX rfl T.e_BadNumber (by decide) (by decide) hr (takes_of rfl rfl rfl rfl) rfl (pa_cons (pv 0) (pa_cons (pv 1) pa_nil)))) pss_nil), ?_⟩
    refine ⟨_, rfl, _, _, rfl, rfl, _, rfl, ite2 (fun c => ?_) (fun c => ?_)⟩
    · refine ⟨_, rfl, _, _, rfl, rfl, _, rfl, ite2 (fun d => ?_) (fun d => ?_)⟩
      · exact ⟨_, rfl, _, rfl, rfl, fun z hz => (h1 (fun y => by simp [y.2] at d)).now z hz⟩
      · exact h2 ⟨of_decide_eq_true c, by simpa using d⟩
    · refine ⟨_, rfl, iteT ?_⟩
      exact ⟨_, rfl, _, rfl, rfl, fun z hz => (h1 (fun y => c (decide_eq_true y.1))).now z hz⟩
def spNums (K : PySem.W.Frag) : Sp := fun vs H Q E => ∃ (a : Addr) (ns : List Int) (g : Int), vs = [.ref a, .int g] ∧ SqA K H a (ns.map V.int) ∧
  (∀ i n, bad g 0 ns = some (i, n) → Rs (c_BadNumber K) (xB (i : Nat) n) H E) ∧ (bad g 0 ns = none → ∀ H', Same H H' → Q .non H')
theorem ok_check_numbers (T : Tx K mg) : Ok PG w K mg base (L2.CX PG w) 3 (a_check_numbers K) p_check_numbers (spNums K) := by
  refine Ok.of 2 T.f_check_numbers sc_check_numbers bi_check_numbers (by decide) (fun vs H Q E h => ?_) (fun cdv A outer s H vs Q E hr h => ?_)
  · obtain ⟨n, m, _, rfl, _⟩ := h
    rfl
  · obtain ⟨a, ns, g, rfl, hs, h1, h2⟩ := h
    have nd := sc_check_numbers.nd
    refine ⟨_, pss_one (ps_for (passX rfl) rfl (pi_enumW (by rfl) T.m_enumerate (pa_cons (pv 0) pa_nil)) (pg_tup rfl (pgs_cons (pg_name (i := 2) nd rfl (.inl rfl)) (pgs_cons (pg_name (i := 3) nd rfl (.inl rfl)) pgs_nil)))
      (pss_one (ps_expr (pc (ok_check_number T) hr T.g_check_number px (pa_cons (pv 2) (pa_cons (pv 3) (pa_cons (pv 1) pa_nil))))))), ?_⟩
    refine ⟨_, rfl, a, ns.map V.int, rfl, hs, fun J G hG wk => ?_⟩
    refine for_it wk (fun i σ H' => Same H H' ∧ bad g (0 + i) (ns.drop i) = bad g 0 ns ∧ σ.length = 4 ∧ σ[1]? = some (some (.int g))) ⟨.refl _, rfl, rfl, rfl⟩ (fun i σ H' _ p => hG H' p.1) (fun i x σ H0 H1 hi p y => ?_) (fun σ H' p => ?_)
    · obtain ⟨sm, hb, hl, hg⟩ := p
      obtain ⟨T', x', y', rfl, hT, rfl, e1, e2⟩ := y
      obtain ⟨n, hn, rfl⟩ := map_get e2
      cases e1
      have sm' : Same H (upd H0 T' (.tup [.int (i : Nat), .int n])) := sm.new' hT
      obtain ⟨b1, b2⟩ := bad_step hb hn
      have z2 : ((σ.set 2 (some (V.int (i : Nat)))).set 3 (some (V.int n)))[2]? = some (some (.int (i : Nat))) := by
        rw [List.getElem?_set_ne (by decide), List.getElem?_set_self (by omega)]
      have z3 : ((σ.set 2 (some (V.int (i : Nat)))).set 3 (some (V.int n)))[3]? = some (some (.int n)) := by
        rw [List.getElem?_set_self (by rw [List.length_set]; omega)]
      have z1 : ((σ.set 2 (some (V.int (i : Nat)))).set 3 (some (V.int n)))[1]? = some (some (.int g)) := by
        rw [List.getElem?_set_ne (by decide), List.getElem?_set_ne (by decide)]; exact hg
      refine ⟨T', _, rfl, SqT.of upd_same, rfl, _, _, rfl, _, _, rfl, rfl, ?_⟩
      exact ⟨_, z2, _, z3, _, z1, (i : Nat), n, g, rfl, fun c d H2 s2 hd => h1 i n (by have := b2 c; rwa [Nat.zero_add] at this) _ _ (sm'.trans s2) hd, fun c => ⟨sm', b1 c, by simp [hl], z1⟩⟩
    · refine h2 (bad_end (k := 0) ?_) H' p.1
      have := p.2.1
      rwa [List.length_map] at this
end
end K02

set_option maxRecDepth 100000
set_option maxHeartbeats 4000000
/-! # zip(t, u), two tuples -/
namespace L2
open PySem PySem.Spec PyProof.Rows
def ItzT (K : PySem.W.Frag) (a b : Addr) : It :=
  ⟨fun i H => ∃ xs ys : List V, SqT K H a xs ∧ SqT K H b ys ∧ i < xs.length ∧ i < ys.length,
   fun i H v H' => ∃ T x y, v = .ref T ∧ H T = none ∧ H' = upd H T (.tup [x, y]) ∧ (∀ xs, SqT K H a xs → xs[i]? = some x) ∧ ∀ ys, SqT K H b ys → ys[i]? = some y,
   fun i H => ∃ xs ys : List V, SqT K H a xs ∧ SqT K H b ys ∧ min xs.length ys.length = i⟩
/-- what the five cells of the walk look like at turn i -/
def ZipAt (z TI TO i1 i2 a b : Addr) (i : Nat) (h : Heap) : Prop := IsZip h z TI TO .none ∧ IsTupOf2 h TI (.ref i1) (.ref i2) ∧ (∃ a1 a2, IsTupOf2 h TO a1 a2) ∧ h.IsTupleIter i1 a i ∧ h.IsTupleIter i2 b i
theorem turn_zipT {P : Program} {w : World} {K : PySem.W.Frag} {elts : List Expr} {kk : Nat} {tpos : Pos} {a b z TI TO i1 i2 : Addr} (S : ZipSep2 z TI TO i1 i2 [i1, a] [i2, b]) :
    Turn P w K (.Tuple elts kk tpos) (ItzT K a b) [z, TI, TO, i1, i2] z (ZipAt z TI TO i1 i2 a b) where
  mem := by simp
  obj := fun i h st c hc => by
    obtain ⟨h1, h2, ⟨a1, a2, h3⟩, ⟨o4, h4, _, d4⟩, ⟨o5, h5, _, d5⟩⟩ := st
    have e' : c = z ∨ c = TI ∨ c = TO ∨ c = i1 ∨ c = i2 := by simpa using hc
    rcases e' with q | q | q | q | q <;> subst q
    · exact ⟨_, h1, fun v q => nomatch q⟩
    · exact ⟨_, h2, fun v q => nomatch q⟩
    · exact ⟨_, h3, fun v q => nomatch q⟩
    · exact ⟨o4, h4, fun v q => by rw [d4] at q; cases q⟩
    · exact ⟨o5, h5, fun v q => by rw [d5] at q; cases q⟩
  keep := fun i h h' st k => by
    obtain ⟨h1, h2, ⟨a1, a2, h3⟩, h4, h5⟩ := st
    exact ⟨k z (by simp) _ h1, k TI (by simp) _ h2, ⟨a1, a2, k TO (by simp) _ h3⟩, h4.at fun o q => k i1 (by simp) o q, h5.at fun o q => k i2 (by simp) o q⟩
  item := by
    intro X hP hw hK hc i pins s σ H E I hf st hg
    subst hP hw hK
    obtain ⟨h1, h2, h3, h4, h5⟩ := st
    obtain ⟨xs, ys, hx, hy, lx, ly⟩ := hg
    obtain ⟨its, rv, p, _⟩ := I.tuple hx
    obtain ⟨its2, rv2, p2, _⟩ := I.tuple hy
    have dif : ∀ {t u : Addr} {j : Nat} {js : Array Value}, s.heap.IsTupleIter t u j → ∀ {c : Addr}, s.heap.IsTuple c js → c ≠ t := fun {t u j js} hi {c} ht e => by
      obtain ⟨o, ho, hcls, _⟩ := ht
      obtain ⟨o2, ho2, hc2, _⟩ := hi
      rw [e, ho2] at ho
      cases ho
      rw [hc2] at hcls
      exact absurd hcls (by decide)
    have W := GoesN.zip2 (prog := X.prog) (w := X.w) (A := X.A) (elts := elts) (x1 := kk) (pos := tpos) S (Draws.tuple (prog := X.prog) (w := X.w) (A := X.A.in1) (I.ok.hd hc) i1 a (dif h4 p) its.toArray) (Draws.tuple (prog := X.prog) (w := X.w) (A := X.A.in1) (I.ok.hd hc) i2 b (dif h5 p2) its2.toArray)
    have n1 : i < min its.toArray.size its2.toArray.size := by
      rw [List.size_toArray, List.size_toArray, ← rv.length, ← rv2.length]
      omega
    refine wpAny_mono (W.goes i s _ E n1 ⟨h1, h2, h3, ⟨h4, p⟩, h5, p2⟩ fun v h' tk hY st' hk htk => ?_) (fun r s1 hr => hr) fun _ _ q => q
    obtain ⟨T, u1, u2, rfl, hT, e1, e2, hTup⟩ := hY
    obtain ⟨g1, g2, g3, ⟨g4, _⟩, g5, _⟩ := st'
    have hxi : xs[i]? = some xs[i] := List.getElem?_eq_getElem lx
    have hyi : ys[i]? = some ys[i] := List.getElem?_eq_getElem ly
    obtain ⟨v1, hv1, r1⟩ := rv.get hxi
    obtain ⟨v2, hv2, r2⟩ := rv2.get hyi
    have q1 : u1 = v1 := by
      have : its[i]? = some u1 := by simpa using e1
      rw [hv1] at this; exact (Option.some.inj this).symm
    have q2 : u2 = v2 := by
      have : its2[i]? = some u2 := by simpa using e2
      rw [hv2] at this; exact (Option.some.inj this).symm
    subst q1 q2
    have I1 : Inv X pins σ (upd H T (.tup [xs[i], ys[i]])) { s with heap := h', toks := tk } :=
      I.turnedNew (ch := [z, TI, TO, i1, i2]) (fun c o hb q => hk c o (fun m => hb (by
        have e' : c = z ∨ c = TO ∨ c = i1 ∨ c = i2 := by simpa using m
        rcases e' with q | q | q | q <;> simp [q])) q) hf hT ⟨by show 2 ≤ sizeLine; decide, [u1, u2], .cons r1 (.cons r2 .nil), hTup⟩
    refine ⟨.ref T, _, I1, rfl, ⟨T, _, _, rfl, I.hok.fresh hT, rfl, fun l hl => by rw [I.tuple_inj hl hx]; exact hxi, fun l hl => by rw [I.tuple_inj hl hy]; exact hyi⟩, ⟨g1, g2, g3, g4, g5⟩, fun c hc' => ?_⟩
    have lt : c < s.heap.objs.size := by
      have e' : c = z ∨ c = TI ∨ c = TO ∨ c = i1 ∨ c = i2 := by simpa using hc'
      obtain ⟨_, _, g3'⟩ := h3
      obtain ⟨_, w4, _⟩ := h4
      obtain ⟨_, w5, _⟩ := h5
      rcases e' with q | q | q | q | q <;> rw [q]
      · exact Heap.lt_size h1
      · exact Heap.lt_size h2
      · exact Heap.lt_size g3'
      · exact Heap.lt_size w4
      · exact Heap.lt_size w5
    rw [upd_ne (Nat.ne_of_lt (Nat.lt_of_lt_of_le lt hT))]
    exact (hf c hc').1
  done := by
    intro X hP hw hK hc i pins s σ H E I hf st hg
    subst hP hw hK
    obtain ⟨h1, h2, h3, h4, h5⟩ := st
    obtain ⟨xs, ys, hx, hy, hend⟩ := hg
    obtain ⟨its, rv, p, _⟩ := I.tuple hx
    obtain ⟨its2, rv2, p2, _⟩ := I.tuple hy
    have dif : ∀ {t u : Addr} {j : Nat} {js : Array Value}, s.heap.IsTupleIter t u j → ∀ {c : Addr}, s.heap.IsTuple c js → c ≠ t := fun {t u j js} hi {c} ht e => by
      obtain ⟨o, ho, hcls, _⟩ := ht
      obtain ⟨o2, ho2, hc2, _⟩ := hi
      rw [e, ho2] at ho
      cases ho
      rw [hc2] at hcls
      exact absurd hcls (by decide)
    have W := GoesN.zip2 (prog := X.prog) (w := X.w) (A := X.A) (elts := elts) (x1 := kk) (pos := tpos) S (Draws.tuple (prog := X.prog) (w := X.w) (A := X.A.in1) (I.ok.hd hc) i1 a (dif h4 p) its.toArray) (Draws.tuple (prog := X.prog) (w := X.w) (A := X.A.in1) (I.ok.hd hc) i2 b (dif h5 p2) its2.toArray)
    have n1 : min its.toArray.size its2.toArray.size = i := by
      rw [List.size_toArray, List.size_toArray, ← rv.length, ← rv2.length]
      exact hend
    rw [n1] at W
    refine wpAny_mono (W.stops s (fun s1 => Inv X pins σ H s1) E ⟨h1, h2, h3, ⟨h4, p⟩, h5, p2⟩ fun h' tk hk htk => I.turnedL (t' := tk) (ch := [z, TI, TO, i1, i2]) (fun c o hb q => hk c o (fun m => hb ?_) q) hf) (fun r s1 hr => hr) fun _ _ q => q
    have e' : c = z ∨ c = TO ∨ c = i1 ∨ c = i2 := by simpa using m
    rcases e' with q | q | q | q <;> simp [q]
  self := fun A i s Q E st h => wpAny_pyIter_zip st.1 h
theorem walk_zipT {K : PySem.W.Frag} {a b : Addr} {xs ys : List V} : Walk (ItzT K a b) (min xs.length ys.length) (fun H => SqT K H a xs ∧ SqT K H b ys) (YPair (fun i => xs[i]?) (fun i => ys[i]?)) where
  goes := fun i H hi h => ⟨xs, ys, h.1, h.2, by omega, by omega⟩
  stops := fun H h => ⟨xs, ys, h.1, h.2, rfl⟩
  yields := fun i H v H' hi h y => by
    obtain ⟨T, x, y, rfl, hT, rfl, h1, h2⟩ := y
    exact ⟨T, x, y, rfl, hT, rfl, h1 xs h.1, h2 ys h.2⟩
/-- zip(t, u) -/
def iZipT (K : PySem.W.Frag) (ta : TA) : TI := fun σ H R => ta σ H fun vs H1 => ∃ a b xs ys, vs = [.ref a, .ref b] ∧ SqT K H1 a xs ∧ SqT K H1 b ys ∧ R (ItzT K a b) H1
theorem pi_zipT {X : Cx} {e e2 : Expr} {ta : TA} {p pos tpos : Pos} {elts : List Expr} {kk : Nat} (hm : X.mg "zip" = none) (ha : PA X [e, e2] ta) (hg : Gl X "zip" := by rfl)
    (hs : starEach [e, e2] X.env = (false, eval e X.env) :: starEach [e2] X.env := by rfl) (hpl : (backTo pos (starEach [e2] X.env)).any (·.1) = false := by rfl) :
    PI X (.Tuple elts kk tpos) (.Call (.Name "zip" p) [e, e2] [] pos) (iZipT X.K ta) := by
  refine ⟨fun pins s σ H R I h => Call_ (ld_blt I hg hm PyProof.Rows.boot_zip (PyProof.Rows.callWith_type1 (thn (ha.run pos pins s σ H _ I h) fun us s1 ⟨vs, H1, I1, r1, q1⟩ => ?_) hs hpl))⟩
  obtain ⟨a, b, xs, ys, ex, hx, hy, q⟩ := q1
  subst ex
  cases r1 with
  | cons r rr =>
  cases rr with
  | cons r' rr =>
  cases rr
  cases r
  cases r'
  obtain ⟨its, rv, p1, _⟩ := I1.tuple hx
  obtain ⟨its2, rv2, p2, _⟩ := I1.tuple hy
  have lt : ∀ {c : Addr} {js : Array Value}, IsTup s1.heap c js → c < s1.heap.objs.size := fun h => by obtain ⟨_, h, _⟩ := h; exact Heap.lt_size h
  refine zip_begins2 (begins_tuple a its.toArray) (begins_tuple b its2.toArray) p1 p2 fun h' hz hTI hTO h1 h2 hsz hk => wpAny_pyIter_zip hz ?_
  refine ⟨s1.heap.objs.size + 4, [s1.heap.objs.size + 4, s1.heap.objs.size + 2, s1.heap.objs.size + 3, s1.heap.objs.size, s1.heap.objs.size + 1], _, _, H1, rfl, I1.kept (t' := s1.toks) hk, turn_zipT (zip_sep2 (fp1 := [a]) (fp2 := [b]) (fun c m => by rw [List.mem_singleton.mp m]; exact lt p1) (fun c m => by rw [List.mem_singleton.mp m]; exact lt p2)), ⟨hz, hTI, ⟨_, _, hTO⟩, ⟨_, h1, rfl, rfl⟩, ⟨_, h2, rfl, rfl⟩⟩, fun c m => ?_, q⟩
  have le : s1.heap.objs.size ≤ c := by
    have e' : c = s1.heap.objs.size + 4 ∨ c = s1.heap.objs.size + 2 ∨ c = s1.heap.objs.size + 3 ∨ c = s1.heap.objs.size ∨ c = s1.heap.objs.size + 1 := by simpa using m
    rcases e' with z | z | z | z | z <;> rw [z]
    · exact Nat.le_add_right _ _
    · exact Nat.le_add_right _ _
    · exact Nat.le_add_right _ _
    · exact Nat.le_refl _
    · exact Nat.le_add_right _ _
  exact I1.fpOk le (I1.hok.fresh le)
end L2

set_option maxRecDepth 100000
set_option maxHeartbeats 4000000
namespace K02
open PySem PySem.Spec PyProof.Rows L2
section
variable {w : World} {K : PySem.W.Frag} {mg : Str → Option Value} {base : Heap}
abbrev top : Int := 1000000000000000000000000000000
/-- at p a Telling of ns -/
def IsW (K : PySem.W.Frag) (H : Hp) (p : Addr) (ns : List Int) : Prop := ∃ dx t, H p = some (.ins (c_Telling K) dx [("entries", .ref t)]) ∧ SqT K H t (ns.map V.int)
theorem IsW.same {H H' : Hp} {p : Addr} {ns : List Int} (h : IsW K H p ns) (s : Same H H') : IsW K H' p ns := let ⟨dx, t, a, b⟩ := h; ⟨dx, t, s _ _ a, s.seqT b⟩
structure Mkr (K : PySem.W.Frag) (ns : List Int) (H : Hp) (Q : VK) (E : XK) : Prop where
  long : 30 < ns.length → Rs (c_TooLong K) (xT ns.length) H E
  bad_ : ns.length ≤ 30 → ∀ i n, bad top 0 ns = some (i, n) → Rs (c_BadNumber K) (xB (i : Nat) n) H E
  good : ns.length ≤ 30 → bad top 0 ns = none → ∀ H' p, Same H H' → IsW K H' p ns → Q (.ref p) H'
theorem Mkr.same {ns : List Int} {H H' : Hp} {Q : VK} {E : XK} (h : Mkr K ns H Q E) (s : Same H H') : Mkr K ns H' Q E :=
  ⟨fun c => (h.long c).same s, fun c i n e => (h.bad_ c i n e).same s, fun c e H2 p s2 g => h.good c e H2 p (s.trans s2) g⟩
def spInit (K : PySem.W.Frag) : Sp := fun vs H Q E => ∃ (x a dx : Addr) (ns : List Int), vs = [.ref x, .ref a] ∧ H x = some (.ins (c_Telling K) dx []) ∧ SqA K H a (ns.map V.int) ∧
  (30 < ns.length → Rs (c_TooLong K) (xT ns.length) H E) ∧ (ns.length ≤ 30 → ∀ i n, bad top 0 ns = some (i, n) → Rs (c_BadNumber K) (xB (i : Nat) n) H E) ∧
  (ns.length ≤ 30 → bad top 0 ns = none → ∀ H' t, Same H H' → SqT K H' t (ns.map V.int) → Q .non (upd H' x (.ins (c_Telling K) dx [("entries", .ref t)])))
theorem ok_Telling_init (T : Tx K mg) : Ok PG w K mg base (L2.CX PG w) 4 (a_Telling_init K) p_Telling_init (spInit K) := by
  refine Ok.of 3 T.f_Telling_init sc_Telling_init bi_Telling_init (by decide) (fun vs H Q E h => ?_) (fun cdv A outer s H vs Q E hr h => ?_)
  · obtain ⟨n, m, _, _, rfl, _⟩ := h
    rfl
  · obtain ⟨x, a, dx, ns, rfl, hx, ha, h1, h2, h3⟩ := h
    have nd := sc_Telling_init.nd
    obtain ⟨u1, cv1⟩ := T.v_MOST_PEOPLE
    obtain ⟨u2, cv2⟩ := T.v_LIMIT
    refine ⟨_, pss_cons (ps_expr (pc (ok_check_count T) hr T.g_check_count px (pa_cons (pe_callB call_len_seq (by rfl) T.m_len PySem.boot_len (pa_cons (pv 1) pa_nil)) (pa_cons (pe_glob (v := .int 30) rfl cv1 ⟨_, rfl⟩) pa_nil))))
      (pss_cons (ps_expr (pc (ok_check_numbers T) hr T.g_check_numbers px (pa_cons (pv 1) (pa_cons (pe_glob (v := .int top) rfl cv2 ⟨_, rfl⟩) pa_nil))))
      (pss_one (ps_fld (pv 0) (pe_callTy call_tuple_of (by rfl) T.m_tuple (by decide +kernel) (pa_cons (pv 1) pa_nil)) rfl))), ?_⟩
    refine ⟨_, rfl, a, _, rfl, ha, _, _, rfl, fun c => ?_, fun c => ?_⟩
    · have := h1 (by rw [List.length_map] at c; omega)
      rw [List.length_map]
      exact this
    · have hl : ns.length ≤ 30 := by rw [List.length_map] at c; omega
      refine ⟨_, rfl, a, ns, top, rfl, ha, fun i n e => h2 hl i n e, fun e H' sm => ?_⟩
      have fin : ∀ t H2, Same H H2 → SqT K H2 t (ns.map V.int) → Q .non (upd H2 x (.ins (c_Telling K) dx [("entries", .ref t)])) := fun t H2 s2 ht => h3 hl e H2 t s2 ht
      rcases sm.seqA ha with ha' | ha'
      · refine ⟨_, rfl, a, _, rfl, .inl ⟨ha', fun l hl' => ?_⟩⟩
        have hx' : upd H' l (.tup (ns.map V.int)) x = some (.ins (c_Telling K) dx []) := (Same.new hl') _ _ (sm _ _ hx)
        exact ⟨_, rfl, x, c_Telling K, dx, _, rfl, hx', T.cTelling, T.nTelling_entries, by decide, fin l _ (sm.new' hl') (SqT.of upd_same)⟩
      · refine ⟨_, rfl, a, _, rfl, .inr ⟨ha', ?_⟩⟩
        exact ⟨_, rfl, x, c_Telling K, dx, _, rfl, sm _ _ hx, T.cTelling, T.nTelling_entries, by decide, fin a _ sm ha'⟩
theorem mk_tell {H : Hp} {a : Addr} {ns : List Int} {Q : VK} {E : XK} (ha : SqA K H a (ns.map V.int)) (h : Mkr K ns H Q E) : ∀ x dx, H x = none → H dx = none → dx ≠ x →
    spInit K ([.ref x, .ref a]) (upd (upd H dx (.own x)) x (.ins (c_Telling K) dx [])) (fun v H2 => v = .non ∧ Q (.ref x) H2) E := by
  intro x dx hx hdx hne
  have s1 : Same H (upd (upd H dx (.own x)) x (.ins (c_Telling K) dx [])) := (Same.new hdx).new' (by rw [upd_ne (Ne.symm hne)]; exact hx)
  refine ⟨x, a, dx, ns, rfl, upd_same, s1.seqA ha, fun c => (h.long c).same s1, fun c i n e => (h.bad_ c i n e).same s1, fun c e H' t s2 ht => ⟨rfl, ?_⟩⟩
  have hx' : H' x = some (.ins (c_Telling K) dx []) := s2 _ _ upd_same
  have ms : Same H (upd H' x (.ins (c_Telling K) dx [("entries", .ref t)])) := fun b o q => by
    have : b ≠ x := fun z => by rw [z, hx] at q; cases q
    rw [upd_ne this]
    exact s2 _ _ (s1 _ _ q)
  have ht' : SqT K (upd H' x (.ins (c_Telling K) dx [("entries", .ref t)])) t (ns.map V.int) := by
    rcases ht with (ht | ⟨o, ht⟩) | ht
    · exact .inl (.inl (by rw [upd_ne (fun z => by rw [z, hx'] at ht; cases ht)]; exact ht))
    · exact .inl (.inr ⟨o, by rw [upd_ne (fun z => by rw [z, hx'] at ht; cases ht)]; exact ht⟩)
    · exact .inr ht
  exact h.good c e _ x ms ⟨dx, t, upd_same, ht'⟩
def spLen (K : PySem.W.Frag) : Sp := fun vs H Q _ => ∃ (p : Addr) (ns : List Int), vs = [.ref p] ∧ IsW K H p ns ∧ Q (.int ns.length) H
theorem ok_Telling_len (T : Tx K mg) : Ok PG w K mg base CX0 2 (a_Telling_len K) p_Telling_len (spLen K) := by
  refine Ok.of 1 T.f_Telling_len sc_Telling_len bi_Telling_len (by decide) (fun vs H Q E h => ?_) (fun cdv A outer s H vs Q E hr h => ?_)
  · obtain ⟨_, _, rfl, _⟩ := h
    rfl
  · obtain ⟨p, ns, rfl, ⟨dx, t, h1, h2⟩, q⟩ := h
    refine ⟨_, pss_one (ps_ret (pe_callB call_len_seq (by rfl) T.m_len PySem.boot_len (pa_cons (pe_fld (pv 0) rfl) pa_nil))), ?_⟩
    refine ⟨_, rfl, p, _, dx, _, _, rfl, h1, T.cTelling, T.nTelling_entries, rfl, t, _, rfl, .inr h2, ?_⟩
    rw [List.length_map]
    exact q
abbrev xP (n : Int) : HO := .xd [("person", .int n)]
abbrev xL (n m : Int) : HO := .xd [("wanted", .int m), ("found", .int n)]
def spPlace (K : PySem.W.Frag) : Sp := fun vs H Q E => ∃ (p : Addr) (ns : List Int) (i : Int), vs = [.ref p, .int i] ∧ IsW K H p ns ∧ (¬ (0 ≤ i ∧ i < ns.length) → Rs (c_NoPerson K) (xP i) H E) ∧ (0 ≤ i ∧ i < ns.length → Q .non H)
theorem ok_Telling_check_place (T : Tx K mg) : Ok PG w K mg base (L2.CX PG w) 3 (a_Telling_check_place K) p_Telling_check_place (spPlace K) := by
  refine Ok.of 2 T.f_Telling_check_place sc_Telling_check_place bi_Telling_check_place (by decide) (fun vs H Q E h => ?_) (fun cdv A outer s H vs Q E hr h => ?_)
  · obtain ⟨_, _, _, rfl, _⟩ := h
    rfl
  · obtain ⟨p, ns, i, rfl, ⟨dx, t, h1, h2⟩, q1, q2⟩ := h
    refine ⟨_, pss_one (ps_if (pt_not (pt_chain op_le op_lt pe_int (pv 1) (pe_callB call_len_seq (by rfl) T.m_len PySem.boot_len (pa_cons (pe_fld (pv 0) rfl) pa_nil)))) (pss_one (ps_raiseX rfl T.e_NoPerson (by decide) (by decide) hr (takes_of rfl rfl rfl rfl) rfl (pa_cons (pv 1) pa_nil))) pss_nil), ?_⟩
    refine ⟨_, rfl, _, _, rfl, rfl, _, rfl, ite2 (fun c => ?_) (fun c => ?_)⟩
    · refine ⟨_, rfl, p, _, dx, _, _, rfl, h1, T.cTelling, T.nTelling_entries, rfl, t, _, rfl, .inr h2, _, _, rfl, rfl, _, rfl, ?_⟩
      rw [List.length_map]
      have c0 := of_decide_eq_true c
      refine ite2 (fun c' => ?_) (fun c' => ?_)
      · exact ⟨_, rfl, rfl, fun d hd => (q1 (fun z => by simp [z.2] at c')).now d hd⟩
      · exact q2 ⟨c0, by simpa using c'⟩
    · exact ⟨_, rfl, iteT ⟨_, rfl, rfl, fun d hd => (q1 (fun z => by simp [z.1] at c)).now d hd⟩⟩
def spAlike (K : PySem.W.Frag) : Sp := fun vs H Q E => ∃ (p o : Addr) (ns ms : List Int), vs = [.ref p, .ref o] ∧ IsW K H p ns ∧ IsW K H o ms ∧ ms.length ≤ 30 ∧ (ms.length ≠ ns.length → Rs (c_WrongLength K) (xL ms.length ns.length) H E) ∧ (ms.length = ns.length → Q .non H)
theorem ok_Telling_check_alike (T : Tx K mg) : Ok PG w K mg base (L2.CX PG w) 4 (a_Telling_check_alike K) p_Telling_check_alike (spAlike K) := by
  refine Ok.of 3 T.f_Telling_check_alike sc_Telling_check_alike bi_Telling_check_alike (by decide) (fun vs H Q E h => ?_) (fun cdv A outer s H vs Q E hr h => ?_)
  · obtain ⟨_, _, _, _, rfl, _⟩ := h
    rfl
  · obtain ⟨p, o, ns, ms, rfl, ⟨dx, t, h1, h2⟩, ho, lm, q1, q2⟩ := h
    obtain ⟨dy, u, g1, g2⟩ := id ho
    refine ⟨_, pss_one (ps_if (pt_cmpR op_ne (pe_callB (cLen (ok_Telling_len T) T.wTelling_len hr pass0) (by rfl) T.m_len PySem.boot_len (pa_cons (pv 1) pa_nil)) (pe_callB call_len_seq (by rfl) T.m_len PySem.boot_len (pa_cons (pe_fld (pv 0) rfl) pa_nil)) (nomark _))
      (pss_one (ps_raiseX rfl T.e_WrongLength (by decide) (by decide) hr (takes_of rfl rfl rfl rfl) rfl (pa_cons (pe_callB (cLen (ok_Telling_len T) T.wTelling_len hr pass0) (by rfl) T.m_len PySem.boot_len (pa_cons (pv 1) pa_nil)) (pa_cons (pe_callB call_len_seq (by rfl) T.m_len PySem.boot_len (pa_cons (pe_fld (pv 0) rfl) pa_nil)) pa_nil)))) pss_nil), ?_⟩
    refine ⟨_, rfl, o, dy, _, rfl, g1, o, ms, rfl, ho, ms.length, rfl, by omega, _, rfl, p, _, dx, _, _, rfl, h1, T.cTelling, T.nTelling_entries, rfl, t, _, rfl, .inr h2, rfl, _, rfl, ?_⟩
    rw [List.length_map]
    refine ite2 (fun c => ?_) (fun c => ?_)
    · have ne : ms.length ≠ ns.length := fun z => by rw [z] at c; simp at c
      refine ⟨_, rfl, o, dy, _, rfl, g1, o, ms, rfl, ho, ms.length, rfl, by omega, _, rfl, p, _, dx, _, _, rfl, h1, T.cTelling, T.nTelling_entries, rfl, t, _, rfl, .inr h2, rfl, fun d hd => ?_⟩
      rw [List.length_map]
      exact (q1 ne).now d hd
    · exact q2 (by have : ((ms.length : Nat) : Int) = (ns.length : Nat) := by simpa using c
                   omega)
end
end K02

set_option maxRecDepth 100000
set_option maxHeartbeats 4000000
namespace K02
open PySem PySem.Spec PyProof.Rows L2
section
variable {w : World} {K : PySem.W.Frag} {mg : Str → Option Value} {base : Heap}
theorem zip_add {xs ys : List Int} {i : Nat} {x y : V} (h1 : (xs.map V.int)[i]? = some x) (h2 : (ys.map V.int)[i]? = some y) : ∃ n m, x = .int n ∧ y = .int m ∧ xs[i]? = some n ∧ ys[i]? = some m := by
  obtain ⟨n, e1, rfl⟩ := map_get h1
  obtain ⟨m, e2, rfl⟩ := map_get h2
  exact ⟨n, m, rfl, rfl, e1, e2⟩
/-- what the calls of one Telling with another ask -/
structure Alk (K : PySem.W.Frag) (xs ys : List Int) (H : Hp) (E : XK) : Prop where
  lx : xs.length ≤ 30
  ly : ys.length ≤ 30
  no : ys.length ≠ xs.length → Rs (c_WrongLength K) (xL ys.length xs.length) H E
def spAdd (K : PySem.W.Frag) : Sp := fun vs H Q E => ∃ (a b : Addr) (xs ys : List Int), vs = [.ref a, .ref b] ∧ IsW K H a xs ∧ IsW K H b ys ∧ Alk K xs ys H E ∧ (ys.length = xs.length → Mkr K (List.zipWith (· + ·) xs ys) H Q E)
theorem ok_Telling_add (T : Tx K mg) : Ok PG w K mg base (L2.CX PG w) 7 (a_Telling_add K) p_Telling_add (spAdd K) := by
  refine Ok.of 6 T.f_Telling_add sc_Telling_add bi_Telling_add (by decide) (fun vs H Q E h => ?_) (fun cdv A outer s H vs Q E hr h => ?_)
  · obtain ⟨_, _, _, _, rfl, _⟩ := h
    rfl
  · obtain ⟨a, b, xs, ys, rfl, ha, hb, al, m⟩ := h
    obtain ⟨dx, t, a1, a2⟩ := id ha
    obtain ⟨dy, u, b1, b2⟩ := id hb
    have nd := sc_Telling_add.nd
    refine ⟨_, pss_cons (ps_expr (pmeth (ok_Telling_check_alike T) (pv 0) T.cTelling T.wTelling_check_alike (hr.mono (by decide)) px (pa_cons (pv 1) pa_nil)))
      (pss_one (ps_ret (pmk (ok_Telling_init T) T.kTelling (hr.mono (by decide)) T.gTelling px (pa_cons (pe_lc (own := [("one", 2), ("two", 3)]) (g := gTup K 2 (gCons (gName 2) (gCons (gName 3) gNil))) (tt := tYes) rfl nd (pi_zipT T.m_zip (pa_cons (pe_fld (pv 0) rfl) (pa_cons (pe_fld (pv 1) rfl) pa_nil))) (blkOk_by (N := n_Telling_add) (sc := defScope s_Telling_add) (by decide +kernel))
        (fun _ _ _ _ _ => pg_tup rfl (pgs_cons (pg_name (i := 2) nd rfl (Or.inl rfl)) (pgs_cons (pg_name (i := 3) nd rfl (Or.inl rfl)) pgs_nil))) (fun _ _ _ _ _ => pts_nil) (fun _ _ _ _ _ => pe_op op_add (pv 2) (pv 3))) pa_nil)))), ?_⟩
    refine ⟨_, rfl, a, dx, _, rfl, a1, rfl, _, rfl, a, b, xs, ys, rfl, ha, hb, al.ly, al.no, fun e => ?_⟩
    have M := m e
    refine ⟨_, rfl, a, _, dx, _, _, rfl, a1, T.cTelling, T.nTelling_entries, rfl, _, rfl, b, _, dy, _, _, rfl, b1, T.cTelling, T.nTelling_entries, rfl, t, u, _, _, rfl, a2, b2, fun D hD => ?_⟩
    have new : ∀ {H' : Hp} {T' : Addr} {o o' : HO}, Same H H' → H' T' = none → Same H (upd (upd H' T' o) D o') := fun {H' T' o o'} sm hT c p hc => by
      have n1 : c ≠ D := fun z => by rw [z, hD] at hc; cases hc
      have n2 : c ≠ T' := fun z => by have := sm _ _ hc; rw [z, hT] at this; cases this
      rw [upd_ne n1, upd_ne n2]
      exact sm _ _ hc
    refine lc_it (walk_zipT (xs := xs.map V.int) (ys := ys.map V.int)) (fun i H' => Same H H' ∧ H' D = some (.lst (((List.zipWith (· + ·) xs ys).take i).map V.int))) ⟨.new hD, upd_same⟩ (fun i H' _ p => ⟨p.1.seqT a2, p.1.seqT b2⟩) (fun i x H' H2 hi p y => ?_) (fun H' p => ?_)
    · obtain ⟨sm, hl⟩ := p
      obtain ⟨T', x', y', rfl, hT, rfl, e1, e2⟩ := y
      obtain ⟨n, m', rfl, rfl, f1, f2⟩ := zip_add e1 e2
      have dT : D ≠ T' := fun z => by rw [z, hT] at hl; cases hl
      refine ⟨T', _, rfl, SqT.of upd_same, rfl, _, _, rfl, _, _, rfl, rfl, rfl, yesT ⟨_, rfl, _, rfl, _, _, rfl, rfl, _, by rw [upd_ne dT]; exact hl, ?_, new sm hT, ?_⟩⟩
      · rw [List.length_map, List.length_take, sizeLine_eq]
        have := al.lx
        rw [List.length_map, List.length_map] at hi
        omega
      · rw [upd_same, List.take_succ, List.getElem?_zipWith, f1, f2, List.map_append]
        rfl
    · obtain ⟨sm, hl⟩ := p
      rw [List.take_of_length_le (by rw [List.length_zipWith, List.length_map, List.length_map]; exact Nat.le_refl _)] at hl
      exact mk_tell (.inl (SqL.of hl)) (M.same sm)
end
end K02

set_option maxRecDepth 100000
set_option maxHeartbeats 4000000
namespace K02
open PySem PySem.Spec PyProof.Rows L2
section
variable {w : World} {K : PySem.W.Frag} {mg : Str → Option Value} {base : Heap}
structure Mulr (K : PySem.W.Frag) (xs : List Int) (k : Int) (H : Hp) (Q : VK) (E : XK) : Prop where
  lx : xs.length ≤ 30
  wx : ∀ n ∈ xs, n.natAbs < 2 ^ 200
  wk : k.natAbs < 2 ^ 200
  neg : k < 0 → Rs (c_BadNumber K) (xB 0 k) H E
  good : 0 ≤ k → Mkr K (xs.map (· * k)) H Q E
def spMul (K : PySem.W.Frag) : Sp := fun vs H Q E => ∃ (a : Addr) (xs : List Int) (k : Int), vs = [.ref a, .int k] ∧ IsW K H a xs ∧ Mulr K xs k H Q E
theorem ok_Telling_mul (T : Tx K mg) : Ok PG w K mg base (L2.CX PG w) 7 (a_Telling_mul K) p_Telling_mul (spMul K) := by
  refine Ok.of 6 T.f_Telling_mul sc_Telling_mul bi_Telling_mul (by decide) (fun vs H Q E h => ?_) (fun cdv A outer s H vs Q E hr h => ?_)
  · obtain ⟨_, _, _, rfl, _⟩ := h
    rfl
  · obtain ⟨a, xs, k, rfl, ha, m⟩ := h
    obtain ⟨dx, t, a1, a2⟩ := id ha
    have nd := sc_Telling_mul.nd
    refine ⟨_, pss_cons (ps_expr (pc (ok_check_not_negative T) (hr.mono (by decide)) T.g_check_not_negative px (pa_cons (pv 1) pa_nil)))
      (pss_one (ps_ret (pmk (ok_Telling_init T) T.kTelling (hr.mono (by decide)) T.gTelling px (pa_cons (pe_lc (own := [("entry", 2)]) (g := gName 2) (tt := tYes) rfl nd (pi_tup (pe_fld (pv 0) rfl)) (blkOk_by (N := n_Telling_mul) (sc := defScope s_Telling_mul) (by decide +kernel))
        (fun _ _ _ _ _ => pg_name (i := 2) nd rfl (Or.inl rfl)) (fun _ _ _ _ _ => pts_nil) (fun _ _ _ _ _ => pe_op op_mulW (pv 2) (pv 1))) pa_nil)))), ?_⟩
    refine ⟨_, rfl, k, rfl, m.neg, fun c => ?_⟩
    have M := m.good (by omega)
    refine ⟨_, rfl, a, _, dx, _, _, rfl, a1, T.cTelling, T.nTelling_entries, rfl, t, rfl, ⟨_, a2⟩, fun D hD => ?_⟩
    refine lc_it (walk_tup (xs := xs.map V.int)) (fun i H' => Same H H' ∧ H' D = some (.lst (((xs.map (· * k)).take i).map V.int))) ⟨.new hD, upd_same⟩ (fun i H' _ p => p.1.seqT a2) (fun i x H' H2 hi p y => ?_) (fun H' p => ?_)
    · obtain ⟨sm, hl⟩ := p
      obtain ⟨rfl, hx⟩ := y
      obtain ⟨n, hn, rfl⟩ := map_get hx
      refine ⟨rfl, yesT ⟨_, rfl, _, rfl, _, _, rfl, rfl, wide_mul (m.wx n (List.mem_of_getElem? hn)) m.wk (by decide) (by decide) (by decide), _, hl, ?_, fun b o hb => ?_, ?_⟩⟩
      · rw [List.length_map, List.length_take, List.length_map, sizeLine_eq]
        have := m.lx
        omega
      · have n1 : b ≠ D := fun z => by rw [z, hD] at hb; cases hb
        rw [upd_ne n1]
        exact sm _ _ hb
      · rw [upd_same, List.take_succ, List.getElem?_map, hn, List.map_append]
        rfl
    · obtain ⟨sm, hl⟩ := p
      rw [List.take_of_length_le (by rw [List.length_map, List.length_map]; exact Nat.le_refl _)] at hl
      exact mk_tell (.inl (SqL.of hl)) (M.same sm)
theorem ok_Telling_rmul (T : Tx K mg) : Ok PG w K mg base (L2.CX PG w) 8 (a_Telling_rmul K) p_Telling_rmul (spMul K) := by
  refine Ok.of 7 T.f_Telling_rmul sc_Telling_rmul bi_Telling_rmul (by decide) (fun vs H Q E h => ?_) (fun cdv A outer s H vs Q E hr h => ?_)
  · obtain ⟨_, _, _, rfl, _⟩ := h
    rfl
  · obtain ⟨a, xs, k, rfl, ⟨dx, t, ha, ht⟩, m⟩ := h
    refine ⟨_, pss_one (ps_ret (pe_op (oOwnI (ok_Telling_mul T) T.wTelling_mul hr px) (pv 0) (pv 1))), ?_⟩
    exact ⟨_, rfl, _, rfl, a, dx, _, k, rfl, rfl, ha, a, xs, k, rfl, ⟨dx, t, ha, ht⟩, m⟩
def spAbs (K : PySem.W.Frag) : Sp := fun vs H Q E => ∃ (a : Addr) (xs : List Int), vs = [.ref a] ∧ IsW K H a xs ∧ Q (.int xs.sum) H
theorem ok_Telling_abs (T : Tx K mg) : Ok PG w K mg base CX0 2 (a_Telling_abs K) p_Telling_abs (spAbs K) := by
  refine Ok.of 1 T.f_Telling_abs sc_Telling_abs bi_Telling_abs (by decide) (fun vs H Q E h => ?_) (fun cdv A outer s H vs Q E hr h => ?_)
  · obtain ⟨_, _, rfl, _⟩ := h
    rfl
  · obtain ⟨a, xs, rfl, ⟨dx, t, ha, ht⟩, m⟩ := h
    refine ⟨_, pss_one (ps_ret (pe_callB (cr_sumA rfl) (by rfl) T.m_sum (by decide +kernel) (pa_cons (pe_fld (pv 0) rfl) pa_nil))), ?_⟩
    exact ⟨_, rfl, a, _, dx, _, _, rfl, ha, T.cTelling, T.nTelling_entries, rfl, t, xs, rfl, .inr ht, m⟩
theorem it_Telling (T : Tx K mg) : OwnIt K mg (c_Telling K) (a_Telling_iter K) "entries" := by
  obtain ⟨fd, F⟩ := T.f_Telling_iter
  exact ownIt_of T.cTelling T.nTelling_entries T.wTelling_iter.1 T.wTelling_iter.2 T.m_iter F ⟨_, _, _, _, _, rfl, fun env h => by obtain ⟨⟩ := env; cases h; rfl⟩ ⟨rfl, rfl, by decide +kernel, rfl, rfl, rfl⟩ fun s fd v h1 h2 h3 => .of_eq (by obtain ⟨⟩ := fd; cases h1; cases h2; cases h3; rfl)
def spAt (K : PySem.W.Frag) : Sp := fun vs H Q E => ∃ (p : Addr) (ns : List Int) (i : Int), vs = [.ref p, .int i] ∧ IsW K H p ns ∧ (¬ (0 ≤ i ∧ i < ns.length) → Rs (c_NoPerson K) (xP i) H E) ∧ (∀ j n, i = ((j : Nat) : Int) → ns[j]? = some n → Q (.int n) H)
theorem ok_Telling_getitem (T : Tx K mg) : Ok PG w K mg base (L2.CX PG w) 5 (a_Telling_getitem K) p_Telling_getitem (spAt K) := by
  refine Ok.of 4 T.f_Telling_getitem sc_Telling_getitem bi_Telling_getitem (by decide) (fun vs H Q E h => ?_) (fun cdv A outer s H vs Q E hr h => ?_)
  · obtain ⟨_, _, _, rfl, _⟩ := h
    rfl
  · obtain ⟨p, ns, i, rfl, hp, q1, q2⟩ := h
    obtain ⟨dx, t, h1, h2⟩ := id hp
    refine ⟨_, pss_cons (ps_expr (pmeth (ok_Telling_check_place T) (pv 0) T.cTelling T.wTelling_check_place (hr.mono (by decide)) px (pa_cons (pv 1) pa_nil)))
      (pss_one (ps_ret (pe_ix ix_tup (pe_fld (pv 0) rfl) (pv 1) (fun _ _ => rfl)))), ?_⟩
    refine ⟨_, rfl, p, dx, _, rfl, h1, rfl, _, rfl, p, ns, i, rfl, hp, q1, fun c => ?_⟩
    obtain ⟨j, rfl⟩ : ∃ j : Nat, i = (j : Nat) := ⟨i.toNat, by omega⟩
    have hj : j < ns.length := by omega
    exact ⟨_, rfl, p, _, dx, _, _, rfl, h1, T.cTelling, T.nTelling_entries, rfl, _, rfl, t, _, _, _, rfl, rfl, h2, atI_nat (by rw [List.getElem?_map, List.getElem?_eq_getElem hj]; rfl), q2 j _ rfl (List.getElem?_eq_getElem hj)⟩
end
end K02

set_option maxRecDepth 100000
set_option maxHeartbeats 4000000
namespace K02
open PySem PySem.Spec PyProof.Rows L2
section
variable {w : World} {K : PySem.W.Frag} {mg : Str → Option Value} {base : Heap}
/-- how far two numbers lie apart, as abs says it -/
def far (n m : Int) : Int := if n - m < 0 then -(n - m) else n - m
def spXor (K : PySem.W.Frag) : Sp := fun vs H Q E => ∃ (a b : Addr) (xs ys : List Int), vs = [.ref a, .ref b] ∧ IsW K H a xs ∧ IsW K H b ys ∧ Alk K xs ys H E ∧ (ys.length = xs.length → ∀ H', Same H H' → Q (.int (List.zipWith far xs ys).sum) H')
theorem ok_Telling_xor (T : Tx K mg) : Ok PG w K mg base (L2.CX PG w) 7 (a_Telling_xor K) p_Telling_xor (spXor K) := by
  refine Ok.of 6 T.f_Telling_xor sc_Telling_xor bi_Telling_xor (by decide) (fun vs H Q E h => ?_) (fun cdv A outer s H vs Q E hr h => ?_)
  · obtain ⟨_, _, _, _, rfl, _⟩ := h
    rfl
  · obtain ⟨a, b, xs, ys, rfl, ha, hb, al, m⟩ := h
    obtain ⟨dx, t, a1, a2⟩ := id ha
    obtain ⟨dy, u, b1, b2⟩ := id hb
    have nd := sc_Telling_xor.nd
    refine ⟨_, pss_cons (ps_expr (pmeth (ok_Telling_check_alike T) (pv 0) T.cTelling T.wTelling_check_alike (hr.mono (by decide)) px (pa_cons (pv 1) pa_nil)))
      (pss_one (ps_ret (pe_callB (cr_sumA rfl) (by rfl) T.m_sum (by decide +kernel) (pa_cons (pe_lc (own := [("one", 2), ("two", 3)]) (g := gTup K 2 (gCons (gName 2) (gCons (gName 3) gNil))) (tt := tYes) rfl nd (pi_zipT T.m_zip (pa_cons (pe_fld (pv 0) rfl) (pa_cons (pe_fld (pv 1) rfl) pa_nil))) (blkOk_by (N := n_Telling_xor) (sc := defScope s_Telling_xor) (by decide +kernel))
        (fun _ _ _ _ _ => pg_tup rfl (pgs_cons (pg_name (i := 2) nd rfl (Or.inl rfl)) (pgs_cons (pg_name (i := 3) nd rfl (Or.inl rfl)) pgs_nil))) (fun _ _ _ _ _ => pts_nil) (fun _ _ _ _ _ => pe_callB call_abs (by rfl) T.m_abs (by decide +kernel) (pa_cons (pe_op op_sub (pv 2) (pv 3)) pa_nil))) pa_nil)))), ?_⟩
    refine ⟨_, rfl, a, dx, _, rfl, a1, rfl, _, rfl, a, b, xs, ys, rfl, ha, hb, al.ly, al.no, fun e => ?_⟩
    refine ⟨_, rfl, a, _, dx, _, _, rfl, a1, T.cTelling, T.nTelling_entries, rfl, _, rfl, b, _, dy, _, _, rfl, b1, T.cTelling, T.nTelling_entries, rfl, t, u, _, _, rfl, a2, b2, fun D hD => ?_⟩
    have new : ∀ {H' : Hp} {T' : Addr} {o o' : HO}, Same H H' → H' T' = none → Same H (upd (upd H' T' o) D o') := fun {H' T' o o'} sm hT c p hc => by
      have n1 : c ≠ D := fun z => by rw [z, hD] at hc; cases hc
      have n2 : c ≠ T' := fun z => by have := sm _ _ hc; rw [z, hT] at this; cases this
      rw [upd_ne n1, upd_ne n2]
      exact sm _ _ hc
    refine lc_it (walk_zipT (xs := xs.map V.int) (ys := ys.map V.int)) (fun i H' => Same H H' ∧ H' D = some (.lst (((List.zipWith far xs ys).take i).map V.int))) ⟨.new hD, upd_same⟩ (fun i H' _ p => ⟨p.1.seqT a2, p.1.seqT b2⟩) (fun i x H' H2 hi p y => ?_) (fun H' p => ?_)
    · obtain ⟨sm, hl⟩ := p
      obtain ⟨T', x', y', rfl, hT, rfl, e1, e2⟩ := y
      obtain ⟨n, m', rfl, rfl, f1, f2⟩ := zip_add e1 e2
      have dT : D ≠ T' := fun z => by rw [z, hT] at hl; cases hl
      refine ⟨T', _, rfl, SqT.of upd_same, rfl, _, _, rfl, _, _, rfl, rfl, rfl, yesT ⟨_, rfl, _, rfl, _, _, rfl, rfl, _, rfl, _, by rw [upd_ne dT]; exact hl, ?_, new sm hT, ?_⟩⟩
      · rw [List.length_map, List.length_take, sizeLine_eq]
        have := al.lx
        rw [List.length_map, List.length_map] at hi
        omega
      · rw [upd_same, List.take_succ, List.getElem?_zipWith, f1, f2, List.map_append]
        rfl
    · obtain ⟨sm, hl⟩ := p
      rw [List.take_of_length_le (by rw [List.length_zipWith, List.length_map, List.length_map]; exact Nat.le_refl _)] at hl
      exact ⟨D, _, rfl, .inl (SqL.of hl), m e _ sm⟩
end
end K02

set_option maxRecDepth 100000
set_option maxHeartbeats 4000000
namespace K02
open PySem PySem.Spec PyProof.Rows L2
section
variable {w : World} {K : PySem.W.Frag} {mg : Str → Option Value} {base : Heap}
/-- ns with c taken from place g and given to place t -/
def shift (ns : List Int) (g t : Nat) (c : Int) : List Int := (ns.set g ((ns.getD g 0) - c)).set t (((ns.set g ((ns.getD g 0) - c)).getD t 0) + c)
/-- what a move asks, in the order of the checks -/
structure Movr (K : PySem.W.Frag) (ns : List Int) (g t c : Int) (H : Hp) (Q : VK) (E : XK) : Prop where
  g_ : ¬ (0 ≤ g ∧ g < ns.length) → Rs (c_NoPerson K) (xP g) H E
  t_ : 0 ≤ g ∧ g < ns.length → ¬ (0 ≤ t ∧ t < ns.length) → Rs (c_NoPerson K) (xP t) H E
  two : 0 ≤ g ∧ g < ns.length → g = t → Rs (c_NamedTwice K) (xP t) H E
  neg : 0 ≤ g ∧ g < ns.length → 0 ≤ t ∧ t < ns.length → g ≠ t → c < 0 → Rs (c_BadNumber K) (xB 0 c) H E
  less : 0 ≤ g ∧ g < ns.length → 0 ≤ t ∧ t < ns.length → g ≠ t → 0 ≤ c → (ns.getD g.toNat 0) - c < 0 → Rs (c_BadNumber K) (xB g ((ns.getD g.toNat 0) - c)) H E
  good : 0 ≤ g ∧ g < ns.length → 0 ≤ t ∧ t < ns.length → g ≠ t → 0 ≤ c → 0 ≤ (ns.getD g.toNat 0) - c → Mkr K (shift ns g.toNat t.toNat c) H Q E
def spMoved (K : PySem.W.Frag) : Sp := fun vs H Q E => ∃ (p : Addr) (ns : List Int) (g t c : Int), vs = [.ref p, .int g, .int t, .int c] ∧ IsW K H p ns ∧ Movr K ns g t c H Q E
theorem fn_Telling_moved (T : Tx K mg) {fd : FuncData} (F : FunD K "moved" "Telling.moved" (defArgs s_Telling_moved) (defBody s_Telling_moved) (defScope s_Telling_moved) [.int (1)] [] (a_Telling_moved K) fd) : FnOk PG w K mg base (L2.CX PG w) 7 (a_Telling_moved K) fd p_Telling_moved (spMoved K) := by
  refine F.ok (k := 6) sc_Telling_moved (fun vs H Q E h => ?_) (fun cdv A outer s H vs Q E hr h => ?_)
  · obtain ⟨_, _, _, _, _, rfl, _⟩ := h
    rfl
  · obtain ⟨p, ns, g, t, c, rfl, hp, m⟩ := h
    obtain ⟨dx, u, h1, h2⟩ := id hp
    have nd := sc_Telling_moved.nd
    have hr3 := hr.mono (show 3 ≤ 6 by decide)
    refine ⟨_, pss_cons (ps_expr (pmeth (ok_Telling_check_place T) (pv 0) T.cTelling T.wTelling_check_place hr3 px (pa_cons (pv 1) pa_nil)))
      (pss_cons (ps_expr (pmeth (ok_Telling_check_place T) (pv 0) T.cTelling T.wTelling_check_place hr3 px (pa_cons (pv 2) pa_nil)))
      (pss_cons (ps_if (pt_cmpR op_eq (pv 1) (pv 2) (nomark _)) (pss_one (ps_raiseX rfl T.e_NamedTwice (by decide) (by decide) hr (takes_of rfl rfl rfl rfl) rfl (pa_cons (pv 2) pa_nil))) pss_nil)
      (pss_cons (ps_expr (pc (ok_check_not_negative T) hr3 T.g_check_not_negative px (pa_cons (pv 3) pa_nil)))
      (pss_cons (ps_set (i := 4) nd rfl (.inl rfl) (pe_callTy call_list_of (by rfl) T.m_list (by decide +kernel) (pa_cons (pe_fld (pv 0) rfl) pa_nil)))
      (pss_cons (ps_augS (pv 4) (pv 1) get_list (pv 3) ip_sub set_list)
      (pss_cons (ps_augS (pv 4) (pv 2) get_list (pv 3) ip_add set_list)
      (pss_cons (ps_if (pt_cmpR op_lt (pe_ix ix_list (pv 4) (pv 1) (fun _ _ => rfl)) pe_int (nomark _)) (pss_one (ps_raiseX rfl T.e_BadNumber (by decide) (by decide) hr (takes_of rfl rfl rfl rfl) rfl (pa_cons (pv 1) (pa_cons (pe_ix ix_list (pv 4) (pv 1) (fun _ _ => rfl)) pa_nil)))) pss_nil)
      (pss_one (ps_ret (pmk (ok_Telling_init T) T.kTelling (hr.mono (by decide)) T.gTelling px (pa_cons (pv 4) pa_nil))))))))))), ?_⟩
    refine ⟨_, rfl, p, dx, _, rfl, h1, rfl, _, rfl, p, ns, g, rfl, hp, m.g_, fun cg => ?_⟩
    refine ⟨_, rfl, p, dx, _, rfl, h1, rfl, _, rfl, p, ns, t, rfl, hp, m.t_ cg, fun ct => ?_⟩
    refine ⟨_, rfl, _, rfl, rfl, _, rfl, ite2 (fun e => ?_) (fun e => ?_)⟩
    · have e' : g = t := by simpa using e
      exact ⟨_, rfl, rfl, fun d hd => (m.two cg e').now d hd⟩
    · have ne : g ≠ t := fun z => e (by rw [z]; simp)
      refine ⟨_, rfl, c, rfl, m.neg cg ct ne, fun c0 => ?_⟩
      obtain ⟨gi, rfl⟩ : ∃ j : Nat, g = (j : Nat) := ⟨g.toNat, by omega⟩
      obtain ⟨ti, rfl⟩ : ∃ j : Nat, t = (j : Nat) := ⟨t.toNat, by omega⟩
      have lg : gi < ns.length := by omega
      have lt : ti < ns.length := by omega
      have nn : gi ≠ ti := fun z => ne (by rw [z])
      refine ⟨_, rfl, p, _, dx, _, _, rfl, h1, T.cTelling, T.nTelling_entries, rfl, u, _, rfl, .inr h2, fun l hl => ?_⟩
      have hl0 : (ns.map V.int)[gi]? = some (.int ns[gi]) := by rw [List.getElem?_map, List.getElem?_eq_getElem lg]; rfl
      have ixl : ∀ (xs : List V) (j : Nat), j < xs.length → ixN xs.length ((j : Nat) : Int) = some j := fun xs j h => by
        unfold ixN
        rw [if_pos (by omega), if_pos (by omega), Int.toNat_natCast]
      refine ⟨_, rfl, _, rfl, l, _, gi, _, rfl, rfl, SqL.of upd_same, hl0, _, rfl, _, _, rfl, rfl, l, _, _, gi, rfl, rfl, upd_same, ixl _ _ (by rw [List.length_map]; exact lg), ?_⟩
      have e1 : (ns.map V.int).set gi (.int (ns[gi] - c)) = (ns.set gi (ns[gi] - c)).map V.int := List.map_set.symm
      rw [upd_upd, e1]
      have g1 : ns.getD gi 0 = ns[gi] := by rw [List.getD_eq_getElem?_getD, List.getElem?_eq_getElem lg]; rfl
      generalize hms : ns.set gi (ns[gi] - c) = ms
      have lm : ms.length = ns.length := by rw [← hms, List.length_set]
      have lt2 : ti < ms.length := by omega
      have hl1 : (ms.map V.int)[ti]? = some (.int ms[ti]) := by rw [List.getElem?_map, List.getElem?_eq_getElem lt2]; rfl
      refine ⟨_, rfl, _, rfl, l, _, ti, _, rfl, rfl, SqL.of upd_same, hl1, _, rfl, _, _, rfl, rfl, l, _, _, ti, rfl, rfl, upd_same, ixl _ _ (by rw [List.length_map]; exact lt2), ?_⟩
      have e2 : (ms.map V.int).set ti (.int (ms[ti] + c)) = (ms.set ti (ms[ti] + c)).map V.int := List.map_set.symm
      rw [upd_upd, e2]
      have sh : shift ns gi ti c = ms.set ti (ms[ti] + c) := by
        unfold shift
        rw [g1, hms, List.getD_eq_getElem?_getD, List.getElem?_eq_getElem lt2]
        rfl
      have hg : (ms.set ti (ms[ti] + c))[gi]? = some (ns[gi] - c) := by
        rw [List.getElem?_set_ne (Ne.symm nn), ← hms, List.getElem?_set_self lg]
      have hg' : ((ms.set ti (ms[ti] + c)).map V.int)[gi]? = some (.int (ns[gi] - c)) := by rw [List.getElem?_map, hg]; rfl
      refine ⟨_, rfl, _, rfl, l, _, _, _, rfl, rfl, SqL.of upd_same, atI_nat hg', _, _, rfl, rfl, _, rfl, ite2 (fun d => ?_) (fun d => ?_)⟩
      · have d' : ns.getD (gi : Int).toNat 0 - c < 0 := by rw [Int.toNat_natCast, g1]; exact of_decide_eq_true d
        have R := m.less cg ct ne (by omega) d'
        rw [Int.toNat_natCast, g1] at R
        refine ⟨_, rfl, _, rfl, _, rfl, l, _, _, _, rfl, rfl, SqL.of upd_same, atI_nat hg', rfl, fun z hz => R _ z (.new hl) hz⟩
      · have d' : 0 ≤ ns.getD (gi : Int).toNat 0 - c := by
          rw [Int.toNat_natCast, g1]
          have : ¬ (ns[gi] - c < 0) := fun z => d (decide_eq_true z)
          omega
        have M := m.good cg ct ne (by omega) d'
        rw [Int.toNat_natCast, Int.toNat_natCast, sh] at M
        exact ⟨_, rfl, mk_tell (.inl (SqL.of upd_same)) (M.same (.new hl))⟩
end
end K02

set_option maxRecDepth 100000
set_option maxHeartbeats 4000000
/-! # rows of numbers: ==, != -/
namespace L2
open PySem PySem.Spec PyProof.Rows
theorem dp_ints {K : PySem.W.Frag} {H : Hp} : ∀ (ns : List Int), DpAll K H (ns.map V.int) (ns.map PyData.int)
  | [] => .nil
  | n :: ns => .cons (.int n) (dp_ints ns)
theorem eqvAll_ints : ∀ (ns ms : List Int), PyData.eqvAll (ns.map PyData.int) (ms.map PyData.int) = decide (ns = ms)
  | [], [] => rfl
  | [], _ :: _ => rfl
  | _ :: _, [] => rfl
  | n :: ns, m :: ms => by
    rw [List.map_cons, List.map_cons, PyData.eqvAll, eqvAll_ints ns ms]
    show (decide (n = m) && decide (ns = ms)) = _
    by_cases h : n = m <;> by_cases h' : ns = ms <;> simp [h, h']
theorem shaped_tup (ns : List Int) : SeqAt.shaped (.tuple (ns.map PyData.int)) = true := by
  simp [SeqAt.shaped, PyData.canLay0, PyData.depth, PySem.W.ke_canLayAll0, PySem.W.ke_depthAll]
theorem shaped_lst (ns : List Int) : SeqAt.shaped (.list (ns.map PyData.int)) = true := by
  simp [SeqAt.shaped, PyData.canLay0, PyData.depth, PySem.W.ke_canLayAll0, PySem.W.ke_depthAll]
section
variable {X : Cx}
/-- two rows of numbers, both tuples or both lists -/
def rEqRow (K : PySem.W.Frag) (neg : Bool) : R2 := fun x y H Q => ∃ (a b : Addr) (ns ms : List Int), x = .ref a ∧ y = .ref b ∧ ((SqT K H a (ns.map V.int) ∧ SqT K H b (ms.map V.int)) ∨ (SqL K H a (ns.map V.int) ∧ SqL K H b (ms.map V.int))) ∧ Q (.bl (if neg = true then !decide (ns = ms) else decide (ns = ms))) H
theorem op_eqRow (hu : X.A.units + 64 < cLine) : OpR X (compareOp .Eq) (rEqRow X.K false) := by
  intro pins s σ H x y v u Q I rx ry h
  obtain ⟨a, b, ns, ms, rfl, rfl, hs, q⟩ := h
  rcases hs with ⟨h1, h2⟩ | ⟨h1, h2⟩
  · refine op_eqD hu pins s σ H _ _ v u Q I rx ry ⟨.tuple (ns.map PyData.int), .tuple (ms.map PyData.int), .tup h1 (dp_ints ns), .tup h2 (dp_ints ms), shaped_tup ns, shaped_tup ms, ?_⟩
    rw [PyData.eqv, eqvAll_ints]
    exact q
  · refine op_eqD hu pins s σ H _ _ v u Q I rx ry ⟨.list (ns.map PyData.int), .list (ms.map PyData.int), .lst h1 (dp_ints ns), .lst h2 (dp_ints ms), shaped_lst ns, shaped_lst ms, ?_⟩
    rw [PyData.eqv, eqvAll_ints]
    exact q
theorem op_neRow (hu : X.A.units + 64 < cLine) : OpR X (compareOp .NotEq) (rEqRow X.K true) := by
  intro pins s σ H x y v u Q I rx ry h
  obtain ⟨a, b, ns, ms, rfl, rfl, hs, q⟩ := h
  rcases hs with ⟨h1, h2⟩ | ⟨h1, h2⟩
  · refine op_neD hu pins s σ H _ _ v u Q I rx ry ⟨.tuple (ns.map PyData.int), .tuple (ms.map PyData.int), .tup h1 (dp_ints ns), .tup h2 (dp_ints ms), shaped_tup ns, shaped_tup ms, ?_⟩
    rw [PyData.eqv, eqvAll_ints]
    exact q
  · refine op_neD hu pins s σ H _ _ v u Q I rx ry ⟨.list (ns.map PyData.int), .list (ms.map PyData.int), .lst h1 (dp_ints ns), .lst h2 (dp_ints ms), shaped_lst ns, shaped_lst ms, ?_⟩
    rw [PyData.eqv, eqvAll_ints]
    exact q
end
end L2

set_option maxRecDepth 100000
set_option maxHeartbeats 4000000
namespace K02
open PySem PySem.Spec PyProof.Rows L2
section
variable {w : World} {K : PySem.W.Frag} {mg : Str → Option Value} {base : Heap}
theorem tyW (T : Tx K mg) {H : Hp} {p : Addr} {ns : List Int} (h : IsW K H p ns) : TyX K H (.ref p) (.ref (c_Telling K)) := by
  obtain ⟨dx, t, h, _⟩ := h
  exact .base (.ins h T.cTelling T.tTelling.ha T.tTelling.hn T.tTelling.ht T.tTelling.hm)
def spEq (K : PySem.W.Frag) : Sp := fun vs H Q _ => ∃ (p : Addr) (ns : List Int) (y : V), vs = [.ref p, y] ∧ IsW K H p ns ∧
  ((∃ o ms, y = .ref o ∧ IsW K H o ms ∧ Q (.bl (decide (ns = ms))) H) ∨ ∃ T : String, TyX K H y (.type T) ∧ PySem.W.kitOne K (.type T) (.ref (c_Telling K)) = some false ∧ Q (.bl false) H)
theorem ok_Telling_eq (T : Tx K mg) : Ok PG w K mg base CX0 2 (a_Telling_eq K) p_Telling_eq (spEq K) := by
  refine Ok.of 1 T.f_Telling_eq sc_Telling_eq bi_Telling_eq (by decide) (fun vs H Q E h => ?_) (fun cdv A outer s H vs Q E hr h => ?_)
  · obtain ⟨_, _, _, rfl, _⟩ := h
    rfl
  · obtain ⟨p, ns, y, rfl, hp, q⟩ := h
    obtain ⟨dx, t, h1, h2⟩ := id hp
    refine ⟨_, pss_one (ps_ret (pe_and (pe_callB call_isi (by rfl) T.m_isinstance (by decide +kernel) (pa_cons (pv 1) (pa_cons (pgC T.gTelling) pa_nil))) (pe_one (pe_cmpR (op_eqRow hr.units) (pe_fld (pv 0) rfl) (pe_fld (pv 1) rfl) (nomark _))))), ?_⟩
    rcases q with ⟨o, ms, rfl, ho, q⟩ | ⟨ty, hy, hk, q⟩
    · obtain ⟨dy, u, g1, g2⟩ := id ho
      refine ⟨_, rfl, _, _, _, _, true, rfl, .own _, tyW T ho, T.kTelling_Telling, _, rfl, yep rfl ?_⟩
      exact ⟨_, rfl, p, _, dx, _, _, rfl, h1, T.cTelling, T.nTelling_entries, rfl, _, rfl, o, _, dy, _, _, rfl, g1, T.cTelling, T.nTelling_entries, rfl, t, u, ns, ms, rfl, rfl, .inl ⟨h2, g2⟩, q⟩
    · exact ⟨_, rfl, _, _, _, _, false, rfl, .own _, hy, hk, _, rfl, nope rfl q⟩
def spLt (K : PySem.W.Frag) : Sp := fun vs H Q _ => ∃ (p o : Addr) (ns ms : List Int), vs = [.ref p, .ref o] ∧ IsW K H p ns ∧ IsW K H o ms ∧ Q (.bl (HT.lexLt ns ms)) H
theorem ok_Telling_lt (T : Tx K mg) : Ok PG w K mg base CX0 2 (a_Telling_lt K) p_Telling_lt (spLt K) := by
  refine Ok.of 1 T.f_Telling_lt sc_Telling_lt bi_Telling_lt (by decide) (fun vs H Q E h => ?_) (fun cdv A outer s H vs Q E hr h => ?_)
  · obtain ⟨_, _, _, _, rfl, _⟩ := h
    rfl
  · obtain ⟨p, o, ns, ms, rfl, hp, ho, q⟩ := h
    obtain ⟨dx, t, h1, h2⟩ := id hp
    obtain ⟨dy, u, g1, g2⟩ := id ho
    refine ⟨_, pss_cons (ps_if (pt_not (pt_val (pe_callB call_isi (by rfl) T.m_isinstance (by decide +kernel) (pa_cons (pv 1) (pa_cons (pgC T.gTelling) pa_nil))))) (pss_one ps_never) pss_nil)
      (pss_one (ps_ret (pe_cmpR (op_ltT hr.units0) (pe_fld (pv 0) rfl) (pe_fld (pv 1) rfl) (nomark _)))), ?_⟩
    refine ⟨_, rfl, _, _, _, _, true, rfl, .own _, tyW T ho, T.kTelling_Telling, _, rfl, nope rfl ?_⟩
    exact ⟨_, rfl, p, _, dx, _, _, rfl, h1, T.cTelling, T.nTelling_entries, rfl, _, rfl, o, _, dy, _, _, rfl, g1, T.cTelling, T.nTelling_entries, rfl, t, u, ns, ms, rfl, rfl, h2, g2, q⟩
end
end K02

set_option maxRecDepth 100000
set_option maxHeartbeats 4000000
/-! # sorted(t, reverse=b), t a tuple of numbers -/
namespace SrtR
open PySem PyProof.Rows Srt SrtO
section
variable {prog : Program} {w : World} {A : Around} {E : Value → Shared → Prop} {s : Shared}
theorem gather_tup {p : Addr} {us : List Value} {Q : List Value → Shared → Prop} (hp : s.heap.IsTuple p us.toArray) (fits : us.length ≤ sizeLine)
    (q : Q us { s with heap := (s.heap.push (seqObj "list" #[] 0)).update s.heap.objs.size (Obj.mapSeq (· ++ us.toArray)) }) : wpAny (model prog w) A (collect (.ref p)) Q E s := by
  obtain ⟨ob, hob, cl, n, dt⟩ := id hp
  unfold collect
  refine wpAny_bind (wpAny_runValue (codeAny_builtin entry_proto_collect' ?_))
  show wpAny _ _ (do again (.builtin "list.__iadd__" ⟨[← newList [], .ref p], []⟩)) _ _ s
  refine wpAny_bind (wpAny_newList (wpAny_pure ⟨Code.quiet_builtin _ (by decide +kernel), codeAny_builtin entry_list_iadd' ?_⟩))
  show wpAny _ _ (Builtin.List.listExtendWith (.ref s.heap.objs.size) (.ref p) (.ref s.heap.objs.size)) _ _ { s with heap := s.heap.push (seqObj "list" #[] 0) }
  unfold Builtin.List.listExtendWith
  have hob' : (s.heap.push (seqObj "list" #[] 0)).get? p = some ob := Heap.get?_push_of_some _ hob
  have fresh : (s.heap.push (seqObj "list" #[] 0)).get? s.heap.objs.size = some (seqObj "list" #[] 0) := Heap.get?_push_size _ rfl
  refine wpAny_bind (wpAny_typeOf (T := "tuple") ⟨ob, hob', cl⟩ ?_)
  rw [if_pos (by first | rfl | decide | simp)]
  refine wpAny_bind (listItems_at hob' dt ?_)
  refine wpAny_bind (listItems_at (xs := #[]) (n := 0) fresh rfl ?_)
  rw [if_neg (by simp)]
  refine wpAny_bind (listUpdate_at (xs := #[]) (n := 0) fresh rfl ?_ (Nat.zero_le _) (by show (#[] ++ us.toArray).size ≤ sizeLine + 1; rw [Array.size_append, List.size_toArray]; show 0 + us.length ≤ _; omega))
  refine wpAny_pure ?_
  show wpAny (model prog w) A (do
      let o ← load s.heap.objs.size
      match o.data with
      | .seq xs _ => pure xs.toList
      | _ => unsupported "internal:collect") Q E { s with heap := (s.heap.push (seqObj "list" #[] 0)).update s.heap.objs.size (Obj.mapSeq (· ++ us.toArray)) }
  refine wpAny_bind (wpAny_load (get?_update_seq fresh _) ?_)
  show wpAny _ _ (pure ((#[] : Array Value) ++ us.toArray).toList) Q E _
  rw [show ((#[] : Array Value) ++ us.toArray).toList = us by simp]
  exact wpAny_pure q
theorem sorted_tupK {p : Addr} {us : List Value} {b : Bool} {kw : List (Str × Value)} {ltv : Value → Value → Bool} {Q : Value → Shared → Prop} (hk : ∀ a, Builtin.«list.sort» ⟨[.ref a], kw⟩ = Builtin.«list.sort» ⟨[.ref a], [(Str.ofString "reverse", .bool b)]⟩)
    (ha1 : argsOk "sorted" ⟨[.ref p], kw⟩) (ha2 : ∀ a, argsOk "list.sort" ⟨[a], kw⟩) (O : Swo ltv) (hp : s.heap.IsTuple p us.toArray) (fits : us.length ≤ sizeLine)
    (hS : 2 ≤ us.length → ∀ (h₁ : Heap) (a : Addr), h₁.get? a = some (seqObj "list" us.toArray 0) → (∀ c o, s.heap.get? c = some o → c ≠ a ∧ h₁.get? c = some o) → SortableO prog w A.in1.in1 { s with heap := h₁ } a us ltv)
    (h : ∀ out : List Value, Srtd ltv out → Stb ltv out (if b = true then us.reverse else us) → Q (.ref (s.heap.objs.size + 1)) { s with heap := sortedAll s.heap us (if b = true then out.toArray.reverse else out.toArray) }) :
    wpAny (model prog w) A (call (.builtin "sorted") [.ref p] kw) Q E s := by
  refine call_function_entry_kw kind_sorted plain_sorted entry_sorted ha1 ?_
  unfold Builtin.«sorted»
  refine wpAny_bind (m := checkCount "sorted" 1 1 _) (wpAny_pure ?_)
  refine wpAny_bind (gather_tup hp fits ?_)
  refine wpAny_bind (wpAny_newList ?_ fits)
  generalize hh : (s.heap.push (seqObj "list" #[] 0)).update s.heap.objs.size (Obj.mapSeq (· ++ us.toArray)) = hp1
  have sz : hp1.objs.size = s.heap.objs.size + 1 := by rw [← hh, Heap.size_update, size_push']
  have at1 : (hp1.push (seqObj "list" us.toArray 0)).get? (s.heap.objs.size + 1) = some (seqObj "list" us.toArray 0) := by
    rw [← sz]; exact Heap.get?_push_size _ rfl
  have old : ∀ c o, s.heap.get? c = some o → c ≠ s.heap.objs.size + 1 ∧ (hp1.push (seqObj "list" us.toArray 0)).get? c = some o := fun c o e => by
    have lt : c < s.heap.objs.size := Heap.lt_size e
    refine ⟨Nat.ne_of_lt (Nat.lt_succ_of_lt lt), Heap.get?_push_of_some _ ?_⟩
    rw [← hh, Heap.get?_update_ne _ _ _ _ (Nat.ne_of_lt lt)]
    exact Heap.get?_push_of_some _ e
  show wpAny _ _ _ _ _ { s with heap := hp1.push (seqObj "list" us.toArray 0) }
  rw [sz]
  refine wpAny_bind (wpAny_holding (wpAny_call_entry_kw slot_list_sort ⟨_, at1, rfl⟩ entry_list_sort ?_ (ha2 _)))
  rw [hk]
  refine list_sort_ordR O at1 fits (fun h2 => hS h2 _ _ at1 old) fun out h1 h2 => ⟨_, rfl, ?_⟩
  subst hh
  exact wpAny_pure ⟨_, rfl, h out h1 h2⟩
end
end SrtR
namespace L2
open PySem PySem.Spec PyProof.Rows
section
variable {X : Cx}
def rSortedKwT (K : PySem.W.Frag) (b : Bool) : List V → List V → Hp → VK → Prop := fun vs zs H Q => ∃ (a : Addr) (ns : List Int), vs = [V.ref a] ∧ zs = [.bl b] ∧ SqT K H a (ns.map V.int) ∧
  ∀ (ns' : List Int) (p : Addr), ns'.Perm ns → OrdB b ns' → H p = none → Q (.ref p) (upd H p (.lst (ns'.map V.int)))
/-- sorted(t, reverse=b) -/
theorem cr_sortedRevT {b : Bool} : CallRK X (.builtin "sorted") [Str.ofString "reverse"] (rSortedKwT X.K b) := by
  intro pins s σ H vs zs us ws Q I r rz h
  obtain ⟨a, ns, rfl, rfl, hs, q⟩ := h
  obtain rfl := Vals.ref1 r
  obtain ⟨w1, rfl, e1⟩ := vals1 rz
  obtain rfl : w1 = Value.bool b := e1
  obtain ⟨its, rv, hl, hz⟩ := I.tuple hs
  have hi := rv.ints
  refine SrtR.sorted_tupK (fun _ => rfl) (PyProof.Rows.args_sorted_rev _ _) (fun _ => PyProof.Rows.args_list_sort_rev _ _) SrtO.swo_int hl (by rw [← rv.length]; exact hz) (fun h2 h₁ a' _ _ => SrtO.ints_sortable hi h2) fun out h1 h2 => ?_
  obtain ⟨ns', k1, k2, k3⟩ := SrtR.ints_outR hi h1 h2
  obtain ⟨ep, he'⟩ := PyProof.Rows.sortedAll_at s.heap its (if b = true then out.toArray.reverse else out.toArray)
  have hlen : (ns'.map V.int).length ≤ sizeLine := by
    rw [List.length_map, k2.length_eq]
    rw [List.length_map] at hz
    exact hz
  have e0 : ((if b = true then out.toArray.reverse else out.toArray).toList).toArray = (if b = true then out.toArray.reverse else out.toArray) := by rw [Array.toArray_toList]
  exact ⟨.ref _, upd H (s.heap.objs.size + 1) (.lst (ns'.map V.int)), I.laid (t' := s.toks) (fun _ _ => PyProof.Rows.sortedAll_old) (Nat.le_succ _) ⟨hlen, _, ep, vals_of_ints k1, by rw [e0]; exact he'⟩, rfl, q _ _ k2 k3 (I.hok.fresh (Nat.le_succ _))⟩
end
end L2

set_option maxRecDepth 100000
set_option maxHeartbeats 4000000
namespace K02
open PySem PySem.Spec PyProof.Rows L2
/-- two falling rows of the same numbers are one -/
theorem fall_uniq : ∀ {as bs : List Int}, as.Perm bs → as.Pairwise (· ≥ ·) → bs.Pairwise (· ≥ ·) → as = bs
  | [], bs, p, _, _ => (List.Perm.nil_eq p)
  | a :: as, [], p, _, _ => by have := p.length_eq; simp at this
  | a :: as, b :: bs, p, ha, hb => by
    obtain ⟨a1, a2⟩ := List.pairwise_cons.mp ha
    obtain ⟨b1, b2⟩ := List.pairwise_cons.mp hb
    have h1 : a ≤ b := by
      rcases List.mem_cons.mp (p.mem_iff.mp (List.mem_cons_self ..)) with e | e
      · omega
      · exact b1 a e
    have h2 : b ≤ a := by
      rcases List.mem_cons.mp (p.mem_iff.mpr (List.mem_cons_self ..)) with e | e
      · omega
      · exact a1 b e
    obtain rfl : a = b := by omega
    rw [fall_uniq (List.Perm.cons_inv p) a2 b2]
/-- xs is no steeper than ys -/
def NoSt (xs ys : List Int) : Prop := xs.sum = ys.sum ∧ ∀ hs ts : List Int, hs.Perm xs → hs.Pairwise (· ≥ ·) → ts.Perm ys → ts.Pairwise (· ≥ ·) → ∀ j, j ≤ xs.length → (hs.take j).sum ≤ (ts.take j).sum
theorem noSt_of {xs ys hs ts : List Int} (e : xs.sum = ys.sum) (p1 : hs.Perm xs) (p2 : hs.Pairwise (· ≥ ·)) (p3 : ts.Perm ys) (p4 : ts.Pairwise (· ≥ ·)) (h : ∀ j, j ≤ xs.length → (hs.take j).sum ≤ (ts.take j).sum) : NoSt xs ys :=
  ⟨e, fun hs' ts' q1 q2 q3 q4 j hj => by
    rw [fall_uniq (q1.trans p1.symm) q2 p2, fall_uniq (q3.trans p3.symm) q4 p4]
    exact h j hj⟩
theorem sum_take {ns : List Int} {i : Nat} {n : Int} (h : ns[i]? = some n) : (ns.take (i + 1)).sum = (ns.take i).sum + n := by
  rw [List.take_succ, h, Option.toList_some, List.sum_append]
  simp
section
variable {w : World} {K : PySem.W.Frag} {mg : Str → Option Value} {base : Heap}
def spSteep (K : PySem.W.Frag) : Sp := fun vs H Q E => ∃ (a b : Addr) (xs ys : List Int), vs = [.ref a, .ref b] ∧ IsW K H a xs ∧ IsW K H b ys ∧ Alk K xs ys H E ∧ (ys.length = xs.length → ∀ H' bb, Same H H' → (bb = true ↔ NoSt xs ys) → Q (.bl bb) H')
theorem ok_Telling_no_steeper (T : Tx K mg) : Ok PG w K mg base (L2.CX PG w) 7 (a_Telling_no_steeper K) p_Telling_no_steeper (spSteep K) := by
  refine Ok.of 6 T.f_Telling_no_steeper sc_Telling_no_steeper bi_Telling_no_steeper (by decide) (fun vs H Q E h => ?_) (fun cdv A outer s H vs Q E hr h => ?_)
  · obtain ⟨_, _, _, _, rfl, _⟩ := h
    rfl
  · obtain ⟨a, b, xs, ys, rfl, ha, hb, al, m⟩ := h
    obtain ⟨dx, t, a1, a2⟩ := id ha
    obtain ⟨dy, u, b1, b2⟩ := id hb
    have nd := sc_Telling_no_steeper.nd
    refine ⟨_, pss_cons (ps_expr (pmeth (ok_Telling_check_alike T) (pv 0) T.cTelling T.wTelling_check_alike (hr.mono (by decide)) px (pa_cons (pv 1) pa_nil)))
      (pss_cons (ps_if (pt_cmpR op_ne (pe_callB (cAbs (ok_Telling_abs T) T.wTelling_abs (hr.mono (by decide)) pass0) (by rfl) T.m_abs (by decide +kernel) (pa_cons (pv 0) pa_nil)) (pe_callB (cAbs (ok_Telling_abs T) T.wTelling_abs (hr.mono (by decide)) pass0) (by rfl) T.m_abs (by decide +kernel) (pa_cons (pv 1) pa_nil)) (nomark _)) (pss_one (ps_ret pe_bl)) pss_nil)
      (pss_cons (ps_set (i := 2) nd rfl (.inl rfl) pe_int)
      (pss_cons (ps_set (i := 3) nd rfl (.inl rfl) (pe_callBK (cr_sortedRevT (b := true)) (by rfl) T.m_sorted (by decide +kernel) (pa_cons (pe_fld (pv 0) rfl) pa_nil) (pk_cons pe_bl pk_nil)))
      (pss_cons (ps_set (i := 4) nd rfl (.inl rfl) (pe_callBK (cr_sortedRevT (b := true)) (by rfl) T.m_sorted (by decide +kernel) (pa_cons (pe_fld (pv 1) rfl) pa_nil) (pk_cons pe_bl pk_nil)))
      (pss_cons (ps_for (passX rfl) rfl (pi_zip rfl T.m_zip (pa_cons (pv 3) (pa_cons (pv 4) pa_nil))) (pg_tup rfl (pgs_cons (pg_name (i := 5) nd rfl (.inl rfl)) (pgs_cons (pg_name (i := 6) nd rfl (.inl rfl)) pgs_nil)))
        (pss_cons (ps_set (i := 2) nd rfl (.inl rfl) (pe_op op_sub (pe_op op_add (pv 2) (pv 6)) (pv 5)))
        (pss_one (ps_if (pt_cmpR op_lt (pv 2) pe_int (nomark _)) (pss_one (ps_ret pe_bl)) pss_nil))))
      (pss_one (ps_ret pe_bl))))))), ?_⟩
    refine ⟨_, rfl, a, dx, _, rfl, a1, rfl, _, rfl, a, b, xs, ys, rfl, ha, hb, al.ly, al.no, fun e => ?_⟩
    have M := m e
    refine ⟨_, rfl, a, dx, _, rfl, a1, a, xs, rfl, ha, ?_⟩
    refine ⟨_, rfl, b, dy, _, rfl, b1, b, ys, rfl, hb, rfl, _, rfl, ?_⟩
    refine ite2 (fun c => ?_) (fun c => ?_)
    · refine M _ false (.refl _) ⟨fun z => Bool.noConfusion z, fun z => ?_⟩
      have := z.1
      simp [this] at c
    have es : xs.sum = ys.sum := by simpa using c
    refine ⟨_, rfl, a, _, dx, _, _, rfl, a1, T.cTelling, T.nTelling_entries, rfl, t, xs, rfl, rfl, a2, fun hs p p1 p2 hp => ?_⟩
    have s1 : Same H (upd H p (.lst (hs.map V.int))) := .new hp
    refine ⟨_, rfl, b, _, dy, _, _, rfl, s1 _ _ b1, T.cTelling, T.nTelling_entries, rfl, u, ys, rfl, rfl, s1.seqT b2, fun ts q q1 q2 hq => ?_⟩
    have s2 := s1.new' (o := .lst (ts.map V.int)) hq
    have hp2 : upd (upd H p (.lst (hs.map V.int))) q (.lst (ts.map V.int)) p = some (.lst (hs.map V.int)) := Same.new hq _ _ upd_same
    have lh : hs.length = xs.length := p1.length_eq
    have lt : ts.length = xs.length := by rw [q1.length_eq, e]
    refine ⟨_, rfl, _, rfl, p, q, _, _, rfl, SqL.of hp2, SqL.of upd_same, ?_⟩
    refine for_it (walk_zip (xs := hs.map V.int) (ys := ts.map V.int) rfl) (fun i σ H' => ∃ x5 x6, σ = [some (.ref a), some (.ref b), some (.int ((ts.take i).sum - (hs.take i).sum)), some (.ref p), some (.ref q), x5, x6] ∧ Same (upd (upd H p (.lst (hs.map V.int))) q (.lst (ts.map V.int))) H' ∧ ∀ j, j ≤ i → (hs.take j).sum ≤ (ts.take j).sum)
      ⟨none, none, rfl, .refl _, fun j hj => by (obtain rfl : j = 0 := (by omega)); exact Int.le_refl _⟩ (fun i σ H' _ z => by obtain ⟨_, _, _, sm, _⟩ := z; exact ⟨sm.seq (SqL.of hp2), sm.seq (SqL.of upd_same)⟩) (fun i x σ H' H2 hi z y => ?_) (fun σ H' z => ?_)
    · obtain ⟨x5, x6, rfl, sm, hj⟩ := z
      obtain ⟨T', x', y', rfl, hT, rfl, e1, e2⟩ := y
      obtain ⟨n, m', rfl, rfl, f1, f2⟩ := zip_add e1 e2
      refine ⟨T', _, rfl, SqT.of upd_same, rfl, _, _, rfl, _, _, rfl, rfl, ?_⟩
      refine ⟨_, rfl, _, rfl, _, _, rfl, rfl, _, rfl, _, _, rfl, rfl, ?_⟩
      have g1 := sum_take f1
      have g2 := sum_take f2
      have g : (ts.take i).sum - (hs.take i).sum + m' - n = (ts.take (i + 1)).sum - (hs.take (i + 1)).sum := by omega
      refine ⟨_, rfl, _, _, rfl, rfl, _, rfl, ?_⟩
      have sm2 := sm.new' (o := .tup [.int n, .int m']) hT
      refine ite2 (fun d => ?_) (fun d => ?_)
      · refine M _ false (s2.trans sm2) ⟨fun z => Bool.noConfusion z, fun z => ?_⟩
        have := z.2 hs ts p1 p2 q1 q2 (i + 1) (by rw [List.length_map, List.length_map] at hi; omega)
        have := of_decide_eq_true d
        omega
      · refine ⟨_, _, by rw [← g]; rfl, sm2, fun j hj2 => ?_⟩
        rcases Nat.lt_or_ge j (i + 1) with z | z
        · exact hj j (by omega)
        · obtain rfl : j = i + 1 := by omega
          have : ¬ ((ts.take i).sum - (hs.take i).sum + m' - n < 0) := fun z => d (decide_eq_true z)
          omega
    · obtain ⟨x5, x6, rfl, sm, hj⟩ := z
      refine M _ true (s2.trans sm) ⟨fun _ => noSt_of es p1 p2 q1 q2 fun j hj2 => hj j (by rw [List.length_map, List.length_map]; omega), fun _ => rfl⟩
end
end K02

set_option maxRecDepth 100000
set_option maxHeartbeats 4000000
namespace K02
open PySem PySem.Spec PyProof.Rows L2
section
variable {w : World} {K : PySem.W.Frag} {mg : Str → Option Value} {base : Heap}
abbrev cap : Int := 1000000000000000000000000000000
/-- a number from the pool, of which C holds -/
def spNum (C : Int → Prop) : Sp := fun vs H Q _ => ∃ (p : Addr) (st : List V), vs = [.ref p] ∧ H p = some (.lst st) ∧ PoolOk st ∧ ∀ v st', C v → PoolOk st' → Q (.int v) (upd H p (.lst st'))
theorem ok_law_entry (T : Tx K mg) : Ok PG w K mg base CX0 4 (a_law_entry K) p_law_entry (spNum fun v => 0 ≤ v ∧ v ≤ cap) := by
  refine Ok.of 3 T.f_law_entry sc_law_entry bi_law_entry (by decide) (fun vs H Q E h => ?_) (fun cdv A outer s H vs Q E hr h => ?_)
  · obtain ⟨_, _, rfl, _⟩ := h
    rfl
  · obtain ⟨p, st, rfl, hp, ok, q⟩ := h
    have nd := sc_law_entry.nd
    have hr2 := hr.mono (show 2 ≤ 3 by decide)
    refine ⟨_, pss_cons (ps_set (i := 1) nd rfl (.inl rfl) (pc (ok_law_draw T) hr2 T.g_law_draw pass0 (pa_cons (pv 0) (pa_cons pe_int pa_nil))))
      (pss_cons (ps_if (pt_cmpR op_lt (pv 1) pe_int (nomark _)) (pss_one (ps_ret (pc (ok_law_draw T) hr2 T.g_law_draw pass0 (pa_cons (pv 0) (pa_cons pe_int pa_nil))))) pss_nil)
      (pss_cons (ps_if (pt_cmpR op_lt (pv 1) pe_int (nomark _)) (pss_one (ps_ret (pc (ok_law_draw T) hr2 T.g_law_draw pass0 (pa_cons (pv 0) (pa_cons pe_int pa_nil))))) pss_nil)
      (pss_cons (ps_if (pt_cmpR op_eq (pv 1) pe_int (nomark _)) (pss_one (ps_ret (pe_op op_sub (pe_op op_pow pe_int pe_int) (pc (ok_law_draw T) hr2 T.g_law_draw pass0 (pa_cons (pv 0) (pa_cons pe_int pa_nil)))))) pss_nil)
      (pss_one (ps_ret (pc (ok_law_draw T) hr2 T.g_law_draw pass0 (pa_cons (pv 0) (pa_cons (pe_op op_add (pe_op op_pow pe_int pe_int) pe_int) pa_nil)))))))), ?_⟩
    refine ⟨_, rfl, p, st, 8, rfl, by decide, by decide, hp, ok, fun v st1 v0 v1 ok1 => ?_⟩
    have fin : ∀ x st2, 0 ≤ x → x ≤ cap → PoolOk st2 → Q (.int x) (upd (upd H p (.lst st1)) p (.lst st2)) := fun x st2 a b c => by rw [upd_upd]; exact q x st2 ⟨a, b⟩ c
    have c1 : (1000 : Int) ≤ cap := by decide
    refine ⟨_, rfl, _, _, rfl, rfl, _, rfl, ite2 (fun c => ?_) (fun c => ?_)⟩
    · exact ⟨_, rfl, p, st1, 5, rfl, by decide, by decide, upd_same, ok1, fun x st2 x0 x1 ok2 => fin x st2 x0 (by omega) ok2⟩
    · refine ⟨_, rfl, _, _, rfl, rfl, _, rfl, ite2 (fun c => ?_) (fun c => ?_)⟩
      · exact ⟨_, rfl, p, st1, 1000, rfl, by decide, by decide, upd_same, ok1, fun x st2 x0 x1 ok2 => fin x st2 x0 (by omega) ok2⟩
      · refine ⟨_, rfl, rfl, _, rfl, ite2 (fun c => ?_) (fun c => ?_)⟩
        · refine ⟨_, _, rfl, rfl, ⟨by decide, by decide, by decide⟩, _, rfl, p, st1, 3, rfl, by decide, by decide, upd_same, ok1, fun x st2 x0 x1 ok2 => ⟨_, _, rfl, rfl, fin _ st2 ?_ ?_ ok2⟩⟩
          · show 0 ≤ cap - x
            omega
          · show cap - x ≤ cap
            omega
        · exact ⟨_, rfl, _, _, rfl, rfl, ⟨by decide, by decide, by decide⟩, _, _, rfl, rfl, p, st1, cap + 1, rfl, by decide, by decide, upd_same, ok1, fun x st2 x0 x1 ok2 => fin x st2 x0 (by omega) ok2⟩
/-- a new list of numbers from the pool -/
def NewRow (p : Addr) (H : Hp) (L : Nat) (C : Int → Prop) (Q : VK) : Prop := ∀ (H' : Hp) (l : Addr) (ns : List Int) (st' : List V), But p H H' → H' p = some (.lst st') → PoolOk st' → H l = none → H' l = some (.lst (ns.map V.int)) → ns.length ≤ L → (∀ x ∈ ns, C x) → Q (.ref l) H'
/-- the turn of such a comprehension -/
theorem row_turn {p D : Addr} {H H' : Hp} {ns : List Int} {i : Nat} {st' : List V} {v : Int} {C : Int → Prop} (hD : H D = none) (dp : D ≠ p) (bt : But p H H') (hl : H' D = some (.lst (ns.map V.int))) (hn : ns.length = i) (hi : i ≤ 1000) (hb : ∀ x ∈ ns, C x) (hv : C v) :
    ∃ acc, upd H' p (.lst st') D = some (.lst acc) ∧ acc.length < sizeLine ∧ But p H (upd (upd H' p (.lst st')) D (.lst (acc ++ [.int v]))) ∧ upd (upd H' p (.lst st')) D (.lst (acc ++ [.int v])) p = some (.lst st') ∧ upd (upd H' p (.lst st')) D (.lst (acc ++ [.int v])) D = some (.lst ((ns ++ [v]).map V.int)) ∧ (ns ++ [v]).length = i + 1 ∧ ∀ x ∈ ns ++ [v], C x := by
  refine ⟨ns.map V.int, by rw [upd_ne dp]; exact hl, by rw [List.length_map, hn, sizeLine_eq]; omega, fun b o nb hb' => ?_, ?_, ?_, ?_, fun x hx => ?_⟩
  · have nbD : b ≠ D := fun z => by rw [z, hD] at hb'; cases hb'
    rw [upd_ne nbD, upd_ne nb]
    exact bt b o nb hb'
  · rw [upd_ne (Ne.symm dp), upd_same]
  · rw [upd_same, List.map_append]; rfl
  · rw [List.length_append, hn]; rfl
  · rcases List.mem_append.mp hx with hx | hx
    · exact hb x hx
    · rw [List.mem_singleton.mp hx]; exact hv
def spEntries : Sp := fun vs H Q _ => ∃ (p : Addr) (st : List V), vs = [.ref p] ∧ H p = some (.lst st) ∧ PoolOk st ∧ NewRow p H 30 (fun v => 0 ≤ v ∧ v ≤ cap) Q
theorem ok_law_entries (T : Tx K mg) : Ok PG w K mg base CX0 6 (a_law_entries K) p_law_entries spEntries := by
  refine Ok.of 5 T.f_law_entries sc_law_entries bi_law_entries (by decide) (fun vs H Q E h => ?_) (fun cdv A outer s H vs Q E hr h => ?_)
  · obtain ⟨_, _, rfl, _⟩ := h
    rfl
  · obtain ⟨p, st, rfl, hp, ok, q⟩ := h
    have nd := sc_law_entries.nd
    have hr2 := hr.mono (show 2 ≤ 5 by decide)
    refine ⟨_, pss_cons (ps_set (i := 1) nd rfl (.inl rfl) (pc (ok_law_draw T) hr2 T.g_law_draw pass0 (pa_cons (pv 0) (pa_cons pe_int pa_nil))))
      (pss_cons (ps_if (pt_cmpR op_eq (pc (ok_law_draw T) hr2 T.g_law_draw pass0 (pa_cons (pv 0) (pa_cons pe_int pa_nil))) pe_int (nomark _)) (pss_one (ps_set (i := 1) nd rfl (.inl rfl) (pc (ok_law_draw T) hr2 T.g_law_draw pass0 (pa_cons (pv 0) (pa_cons pe_int pa_nil))))) pss_nil)
      (pss_one (ps_ret (pe_lc (own := [("place", 2)]) (g := gName 2) (tt := tYes) rfl nd (pi_range1 rfl T.m_range (pa_cons (pv 1) pa_nil)) (blkOk_by (N := n_law_entries) (sc := defScope s_law_entries) (by decide +kernel)) (fun _ _ _ _ _ => pg_name (i := 2) nd rfl (Or.inl rfl)) (fun _ _ _ _ _ => pts_nil)
        (fun _ _ _ _ _ => pc (ok_law_entry T) (hr.mono (by decide)) T.g_law_entry pass0 (pa_cons (pv 0) pa_nil)))))), ?_⟩
    refine ⟨_, rfl, p, st, 7, rfl, by decide, by decide, hp, ok, fun v st1 v0 v1 ok1 => ?_⟩
    refine ⟨_, rfl, p, st1, 6, rfl, by decide, by decide, upd_same, ok1, fun u st2 u0 u1 ok2 => ⟨rfl, _, rfl, ?_⟩⟩
    rw [upd_upd]
    have tail : ∀ (n : Int) (st3 : List V), 0 ≤ n → n ≤ 30 → PoolOk st3 → ∀ D, upd H p (.lst st3) D = none → ∃ W : Nat → Nat → Hp → Prop, (∃ m, W 0 m (upd (upd H p (.lst st3)) D (.lst []))) ∧ True := fun n st3 _ _ _ D _ => ⟨fun _ _ _ => True, ⟨0, trivial⟩, trivial⟩
    clear tail
    refine ite2 (fun c => ?_) (fun c => ?_)
    · refine ⟨_, rfl, p, st2, 31, rfl, by decide, by decide, upd_same, ok2, fun n st3 n0 n1 ok3 => ?_⟩
      rw [upd_upd]
      refine ⟨_, rfl, n, rfl, by omega, by omega, fun D hD => ?_⟩
      have dp : D ≠ p := fun z => by rw [z, upd_same] at hD; cases hD
      have hD0 : H D = none := by rw [upd_ne dp] at hD; exact hD
      refine lc_range (lo := 0) (n := n.toNat) (fun i H' => ∃ (ns : List Int) (st' : List V), But p H H' ∧ H' p = some (.lst st') ∧ PoolOk st' ∧ H' D = some (.lst (ns.map V.int)) ∧ ns.length = i ∧ ∀ x ∈ ns, 0 ≤ x ∧ x ≤ cap) ⟨[], st3, But.set.trans (.of (.new hD)), by rw [upd_ne (Ne.symm dp), upd_same], ok3, upd_same, rfl, fun x hx => by cases hx⟩ ?_ ?_
      · rintro i H' hi ⟨ns, st', bt, hp', ok', hl, hn, hb⟩
        refine ⟨rfl, yesT ⟨_, rfl, p, st', rfl, hp', ok', fun v st4 hv ok4 => ?_⟩⟩
        obtain ⟨acc, a1, a2, a3, a4, a5, a6, a7⟩ := row_turn (st' := st4) hD0 dp bt hl hn (by omega) hb hv
        exact ⟨acc, a1, a2, ns ++ [v], st4, a3, a4, ok4, a5, a6, a7⟩
      · rintro H' ⟨ns, st', bt, hp', ok', hl, hn, hb⟩
        exact q H' D ns st' bt hp' ok' hD0 hl (by omega) hb
    · refine ⟨_, rfl, v, rfl, by omega, by omega, fun D hD => ?_⟩
      have dp : D ≠ p := fun z => by rw [z, upd_same] at hD; cases hD
      have hD0 : H D = none := by rw [upd_ne dp] at hD; exact hD
      refine lc_range (lo := 0) (n := v.toNat) (fun i H' => ∃ (ns : List Int) (st' : List V), But p H H' ∧ H' p = some (.lst st') ∧ PoolOk st' ∧ H' D = some (.lst (ns.map V.int)) ∧ ns.length = i ∧ ∀ x ∈ ns, 0 ≤ x ∧ x ≤ cap) ⟨[], st2, But.set.trans (.of (.new hD)), by rw [upd_ne (Ne.symm dp), upd_same], ok2, upd_same, rfl, fun x hx => by cases hx⟩ ?_ ?_
      · rintro i H' hi ⟨ns, st', bt, hp', ok', hl, hn, hb⟩
        refine ⟨rfl, yesT ⟨_, rfl, p, st', rfl, hp', ok', fun v st4 hv ok4 => ?_⟩⟩
        obtain ⟨acc, a1, a2, a3, a4, a5, a6, a7⟩ := row_turn (st' := st4) hD0 dp bt hl hn (by omega) hb hv
        exact ⟨acc, a1, a2, ns ++ [v], st4, a3, a4, ok4, a5, a6, a7⟩
      · rintro H' ⟨ns, st', bt, hp', ok', hl, hn, hb⟩
        exact q H' D ns st' bt hp' ok' hD0 hl (by omega) hb
end
end K02

set_option maxRecDepth 100000
set_option maxHeartbeats 4000000
namespace K02
open PySem PySem.Spec PyProof.Rows L2
section
variable {w : World} {K : PySem.W.Frag} {mg : Str → Option Value} {base : Heap}
theorem ok_law_odd (T : Tx K mg) : Ok PG w K mg base CX0 6 (a_law_odd K) p_law_odd (fun vs H Q _ => ∃ (p : Addr) (st : List V), vs = [.ref p] ∧ H p = some (.lst st) ∧ PoolOk st ∧ ∀ (v : Int) H' st', But p H H' → H' p = some (.lst st') → PoolOk st' → Q (.int v) H') := by
  refine Ok.of 5 T.f_law_odd sc_law_odd bi_law_odd (by decide) (fun vs H Q E h => ?_) (fun cdv A outer s H vs Q E hr h => ?_)
  · obtain ⟨_, _, rfl, _⟩ := h
    rfl
  · obtain ⟨p, st, rfl, hp, ok, q⟩ := h
    have nd := sc_law_odd.nd
    have hr2 := hr.mono (show 2 ≤ 5 by decide)
    refine ⟨_, pss_cons (ps_set (i := 1) nd rfl (.inl rfl) (pc (ok_law_draw T) hr2 T.g_law_draw pass0 (pa_cons (pv 0) (pa_cons pe_int pa_nil))))
      (pss_cons (ps_if (pt_cmpR op_eq (pv 1) pe_int (nomark _)) (pss_one (ps_ret (pe_ix ix_list (pe_lst (pa_cons (pe_un un_neg pe_int) (pa_cons (pe_op op_add (pe_op op_pow pe_int pe_int) pe_int) pa_nil))) (pc (ok_law_draw T) hr2 T.g_law_draw pass0 (pa_cons (pv 0) (pa_cons pe_int pa_nil))) (fun _ _ => rfl)))) pss_nil)
      (pss_cons (ps_if (pt_cmpR op_eq (pv 1) pe_int (nomark _)) (pss_one (ps_ret (pe_op op_sub (pe_op op_pow pe_int pe_int) (pc (ok_law_draw T) hr2 T.g_law_draw pass0 (pa_cons (pv 0) (pa_cons (pe_op op_add (pe_op op_mul pe_int (pe_op op_pow pe_int pe_int)) pe_int) pa_nil)))))) pss_nil)
      (pss_one (ps_ret (pc (ok_law_entry T) (hr.mono (by decide)) T.g_law_entry pass0 (pa_cons (pv 0) pa_nil)))))), ?_⟩
    refine ⟨_, rfl, p, st, 4, rfl, by decide, by decide, hp, ok, fun v st1 v0 v1 ok1 => ?_⟩
    refine ⟨_, rfl, rfl, _, rfl, ite2 (fun c => ?_) (fun c => ?_)⟩
    · refine ⟨1, rfl, _, _, rfl, rfl, ⟨by decide, by decide, by decide⟩, _, _, rfl, rfl, by show 2 ≤ sizeLine; decide, fun l hl => ?_⟩
      have pl : p ≠ l := fun z => by rw [← z, upd_same] at hl; cases hl
      refine ⟨_, rfl, p, st1, 2, rfl, by decide, by decide, by rw [upd_ne pl, upd_same], ok1, fun x st2 x0 x1 ok2 => ?_⟩
      have fin : ∀ y : Int, Q (.int y) (upd (upd (upd H p (.lst st1)) l (.lst [.int (-1), .int ((10 : Int) ^ (30 : Int).toNat + 1)])) p (.lst st2)) := fun y => q y _ st2 ((But.set.trans (.of (.new hl))).trans But.set) upd_same ok2
      have hx : x = 0 ∨ x = 1 := by omega
      have hl' : upd (upd (upd H p (.lst st1)) l (.lst [.int (-1), .int ((10 : Int) ^ (30 : Int).toNat + 1)])) p (.lst st2) l = some (.lst [.int (-1), .int ((10 : Int) ^ (30 : Int).toNat + 1)]) := by rw [upd_ne (Ne.symm pl), upd_same]
      rcases hx with rfl | rfl
      · exact ⟨l, _, 0, _, rfl, rfl, SqL.of hl', rfl, fin _⟩
      · exact ⟨l, _, 1, _, rfl, rfl, SqL.of hl', rfl, fin _⟩
    · refine ⟨_, rfl, rfl, _, rfl, ite2 (fun c => ?_) (fun c => ?_)⟩
      · exact ⟨_, _, rfl, rfl, ⟨by decide, by decide, by decide⟩, _, rfl, _, _, rfl, rfl, ⟨by decide, by decide, by decide⟩, _, _, rfl, rfl, .inl ⟨by decide, by decide⟩, _, _, rfl, rfl, p, st1, _, rfl, by decide, by decide, upd_same, ok1, fun x st2 x0 x1 ok2 => ⟨_, _, rfl, rfl, q _ _ st2 (But.set.trans But.set) upd_same ok2⟩⟩
      · exact ⟨_, rfl, p, st1, rfl, upd_same, ok1, fun x st2 _ ok2 => q x _ st2 (But.set.trans But.set) upd_same ok2⟩
end
end K02

set_option maxRecDepth 100000
set_option maxHeartbeats 4000000
namespace K02
open PySem PySem.Spec PyProof.Rows L2
section
variable {w : World} {K : PySem.W.Frag} {mg : Str → Option Value} {base : Heap}
def spPerson : Sp := fun vs H Q _ => ∃ (p : Addr) (st : List V) (m : Int), vs = [.ref p, .int m] ∧ 0 ≤ m ∧ m ≤ 1000 ∧ H p = some (.lst st) ∧ PoolOk st ∧ ∀ (v : Int) H' st', But p H H' → H' p = some (.lst st') → PoolOk st' → Q (.int v) H'
theorem ok_law_person (T : Tx K mg) : Ok PG w K mg base CX0 4 (a_law_person K) p_law_person spPerson := by
  refine Ok.of 3 T.f_law_person sc_law_person bi_law_person (by decide) (fun vs H Q E h => ?_) (fun cdv A outer s H vs Q E hr h => ?_)
  · obtain ⟨_, _, _, rfl, _⟩ := h
    rfl
  · obtain ⟨p, st, m, rfl, m0, m1, hp, ok, q⟩ := h
    have hr2 := hr.mono (show 2 ≤ 3 by decide)
    refine ⟨_, pss_cons (ps_if (PW.pt (pw_or (pt_cmpR op_eq (pc (ok_law_draw T) hr2 T.g_law_draw pass0 (pa_cons (pv 0) (pa_cons pe_int pa_nil))) pe_int (nomark _)) (pw_or1 (pt_cmpR op_eq (pv 1) pe_int (nomark _)))))
        (pss_one (ps_ret (pe_ix ix_list (pe_lst (pa_cons (pe_un un_neg pe_int) (pa_cons (pv 1) (pa_cons (pe_op op_pow pe_int pe_int) (pa_cons (pe_un un_neg (pe_op op_pow pe_int pe_int)) pa_nil))))) (pc (ok_law_draw T) hr2 T.g_law_draw pass0 (pa_cons (pv 0) (pa_cons pe_int pa_nil))) (fun _ _ => rfl)))) pss_nil)
      (pss_one (ps_ret (pc (ok_law_draw T) hr2 T.g_law_draw pass0 (pa_cons (pv 0) (pa_cons (pv 1) pa_nil))))), ?_⟩
    refine ⟨_, rfl, p, st, 12, rfl, by decide, by decide, hp, ok, fun v st1 v0 v1 ok1 => ⟨rfl, _, rfl, ?_⟩⟩
    have rest : m ≠ 0 → 0 < m := fun h => by omega
    have odd : ∀ l, upd H p (.lst st1) l = none → ∀ items : List V, (∃ a b c d : Int, items = [.int a, .int b, .int c, .int d]) → ∀ (x : Int) st2, 0 ≤ x → x < 4 → PoolOk st2 → rIxL K (.ref l) (.int x) (upd (upd (upd H p (.lst st1)) l (.lst items)) p (.lst st2)) Q := fun l hl items ⟨a, b, c, d, e⟩ x st2 x0 x1 ok2 => by
      subst e
      have pl : p ≠ l := fun z => by rw [← z, upd_same] at hl; cases hl
      have fin : ∀ y : Int, Q (.int y) (upd (upd (upd H p (.lst st1)) l (.lst [.int a, .int b, .int c, .int d])) p (.lst st2)) := fun y => q y _ st2 ((But.set.trans (.of (.new hl))).trans But.set) upd_same ok2
      have hl' : upd (upd (upd H p (.lst st1)) l (.lst [.int a, .int b, .int c, .int d])) p (.lst st2) l = some (.lst [.int a, .int b, .int c, .int d]) := by rw [upd_ne (Ne.symm pl), upd_same]
      have hx : x = 0 ∨ x = 1 ∨ x = 2 ∨ x = 3 := by omega
      rcases hx with rfl | rfl | rfl | rfl <;> exact ⟨l, _, _, _, rfl, rfl, SqL.of hl', rfl, fin _⟩
    have pick : ∀ l, upd H p (.lst st1) l = none → ∀ items : List V, upd (upd H p (.lst st1)) l (.lst items) p = some (.lst st1) := fun l hl items => by
      rw [upd_ne (fun z => by rw [← z, upd_same] at hl; cases hl), upd_same]
    refine ite2 (fun c => ?_) (fun c => ?_)
    · refine iteT ?_
      exact ⟨1, rfl, _, rfl, _, _, rfl, rfl, ⟨by decide, by decide, by decide⟩, _, _, rfl, rfl, ⟨by decide, by decide, by decide⟩, _, rfl, by show 4 ≤ sizeLine; decide, fun l hl => ⟨_, rfl, p, st1, 4, rfl, by decide, by decide, pick l hl _, ok1, fun x st2 x0 x1 ok2 => odd l hl _ ⟨_, _, _, _, rfl⟩ x st2 x0 x1 ok2⟩⟩
    · refine ⟨_, rfl, rfl, _, rfl, ite2 (fun c => ?_) (fun c => ?_)⟩
      · exact ⟨1, rfl, _, rfl, _, _, rfl, rfl, ⟨by decide, by decide, by decide⟩, _, _, rfl, rfl, ⟨by decide, by decide, by decide⟩, _, rfl, by show 4 ≤ sizeLine; decide, fun l hl => ⟨_, rfl, p, st1, 4, rfl, by decide, by decide, pick l hl _, ok1, fun x st2 x0 x1 ok2 => odd l hl _ ⟨_, _, _, _, rfl⟩ x st2 x0 x1 ok2⟩⟩
      · have m2 : 0 < m := rest fun z => c (by rw [z]; rfl)
        refine ⟨_, rfl, _, rfl, p, st1, m, rfl, m2, ?_, upd_same, ok1, fun x st2 _ _ ok2 => q x _ st2 (But.set.trans But.set) upd_same ok2⟩
        have : m.natAbs < 2 ^ 10 := by omega
        exact Nat.lt_trans this (by decide)
end
end K02

set_option maxRecDepth 100000
set_option maxHeartbeats 4000000
/-! # Lists of numbers drawn from a pool -/
namespace L2
open PySem PySem.Spec PyProof.Rows
/-- [f(pool) for x in range(..)] -/
theorem lc_draws {lo : Int} {n i0 : Nat} {te : TE} {vs : List Nat} {σ : L2.St} {H1 : Hp} {D p : Addr} {st : List V} {Qd : Hp → Prop} {C : Int → Prop} (hp : H1 p = some (.lst st)) (ok : PoolOk st) (hD : H1 D = none) (hn : n ≤ 10000)
    (hte : ∀ (i : Nat) (H2 : Hp) (st2 : List V), H2 p = some (.lst st2) → PoolOk st2 → But p H1 H2 → wipe ((wipe σ vs).set i0 (some (.int (lo + (i : Nat))))) vs = wipe σ vs ∧ ∀ Q : VK, (∀ v H3 st3, C v → But p H2 H3 → H3 p = some (.lst st3) → PoolOk st3 → Q (.int v) H3) → te ((wipe σ vs).set i0 (some (.int (lo + (i : Nat))))) H2 Q)
    (hd : ∀ (H' : Hp) (ns : List Int) (st' : List V), But p H1 H' → H' p = some (.lst st') → PoolOk st' → H' D = some (.lst (ns.map V.int)) → ns.length = n → (∀ x ∈ ns, C x) → Qd H') :
    ∃ W : Nat → Nat → Hp → Prop, (∃ m, W 0 m (upd H1 D (.lst []))) ∧ ∀ i m H, W i m H →
      ((Itr lo n).stop i H ∧ Qd H) ∨ ((Itr lo n).go i H ∧ ∃ Nx : Hp → Prop, (∀ H', Nx H' → ∃ m', m' < m ∧ W (i + 1) m' H') ∧ ∀ x H', (Itr lo n).yld i H x H' → gName i0 x (wipe σ vs) H' fun σ2 H2 => wipe σ2 vs = wipe σ vs ∧ tYes σ2 H2 fun b H3 =>
        if b = true then te σ2 H3 fun y H4 => ∃ acc, H4 D = some (.lst acc) ∧ acc.length < sizeLine ∧ Nx (upd H4 D (.lst (acc ++ [y]))) else Nx H3) := by
  have dp : D ≠ p := fun z => by rw [z, hp] at hD; cases hD
  refine lc_range (lo := lo) (n := n) (fun i H' => ∃ (ns : List Int) (st' : List V), But p H1 H' ∧ H' p = some (.lst st') ∧ PoolOk st' ∧ H' D = some (.lst (ns.map V.int)) ∧ ns.length = i ∧ ∀ x ∈ ns, C x) ⟨[], st, .of (.new hD), by rw [upd_ne (Ne.symm dp)]; exact hp, ok, upd_same, rfl, fun x hx => by cases hx⟩ ?_ ?_
  · rintro i H' hi ⟨ns, st', bt, hp', ok', hl, hn', hb⟩
    obtain ⟨e1, e2⟩ := hte i H' st' hp' ok' bt
    refine ⟨e1, yesT (e2 _ fun v H3 st3 hv b3 hp3 ok3 => ?_)⟩
    refine ⟨ns.map V.int, b3 _ _ dp hl, by rw [List.length_map, hn', sizeLine_eq]; omega, ns ++ [v], st3, fun c o nc hc => ?_, ?_, ok3, ?_, ?_, fun x hx => ?_⟩
    · have nD : c ≠ D := fun z => by rw [z, hD] at hc; cases hc
      rw [upd_ne nD]
      exact b3 c o nc (bt c o nc hc)
    · rw [upd_ne (Ne.symm dp)]; exact hp3
    · rw [upd_same, List.map_append]; rfl
    · rw [List.length_append, hn']; rfl
    · rcases List.mem_append.mp hx with hx | hx
      · exact hb x hx
      · rw [List.mem_singleton.mp hx]; exact hv
  · rintro H' ⟨ns, st', bt, hp', ok', hl, hn', hb⟩
    exact hd H' ns st' bt hp' ok' hl hn' hb
theorem But.none {p l : Addr} {H H' : Hp} {o : HO} (b : But p H H') (hp : H' p = some o) (h : H' l = Option.none) : H l = Option.none := by
  cases e : H l with
  | none => rfl
  | some u =>
    have n : l ≠ p := fun z => by rw [z, hp] at h; cases h
    rw [b l u n e] at h
    cases h
end L2

set_option maxRecDepth 100000
set_option maxHeartbeats 4000000
namespace K02
open PySem PySem.Spec PyProof.Rows L2
section
variable {w : World} {K : PySem.W.Frag} {mg : Str → Option Value} {base : Heap}
theorem ixN_nat {n j : Nat} (h : j < n) : ixN n ((j : Nat) : Int) = some j := by
  unfold ixN
  simp [h]
theorem get_map {ns : List Int} {i : Nat} (h : i < ns.length) : (ns.map V.int)[i]? = some (.int ns[i]) := by rw [List.getElem?_map, List.getElem?_eq_getElem h]; rfl
abbrev InC (ns : List Int) : Prop := ∀ x ∈ ns, 0 ≤ x ∧ x ≤ cap
theorem inC_set {ns : List Int} {i : Nat} {v : Int} (h : InC ns) (hv : 0 ≤ v ∧ v ≤ cap) : InC (ns.set i v) := fun x hx => by
  rcases List.mem_or_eq_of_mem_set hx with hx | rfl
  · exact h x hx
  · exact hv
/-- the second row -/
def spSecond (K : PySem.W.Frag) : Sp := fun vs H Q _ => ∃ (p a : Addr) (st : List V) (ns : List Int), vs = [.ref p, .ref a] ∧ H p = some (.lst st) ∧ PoolOk st ∧ a ≠ p ∧ H a = some (.lst (ns.map V.int)) ∧ ns.length ≤ 30 ∧ InC ns ∧ NewRow p H 30 (fun v => 0 ≤ v ∧ v ≤ cap) Q
theorem second_moves (T : Tx K mg) (cdv : Value) (A : Around) (outer : List Env) (s : Shared) (H : Hp) (E : XK) (hr : Room 7 (A.deeper (envOfC "_law_second" (defScope s_law_second) s.heap.objs.size (a_law_second K) cdv))) :
    ∃ t, PSs (cxOf CX0 PG w K mg base n_law_second "_law_second" (defScope s_law_second) (a_law_second K) cdv A outer s H E) ((defBody s_law_second).drop 5) t ∧ ∀ (D : Ends) (p a l : Addr) (st : List V) (ns ms : List Int) (x2 x3 x5 x6 x7 x8 : Option V) (H' : Hp),
      H' p = some (.lst st) → PoolOk st → a ≠ p → l ≠ p → l ≠ a → SqL K H' a (ns.map V.int) → H' l = some (.lst (ms.map V.int)) → ms.length = ns.length → ns.length ≤ 30 → InC ms → (∀ H2 st2 ms2, (∀ b o, b ≠ p → b ≠ l → H' b = some o → H2 b = some o) → H2 p = some (.lst st2) → PoolOk st2 → H2 l = some (.lst (ms2.map V.int)) → ms2.length = ns.length → InC ms2 → D.rt (.ref l) H2) →
      t D [some (.ref p), some (.ref a), x2, x3, some (.ref l), x5, x6, x7, x8] H' := by
  have nd := sc_law_second.nd
  have hr2 := hr.mono (show 2 ≤ 7 by decide)
  refine ⟨_, pss_cons (ps_if (pt_cmpR op_gt (pe_callB call_len_seq (by rfl) T.m_len PySem.boot_len (pa_cons (pv 1) pa_nil)) pe_int (nomark _))
      (pss_one (ps_for (passX rfl) rfl (pi_range1 rfl T.m_range (pa_cons (pc (ok_law_draw T) hr2 T.g_law_draw pass0 (pa_cons (pv 0) (pa_cons pe_int pa_nil))) pa_nil)) (pg_name (i := 5) nd rfl (.inl rfl))
        (pss_cons (ps_set (i := 6) nd rfl (.inl rfl) (pc (ok_law_draw T) hr2 T.g_law_draw pass0 (pa_cons (pv 0) (pa_cons (pe_callB call_len_seq (by rfl) T.m_len PySem.boot_len (pa_cons (pv 1) pa_nil)) pa_nil))))
        (pss_cons (ps_set (i := 7) nd rfl (.inl rfl) (pc (ok_law_draw T) hr2 T.g_law_draw pass0 (pa_cons (pv 0) (pa_cons (pe_callB call_len_seq (by rfl) T.m_len PySem.boot_len (pa_cons (pv 1) pa_nil)) pa_nil))))
        (pss_cons (ps_set (i := 8) nd rfl (.inl rfl) (pe_op op_add pe_int (pc (ok_law_draw T) hr2 T.g_law_draw pass0 (pa_cons (pv 0) (pa_cons pe_int pa_nil)))))
        (pss_cons (ps_if (pt_cmpR op_gt (pv 8) (pe_ix ix_list (pv 4) (pv 6) (fun _ _ => rfl)) (nomark _)) (pss_one (ps_set (i := 8) nd rfl (.inl rfl) (pe_ix ix_list (pv 4) (pv 6) (fun _ _ => rfl)))) pss_nil)
        (pss_cons (ps_if (pt_cmpR op_gt (pv 8) (pe_op op_sub (pe_op op_pow pe_int pe_int) (pe_ix ix_list (pv 4) (pv 7) (fun _ _ => rfl))) (nomark _)) (pss_one (ps_set (i := 8) nd rfl (.inl rfl) (pe_op op_sub (pe_op op_pow pe_int pe_int) (pe_ix ix_list (pv 4) (pv 7) (fun _ _ => rfl))))) pss_nil)
        (pss_cons (ps_asg (pe_op op_sub (pe_ix ix_list (pv 4) (pv 6) (fun _ _ => rfl)) (pv 8)) (pg_sub (pv 4) (pv 6) set_list))
        (pss_one (ps_asg (pe_op op_add (pe_ix ix_list (pv 4) (pv 7) (fun _ _ => rfl)) (pv 8)) (pg_sub (pv 4) (pv 7) set_list))))))))))) pss_nil)
    (pss_one (ps_ret (pv 4))), ?_⟩
  intro D p a l st ns ms x2 x3 x5 x6 x7 x8 H0 hp ok ap lp la hs hl lm ln hb q
  refine ⟨_, rfl, a, _, rfl, .inl hs, _, _, rfl, rfl, _, rfl, ?_⟩
  refine ite2 (fun c => ?_) (fun c => ?_)
  · have n0 : 0 < ns.length := by
      have := of_decide_eq_true c
      rw [List.length_map] at this
      omega
    refine ⟨_, rfl, p, st, 4, rfl, by decide, by decide, hp, ok, fun k st1 k0 k1 ok1 => ⟨k, rfl, by omega, by omega, ?_⟩⟩
    refine for_range (lo := 0) (n := k.toNat) (fun i σ H' => ∃ (ms : List Int) (st' : List V) (x5 x6 x7 x8 : Option V), σ = [some (.ref p), some (.ref a), x2, x3, some (.ref l), x5, x6, x7, x8] ∧ (∀ b o, b ≠ p → b ≠ l → H0 b = some o → H' b = some o) ∧ SqL K H' a (ns.map V.int) ∧ H' p = some (.lst st') ∧ PoolOk st' ∧ H' l = some (.lst (ms.map V.int)) ∧ ms.length = ns.length ∧ InC ms)
      ⟨ms, st1, x5, x6, x7, x8, rfl, fun b o n1 _ e => by rw [upd_ne n1]; exact e, (But.set).sqL ap hs, upd_same, ok1, by rw [upd_ne lp]; exact hl, lm, hb⟩ ?_ ?_
    · rintro i σ H1 hi ⟨ms, st', x5, x6, x7, x8, rfl, kp, hs1, hp1, ok1, hl1, lm1, hb1⟩
      have nn : ((ns.length : Nat) : Int).natAbs < 2 ^ 200 := by
        have : ((ns.length : Nat) : Int).natAbs < 2 ^ 6 := by omega
        exact Nat.lt_trans this (by decide)
      refine ⟨_, rfl, _, rfl, a, _, rfl, .inl hs1, p, st', _, rfl, by rw [List.length_map]; omega, by rw [List.length_map]; exact nn, hp1, ok1, fun g st2 g0 g1 ok2 => ?_⟩
      have hs2 := (But.set (o := .lst st2)).sqL ap hs1
      refine ⟨_, rfl, _, rfl, a, _, rfl, .inl hs2, p, st2, _, rfl, by rw [List.length_map]; omega, by rw [List.length_map]; exact nn, upd_same, ok2, fun t st3 t0 t1 ok3 => ?_⟩
      refine ⟨_, rfl, p, st3, 3, rfl, by decide, by decide, upd_same, ok3, fun v st4 v0 v1 ok4 => ?_⟩
      rw [upd_upd, upd_upd]
      rw [List.length_map] at g1 t1
      obtain ⟨gi, rfl⟩ : ∃ j : Nat, g = (j : Nat) := ⟨g.toNat, by omega⟩
      obtain ⟨ti, rfl⟩ : ∃ j : Nat, t = (j : Nat) := ⟨t.toNat, by omega⟩
      have lg : gi < ms.length := by omega
      have lt : ti < ms.length := by omega
      have hl4 : upd H1 p (.lst st4) l = some (.lst (ms.map V.int)) := by rw [upd_ne lp]; exact hl1
      have bg := hb1 _ (List.getElem_mem lg)
      have bt := hb1 _ (List.getElem_mem lt)
      -- the end of the turn
      have fin : ∀ mv : Int, 0 ≤ mv → mv ≤ ms[gi] → mv ≤ cap - ms[ti] → ∃ (ms' : List Int) (st' : List V) (x5 x6 x7 x8 : Option V),
          [some (V.ref p), some (.ref a), x2, x3, some (.ref l), some (.int (0 + (i : Nat))), some (.int (gi : Nat)), some (.int (ti : Nat)), some (.int mv)] = [some (.ref p), some (.ref a), x2, x3, some (.ref l), x5, x6, x7, x8] ∧
          (∀ b o, b ≠ p → b ≠ l → H0 b = some o → upd (upd (upd H1 p (.lst st4)) l (.lst ((ms.map V.int).set gi (.int (ms[gi] - mv))))) l (.lst ((((ms.set gi (ms[gi] - mv)).map V.int)).set ti (.int ((ms.set gi (ms[gi] - mv))[ti]'(by rw [List.length_set]; exact lt) + mv)))) b = some o) ∧
          SqL K (upd (upd (upd H1 p (.lst st4)) l (.lst ((ms.map V.int).set gi (.int (ms[gi] - mv))))) l (.lst ((((ms.set gi (ms[gi] - mv)).map V.int)).set ti (.int ((ms.set gi (ms[gi] - mv))[ti]'(by rw [List.length_set]; exact lt) + mv))))) a (ns.map V.int) ∧
          upd (upd (upd H1 p (.lst st4)) l (.lst ((ms.map V.int).set gi (.int (ms[gi] - mv))))) l (.lst ((((ms.set gi (ms[gi] - mv)).map V.int)).set ti (.int ((ms.set gi (ms[gi] - mv))[ti]'(by rw [List.length_set]; exact lt) + mv)))) p = some (.lst st') ∧ PoolOk st' ∧
          upd (upd (upd H1 p (.lst st4)) l (.lst ((ms.map V.int).set gi (.int (ms[gi] - mv))))) l (.lst ((((ms.set gi (ms[gi] - mv)).map V.int)).set ti (.int ((ms.set gi (ms[gi] - mv))[ti]'(by rw [List.length_set]; exact lt) + mv)))) l = some (.lst (ms'.map V.int)) ∧ ms'.length = ns.length ∧ InC ms' := by
        intro mv m0 m1 m2
        rw [upd_upd]
        have b1 : InC (ms.set gi (ms[gi] - mv)) := inC_set hb1 ⟨by omega, by omega⟩
        refine ⟨(ms.set gi (ms[gi] - mv)).set ti ((ms.set gi (ms[gi] - mv))[ti]'(by rw [List.length_set]; exact lt) + mv), st4, _, _, _, _, rfl, fun b o n1 n2 e => ?_, ?_, ?_, ok4, ?_, ?_, inC_set b1 ?_⟩
        · rw [upd_ne n2, upd_ne n1]; exact kp b o n1 n2 e
        · exact (But.set (p := l)).sqL (Ne.symm la) ((But.set).sqL ap hs1)
        · rw [upd_ne (Ne.symm lp), upd_same]
        · rw [upd_same]; simp only [List.map_set]
        · rw [List.length_set, List.length_set]; exact lm1
        · have e : (ms.set gi (ms[gi] - mv))[ti]'(by rw [List.length_set]; exact lt) = if gi = ti then ms[gi] - mv else ms[ti] := List.getElem_set ..
          rw [e]
          by_cases z : gi = ti
          · rw [if_pos z]
            constructor <;> omega
          · rw [if_neg z]
            constructor <;> omega
      have sub : ∀ mv : Int, ((ms.map V.int).set gi (.int (ms[gi] - mv))) = (ms.set gi (ms[gi] - mv)).map V.int := fun mv => List.map_set.symm
      have lt2 : ∀ mv : Int, ti < (ms.set gi (ms[gi] - mv)).length := fun mv => by rw [List.length_set]; exact lt
      have gt2 : ∀ mv : Int, ((ms.set gi (ms[gi] - mv)).map V.int)[ti]? = some (.int ((ms.set gi (ms[gi] - mv))[ti]'(lt2 mv))) := fun mv => get_map (lt2 mv)
      have up : ∀ mv : Int, upd (upd H1 p (.lst st4)) l (.lst ((ms.map V.int).set gi (.int (ms[gi] - mv)))) l = some (.lst ((ms.set gi (ms[gi] - mv)).map V.int)) := fun mv => by rw [upd_same, sub]
      refine ⟨_, _, rfl, rfl, ?_⟩
      refine ⟨_, rfl, _, rfl, _, rfl, l, _, _, .int ms[gi], rfl, rfl, SqL.of hl4, atI_nat (get_map lg), _, _, rfl, rfl, _, rfl, ?_⟩
      refine ite2 (fun c => ?_) (fun c => ?_)
      · have c' : 1 + v > ms[gi] := of_decide_eq_true c
        refine ⟨_, rfl, _, rfl, l, _, _, .int ms[gi], rfl, rfl, SqL.of hl4, atI_nat (get_map lg), ?_⟩
        refine ⟨_, rfl, _, _, rfl, rfl, ⟨by decide, by decide, by decide⟩, _, rfl, _, rfl, l, _, _, .int ms[ti], rfl, rfl, SqL.of hl4, atI_nat (get_map lt), _, _, rfl, rfl, _, _, rfl, rfl, _, rfl, ?_⟩
        refine ite2 (fun d => ?_) (fun d => ?_)
        · have d' : ms[gi] > cap - ms[ti] := of_decide_eq_true d
          refine ⟨_, _, rfl, rfl, ⟨by decide, by decide, by decide⟩, _, rfl, _, rfl, l, _, _, .int ms[ti], rfl, rfl, SqL.of hl4, atI_nat (get_map lt), _, _, rfl, rfl, ?_⟩
          exact ⟨_, rfl, _, rfl, l, _, _, .int ms[gi], rfl, rfl, SqL.of hl4, atI_nat (get_map lg), _, rfl, _, _, rfl, rfl, _, rfl, _, rfl, l, _, _, gi, rfl, rfl, hl4, ixN_nat (by rw [List.length_map]; exact lg), _, rfl, _, rfl, l, _, _, .int _, rfl, rfl, SqL.of (up (cap - ms[ti])), atI_nat (gt2 (cap - ms[ti])), _, rfl, _, _, rfl, rfl, _, rfl, _, rfl, l, _, _, ti, rfl, rfl, up (cap - ms[ti]), ixN_nat (by rw [List.length_map]; exact lt2 _), fin (cap - ms[ti]) (by omega) (by omega) (Int.le_refl _)⟩
        · have d' : ¬ ms[gi] > cap - ms[ti] := fun z => d (decide_eq_true z)
          exact ⟨_, rfl, _, rfl, l, _, _, .int ms[gi], rfl, rfl, SqL.of hl4, atI_nat (get_map lg), _, rfl, _, _, rfl, rfl, _, rfl, _, rfl, l, _, _, gi, rfl, rfl, hl4, ixN_nat (by rw [List.length_map]; exact lg), _, rfl, _, rfl, l, _, _, .int _, rfl, rfl, SqL.of (up (ms[gi])), atI_nat (gt2 (ms[gi])), _, rfl, _, _, rfl, rfl, _, rfl, _, rfl, l, _, _, ti, rfl, rfl, up (ms[gi]), ixN_nat (by rw [List.length_map]; exact lt2 _), fin (ms[gi]) (by omega) (by omega) (by omega)⟩
      · have c' : ¬ 1 + v > ms[gi] := fun z => c (decide_eq_true z)
        refine ⟨_, rfl, _, _, rfl, rfl, ⟨by decide, by decide, by decide⟩, _, rfl, _, rfl, l, _, _, .int ms[ti], rfl, rfl, SqL.of hl4, atI_nat (get_map lt), _, _, rfl, rfl, _, _, rfl, rfl, _, rfl, ?_⟩
        refine ite2 (fun d => ?_) (fun d => ?_)
        · have d' : 1 + v > cap - ms[ti] := of_decide_eq_true d
          refine ⟨_, _, rfl, rfl, ⟨by decide, by decide, by decide⟩, _, rfl, _, rfl, l, _, _, .int ms[ti], rfl, rfl, SqL.of hl4, atI_nat (get_map lt), _, _, rfl, rfl, ?_⟩
          exact ⟨_, rfl, _, rfl, l, _, _, .int ms[gi], rfl, rfl, SqL.of hl4, atI_nat (get_map lg), _, rfl, _, _, rfl, rfl, _, rfl, _, rfl, l, _, _, gi, rfl, rfl, hl4, ixN_nat (by rw [List.length_map]; exact lg), _, rfl, _, rfl, l, _, _, .int _, rfl, rfl, SqL.of (up (cap - ms[ti])), atI_nat (gt2 (cap - ms[ti])), _, rfl, _, _, rfl, rfl, _, rfl, _, rfl, l, _, _, ti, rfl, rfl, up (cap - ms[ti]), ixN_nat (by rw [List.length_map]; exact lt2 _), fin (cap - ms[ti]) (by omega) (by omega) (Int.le_refl _)⟩
        · have d' : ¬ 1 + v > cap - ms[ti] := fun z => d (decide_eq_true z)
          exact ⟨_, rfl, _, rfl, l, _, _, .int ms[gi], rfl, rfl, SqL.of hl4, atI_nat (get_map lg), _, rfl, _, _, rfl, rfl, _, rfl, _, rfl, l, _, _, gi, rfl, rfl, hl4, ixN_nat (by rw [List.length_map]; exact lg), _, rfl, _, rfl, l, _, _, .int _, rfl, rfl, SqL.of (up (1 + v)), atI_nat (gt2 (1 + v)), _, rfl, _, _, rfl, rfl, _, rfl, _, rfl, l, _, _, ti, rfl, rfl, up (1 + v), ixN_nat (by rw [List.length_map]; exact lt2 _), fin (1 + v) (by omega) (by omega) (by omega)⟩
    · rintro σ H1 ⟨ms, st', x5, x6, x7, x8, rfl, kp, hs1, hp1, ok1, hl1, lm1, hb1⟩
      exact ⟨_, rfl, q H1 st' ms kp hp1 ok1 hl1 lm1 hb1⟩
  · exact ⟨_, rfl, q H0 st ms (fun b o _ _ e => e) hp ok hl lm hb⟩
theorem ok_law_second (T : Tx K mg) : Ok PG w K mg base CX0 8 (a_law_second K) p_law_second (spSecond K) := by
  refine Ok.of 7 T.f_law_second sc_law_second bi_law_second (by decide) (fun vs H Q E h => ?_) (fun cdv A outer s H vs Q E hr h => ?_)
  · obtain ⟨_, _, _, _, rfl, _⟩ := h
    rfl
  · obtain ⟨p, a, st, ns, rfl, hp, ok, ap, ha, ln, hb, q⟩ := h
    have hs : SqL K H a (ns.map V.int) := .of ha
    have nd := sc_law_second.nd
    have hr2 := hr.mono (show 2 ≤ 7 by decide)
    obtain ⟨tl, dl, rl⟩ := second_moves (w := w) (base := base) T cdv A outer s H E hr
    refine ⟨_, pss_cons (ps_set (i := 2) nd rfl (.inl rfl) (pc (ok_law_draw T) hr2 T.g_law_draw pass0 (pa_cons (pv 0) (pa_cons pe_int pa_nil))))
      (pss_cons (ps_if (pt_cmpR op_eq (pv 2) pe_int (nomark _)) (pss_one (ps_ret (pc (ok_law_entries T) (hr.mono (by decide)) T.g_law_entries pass0 (pa_cons (pv 0) pa_nil)))) pss_nil)
      (pss_cons (ps_if (pt_cmpR op_eq (pv 2) pe_int (nomark _)) (pss_one (ps_ret (pe_lc (own := [("place", 3)]) (g := gName 3) (tt := tYes) rfl nd (pi_range1 rfl T.m_range (pa_cons (pe_callB call_len_seq (by rfl) T.m_len PySem.boot_len (pa_cons (pv 1) pa_nil)) pa_nil)) (blkOk_by (N := n_law_second) (sc := defScope s_law_second) (by decide +kernel)) (fun _ _ _ _ _ => pg_name (i := 3) nd rfl (Or.inl rfl)) (fun _ _ _ _ _ => pts_nil)
          (fun _ _ _ _ _ => pc (ok_law_entry T) (hr.mono (by decide)) T.g_law_entry pass0 (pa_cons (pv 0) pa_nil))))) pss_nil)
      (pss_cons (ps_set (i := 4) nd rfl (.inl rfl) (pe_callTy call_list_of (by rfl) T.m_list (by decide +kernel) (pa_cons (pv 1) pa_nil)))
      (pss_cons (ps_if (pt_cmpR op_eq (pv 2) pe_int (nomark _)) (pss_one (ps_set (i := 4) nd rfl (.inl rfl) (pe_revL (pv 1)))) pss_nil) dl)))), ?_⟩
    refine ⟨_, rfl, p, st, 4, rfl, by decide, by decide, hp, ok, fun way st1 w0 w1 ok1 => ?_⟩
    have b1 : But p H (upd H p (.lst st1)) := .set
    have hs1 := b1.sqL ap hs
    refine ⟨_, rfl, rfl, _, rfl, ite2 (fun c => ?_) (fun c => ?_)⟩
    · exact ⟨_, rfl, p, st1, rfl, upd_same, ok1, fun H' l ms st' b2 h2 h3 h4 h5 h6 h7 => q H' l ms st' (b1.trans b2) h2 h3 (b1.none upd_same h4) h5 h6 h7⟩
    refine ⟨_, rfl, rfl, _, rfl, ite2 (fun c1 => ?_) (fun c1 => ?_)⟩
    · refine ⟨_, rfl, a, _, rfl, .inl hs1, _, rfl, by omega, by rw [List.length_map]; omega, fun D hD => ?_⟩
      refine lc_draws (C := fun v => 0 ≤ v ∧ v ≤ cap) upd_same ok1 hD (by rw [List.length_map]; omega) (fun i H2 st2 hp2 ok2 b2 => ⟨rfl, fun Q q => ⟨_, rfl, p, st2, rfl, hp2, ok2, fun v st3 hv ok3 => q v _ st3 hv But.set upd_same ok3⟩⟩) fun H' ms st' b2 h2 h3 h4 h5 h6 => ?_
      exact q H' D ms st' (b1.trans b2) h2 h3 (b1.none upd_same hD) h4 (by rw [h5, List.length_map]; omega) h6
    refine ⟨_, rfl, a, _, rfl, .inl hs1, fun l hl => ?_⟩
    have lp : l ≠ p := fun z => by rw [z, upd_same] at hl; cases hl
    have hl0 : H l = none := b1.none upd_same hl
    have go : ∀ (l : Addr) (ms : List Int) (H1 : Hp) (x5 x6 x7 x8 : Option V), But p H H1 → l ≠ p → H l = none → H1 p = some (.lst st1) → H1 l = some (.lst (ms.map V.int)) → ms.length = ns.length → InC ms → SqL K H1 a (ns.map V.int) → l ≠ a → tl { nx := fun _ H' => Q .non H', rt := Q } [some (.ref p), some (.ref a), some (.int way), none, some (.ref l), x5, x6, x7, x8] H1 := fun l ms H1 x5 x6 x7 x8 b2 lp hl0 h1 h2 h3 h4 h5 la =>
      rl _ p a l st1 ns ms _ _ _ _ _ _ H1 h1 ok1 ap lp la h5 h2 h3 ln h4 (fun H2 st2 ms2 kp g1 g2 g3 g4 g5 => q H2 l ms2 st2 (fun b o nb e => kp b o nb (fun z => by rw [z, hl0] at e; cases e) (b2 b o nb e)) g1 g2 hl0 g3 (by omega) g5)
    have la : l ≠ a := fun z => by rw [z, ha] at hl0; cases hl0
    have b2 : But p H (upd (upd H p (.lst st1)) l (.lst (ns.map V.int))) := b1.trans (.of (.new hl))
    have hp2 : upd (upd H p (.lst st1)) l (.lst (ns.map V.int)) p = some (.lst st1) := by rw [upd_ne (Ne.symm lp), upd_same]
    refine ⟨_, rfl, rfl, _, rfl, ite2 (fun c2 => ?_) (fun c2 => ?_)⟩
    · refine ⟨_, rfl, a, _, rfl, b2.sqL ap hs, fun l2 hl2 => ?_⟩
      have l2p : l2 ≠ p := fun z => by rw [z, hp2] at hl2; cases hl2
      have hl20 : H l2 = none := b2.none hp2 hl2
      have e : (ns.map V.int).reverse = (ns.reverse).map V.int := List.map_reverse.symm
      rw [e]
      exact go l2 ns.reverse _ _ _ _ _ (b2.trans (.of (.new hl2))) l2p hl20 (by rw [upd_ne (Ne.symm l2p)]; exact hp2) upd_same List.length_reverse (fun x hx => hb x (List.mem_reverse.mp hx)) ((b2.trans (.of (.new hl2))).sqL ap hs) (fun z => by rw [z, ha] at hl20; cases hl20)
    · exact go l ns _ _ _ _ _ b2 lp hl0 hp2 upd_same rfl hb (b2.sqL ap hs) la
def spLoose : Sp := fun vs H Q _ => ∃ (p : Addr) (st : List V), vs = [.ref p] ∧ H p = some (.lst st) ∧ PoolOk st ∧ NewRow p H 40 (fun _ => True) Q
theorem loose_tail (T : Tx K mg) (cdv : Value) (A : Around) (outer : List Env) (s : Shared) (H : Hp) (E : XK) (hr : Room 7 (A.deeper (envOfC "_law_loose" (defScope s_law_loose) s.heap.objs.size (a_law_loose K) cdv))) :
    ∃ t, PSs (cxOf CX0 PG w K mg base n_law_loose "_law_loose" (defScope s_law_loose) (a_law_loose K) cdv A outer s H E) ((defBody s_law_loose).drop 2) t ∧ ∀ (D : Ends) (p : Addr) (st : List V) (m : Int) (H' : Hp),
      H' p = some (.lst st) → PoolOk st → 0 ≤ m → m ≤ 40 → NewRow p H' 40 (fun _ => True) D.rt → t D [some (.ref p), some (.int m), none, none, none] H' := by
  have nd := sc_law_loose.nd
  have hr2 := hr.mono (show 2 ≤ 7 by decide)
  refine ⟨_, pss_cons (ps_set (i := 2) nd rfl (.inl rfl) (pc (ok_law_draw T) hr2 T.g_law_draw pass0 (pa_cons (pv 0) (pa_cons pe_int pa_nil))))
    (pss_cons (ps_if (pt_cmpR op_eq (pv 2) pe_int (nomark _)) (pss_one (ps_ret (pe_lc (own := [("place", 3)]) (g := gName 3) (tt := tYes) rfl nd (pi_range1 rfl T.m_range (pa_cons (pv 1) pa_nil)) (blkOk_by (N := n_law_loose) (sc := defScope s_law_loose) (by decide +kernel)) (fun _ _ _ _ _ => pg_name (i := 3) nd rfl (Or.inl rfl)) (fun _ _ _ _ _ => pts_nil)
        (fun _ _ _ _ _ => pc (ok_law_odd T) (hr.mono (by decide)) T.g_law_odd pass0 (pa_cons (pv 0) pa_nil))))) pss_nil)
    (pss_cons (ps_setLc (i := 4) (own := [("place", 3)]) (g := gName 3) (tt := tYes) rfl nd rfl rfl (sw_true rfl rfl rfl (by decide +kernel)) (pi_range1 rfl T.m_range (pa_cons (pv 1) pa_nil)) (blkOk_by (N := n_law_loose) (sc := defScope s_law_loose) (by decide +kernel)) (fun _ _ _ _ _ => pg_name (i := 3) nd rfl (Or.inl rfl)) (fun _ _ _ _ _ => pts_nil)
        (fun _ _ _ _ _ => pc (ok_law_entry T) (hr.mono (by decide)) T.g_law_entry pass0 (pa_cons (pv 0) pa_nil)))
    (pss_cons (ps_if (PW.pt (pw_and (pt_cmpR op_eq (pv 2) pe_int (nomark _)) (pw_and1 (pt_cmpR op_gt (pv 1) pe_int (nomark _)))))
        (pss_cons (ps_set (i := 3) nd rfl (.inl rfl) (pc (ok_law_draw T) hr2 T.g_law_draw pass0 (pa_cons (pv 0) (pa_cons (pv 1) pa_nil))))
        (pss_one (ps_asg (pc (ok_law_odd T) (hr.mono (by decide)) T.g_law_odd pass0 (pa_cons (pv 0) pa_nil)) (pg_sub (pv 4) (pv 3) set_list)))) pss_nil)
    (pss_one (ps_ret (pv 4)))))), ?_⟩
  intro D p st m H0 hp ok m0 m1 q
  refine ⟨_, rfl, p, st, 3, rfl, by decide, by decide, hp, ok, fun sy st1 _ _ ok1 => ?_⟩
  have b1 : But p H0 (upd H0 p (.lst st1)) := .set
  refine ⟨_, rfl, rfl, _, rfl, ite2 (fun c => ?_) (fun c => ?_)⟩
  · refine ⟨_, rfl, m, rfl, by omega, by omega, fun d hd => ?_⟩
    refine lc_draws (C := fun _ => True) upd_same ok1 hd (by omega) (fun i H2 st2 hp2 ok2 b2 => ⟨rfl, fun Q q => ⟨_, rfl, p, st2, rfl, hp2, ok2, fun v H3 st3 b3 hp3 ok3 => q v _ st3 trivial b3 hp3 ok3⟩⟩) fun H' ms st' b2 h2 h3 h4 h5 h6 => ?_
    exact q H' d ms st' (b1.trans b2) h2 h3 (b1.none upd_same hd) h4 (by omega) h6
  · refine ⟨_, rfl, m, rfl, by omega, by omega, fun d hd => ?_⟩
    refine lc_draws (C := fun _ => True) upd_same ok1 hd (by omega) (fun i H2 st2 hp2 ok2 b2 => ⟨rfl, fun Q q => ⟨_, rfl, p, st2, rfl, hp2, ok2, fun v st3 hv ok3 => q v _ st3 trivial But.set upd_same ok3⟩⟩) fun H' ms st' b2 h2 h3 h4 h5 h6 => ?_
    have d0 : H0 d = none := b1.none upd_same hd
    have dp : d ≠ p := fun z => by rw [z, upd_same] at hd; cases hd
    have b12 := b1.trans b2
    refine ⟨_, rfl, rfl, _, rfl, ite2 (fun c => ?_) (fun c => ?_)⟩
    · refine ⟨_, rfl, _, _, rfl, rfl, _, rfl, ite2 (fun c => ?_) (fun c => ?_)⟩
      · have mp : 0 < m := of_decide_eq_true c
        refine ⟨_, rfl, _, rfl, p, st', m, rfl, mp, ?_, h2, h3, fun k st3 k0 k1 ok3 => ?_⟩
        · have : m.natAbs < 2 ^ 10 := by omega
          exact Nat.lt_trans this (by decide)
        refine ⟨_, rfl, p, st3, rfl, upd_same, ok3, fun v H4 st4 b4 hp4 ok4 => ?_⟩
        obtain ⟨j, rfl⟩ : ∃ j : Nat, k = (j : Nat) := ⟨k.toNat, by omega⟩
        have hd4 : H4 d = some (.lst (ms.map V.int)) := b4 _ _ dp (by rw [upd_ne dp]; exact h4)
        refine ⟨_, rfl, _, rfl, d, _, _, j, rfl, rfl, hd4, ixN_nat (by rw [List.length_map]; omega), _, rfl, ?_⟩
        rw [← List.map_set]
        exact q _ d (ms.set j v) st4 (fun b o nb e => by
          have nd : b ≠ d := fun z => by rw [z, d0] at e; cases e
          rw [upd_ne nd]
          exact b4 b o nb (by rw [upd_ne nb]; exact b12 b o nb e)) (by rw [upd_ne (Ne.symm dp)]; exact hp4) ok4 d0 upd_same (by rw [List.length_set]; omega) (fun _ _ => trivial)
      · exact ⟨_, rfl, q H' d ms st' b12 h2 h3 d0 h4 (by omega) h6⟩
    · exact ⟨_, rfl, q H' d ms st' b12 h2 h3 d0 h4 (by omega) h6⟩
theorem ok_law_loose (T : Tx K mg) : Ok PG w K mg base CX0 8 (a_law_loose K) p_law_loose spLoose := by
  refine Ok.of 7 T.f_law_loose sc_law_loose bi_law_loose (by decide) (fun vs H Q E h => ?_) (fun cdv A outer s H vs Q E hr h => ?_)
  · obtain ⟨_, _, rfl, _⟩ := h
    rfl
  · obtain ⟨p, st, rfl, hp, ok, q⟩ := h
    have nd := sc_law_loose.nd
    have hr2 := hr.mono (show 2 ≤ 7 by decide)
    obtain ⟨tl, dl, rl⟩ := loose_tail (w := w) (base := base) T cdv A outer s H E hr
    refine ⟨_, pss_cons (ps_set (i := 1) nd rfl (.inl rfl) (pc (ok_law_draw T) hr2 T.g_law_draw pass0 (pa_cons (pv 0) (pa_cons pe_int pa_nil))))
      (pss_cons (ps_if (pt_cmpR op_eq (pc (ok_law_draw T) hr2 T.g_law_draw pass0 (pa_cons (pv 0) (pa_cons pe_int pa_nil))) pe_int (nomark _)) (pss_one (ps_set (i := 1) nd rfl (.inl rfl) (pe_op op_add pe_int (pc (ok_law_draw T) hr2 T.g_law_draw pass0 (pa_cons (pv 0) (pa_cons pe_int pa_nil)))))) pss_nil) dl), ?_⟩
    refine ⟨_, rfl, p, st, 6, rfl, by decide, by decide, hp, ok, fun v st1 v0 v1 ok1 => ?_⟩
    refine ⟨_, rfl, p, st1, 3, rfl, by decide, by decide, upd_same, ok1, fun v2 st2 _ _ ok2 => ⟨rfl, _, rfl, ?_⟩⟩
    have push : ∀ (H1 : Hp) (o : List V), But p H H1 → H1 p = some (.lst o) → NewRow p H1 40 (fun _ => True) Q := fun H1 o b h1 H' l ns st' b2 h2 h3 h4 h5 h6 h7 => q H' l ns st' (b.trans b2) h2 h3 (b.none h1 h4) h5 h6 h7
    refine ite2 (fun c => ?_) (fun c => ?_)
    · refine ⟨_, rfl, p, st2, 8, rfl, by decide, by decide, upd_same, ok2, fun v3 st3 v30 v31 ok3 => ⟨_, _, rfl, rfl, ?_⟩⟩
      exact rl _ p st3 _ _ upd_same ok3 (by omega) (by omega) (push _ _ ((But.set.trans But.set).trans But.set) upd_same)
    · exact rl _ p st2 v _ upd_same ok2 v0 (by omega) (push _ _ (But.set.trans But.set) upd_same)
end
end K02

set_option maxRecDepth 100000
set_option maxHeartbeats 4000000
namespace K02
open PySem PySem.Spec PyProof.Rows L2
section
variable {w : World} {K : PySem.W.Frag} {mg : Str → Option Value} {base : Heap}
theorem pick {xs : List Int} {v : Int} (h0 : 0 ≤ v) (h1 : v < xs.length) : ∃ n ∈ xs, atI (xs.map V.int) v = some (.int n) := by
  obtain ⟨j, rfl⟩ : ∃ j : Nat, v = (j : Nat) := ⟨v.toNat, by omega⟩
  have hj : j < xs.length := by omega
  exact ⟨xs[j], List.getElem_mem hj, atI_nat (get_map hj)⟩
/-- what a law's own numbers look like -/
def Keeps (p l : Addr) (H H2 : Hp) : Prop := ∀ b o, b ≠ p → b ≠ l → H b = some o → H2 b = some o
def NumsEnd (p l : Addr) (H : Hp) (Q : VK) : Prop := ∀ (H2 : Hp) (st2 : List V) (n0 n1 n2 n3 : Int), Keeps p l H H2 → H2 p = some (.lst st2) → PoolOk st2 → H2 l = some (.lst [.int n0, .int n1, .int n2, .int n3]) → n3.natAbs < 2 ^ 200 → Q (.ref l) H2
theorem numbers_tail2 (T : Tx K mg) (cdv : Value) (A : Around) (outer : List Env) (s : Shared) (H : Hp) (E : XK) (hr : Room 5 (A.deeper (envOfC "_law_numbers" (defScope s_law_numbers) s.heap.objs.size (a_law_numbers K) cdv))) :
    ∃ t, PSs (cxOf CX0 PG w K mg base n_law_numbers "_law_numbers" (defScope s_law_numbers) (a_law_numbers K) cdv A outer s H E) ((defBody s_law_numbers).drop 6) t ∧ ∀ (D : Ends) (p l : Addr) (st : List V) (n0 n1 n2 n3 : Int) (x1 x3 x4 : Option V) (H' : Hp),
      H' p = some (.lst st) → PoolOk st → l ≠ p → H' l = some (.lst [.int n0, .int n1, .int n2, .int n3]) → NumsEnd p l H' D.rt → t D [some (.ref p), x1, some (.ref l), x3, x4] H' := by
  have nd := sc_law_numbers.nd
  have hr2 := hr.mono (show 2 ≤ 5 by decide)
  refine ⟨_, pss_cons (ps_set (i := 4) nd rfl (.inl rfl) (pc (ok_law_draw T) hr2 T.g_law_draw pass0 (pa_cons (pv 0) (pa_cons pe_int pa_nil))))
    (pss_cons (ps_asg (pe_ix ix_list (pe_lst (pa_cons pe_int (pa_cons pe_int (pa_cons pe_int (pa_cons pe_int (pa_cons (pe_un un_neg pe_int) (pa_cons (pe_op op_pow pe_int pe_int) (pa_cons pe_int (pa_cons pe_int pa_nil))))))))) (pv 4) (fun _ _ => rfl)) (pg_sub (pv 2) pe_int set_list))
    (pss_cons (ps_if (pt_cmpR op_eq (pv 4) pe_int (nomark _)) (pss_one (ps_asg (pe_op op_sub (pe_op op_pow pe_int pe_int) (pc (ok_law_draw T) hr2 T.g_law_draw pass0 (pa_cons (pv 0) (pa_cons (pe_op op_add (pe_op op_mul pe_int (pe_op op_pow pe_int pe_int)) pe_int) pa_nil)))) (pg_sub (pv 2) pe_int set_list))) pss_nil)
    (pss_one (ps_ret (pv 2))))), ?_⟩
  intro D p l st n0 n1 n2 n3 x1 x3 x4 H0 hp ok lp hl q
  refine ⟨_, rfl, p, st, 8, rfl, by decide, by decide, hp, ok, fun v st1 v0 v1 ok1 => ?_⟩
  have hl1 : upd H0 p (.lst st1) l = some (.lst [.int n0, .int n1, .int n2, .int n3]) := by rw [upd_ne lp]; exact hl
  refine ⟨1, rfl, _, _, rfl, rfl, ⟨by decide, by decide, by decide⟩, by show 8 ≤ sizeLine; decide, fun m hm => ?_⟩
  have ml : l ≠ m := fun z => by rw [← z, hl1] at hm; cases hm
  have mp : p ≠ m := fun z => by rw [← z, upd_same] at hm; cases hm
  obtain ⟨n, hn, e⟩ := pick (xs := [0, 1, 2, 7, -1, (10 : Int) ^ (30 : Int).toNat, 3, 7]) v0 v1
  have wn : n.natAbs < 2 ^ 200 := by
    simp only [List.mem_cons, List.not_mem_nil, or_false] at hn
    rcases hn with rfl | rfl | rfl | rfl | rfl | rfl | rfl | rfl <;> decide
  refine ⟨_, rfl, m, _, v, .int n, rfl, rfl, SqL.of upd_same, e, _, rfl, l, _, 3, 3, rfl, rfl, by rw [upd_ne ml]; exact hl1, rfl, ?_⟩
  have kG : ∀ its ns' : List V, Keeps p l H0 (upd (upd (upd H0 p (.lst st1)) m (.lst its)) l (.lst ns')) := fun its ns' b o h1 h2 e => by
    have bm : b ≠ m := fun z => by
      rw [upd_ne (Ne.symm mp)] at hm
      rw [z, hm] at e
      cases e
    rw [upd_ne h2, upd_ne bm, upd_ne h1]
    exact e
  have pG : ∀ its ns' : List V, upd (upd (upd H0 p (.lst st1)) m (.lst its)) l (.lst ns') p = some (.lst st1) := fun its ns' => by rw [upd_ne (Ne.symm lp), upd_ne mp, upd_same]
  have lG : ∀ its ns' : List V, upd (upd (upd H0 p (.lst st1)) m (.lst its)) l (.lst ns') l = some (.lst ns') := fun its ns' => upd_same
  refine ⟨_, rfl, rfl, _, rfl, ite2 (fun c => ?_) (fun c => ?_)⟩
  · refine ⟨_, _, rfl, rfl, ⟨by decide, by decide, by decide⟩, _, rfl, _, _, rfl, rfl, ⟨by decide, by decide, by decide⟩, _, _, rfl, rfl, .inl ⟨by decide, by decide⟩, _, _, rfl, rfl, p, st1, _, rfl, by decide, by decide, pG _ _, ok1, fun x st2 x0 x1 ok2 => ⟨_, _, rfl, rfl, _, rfl, l, _, 3, 3, rfl, rfl, by rw [upd_ne lp]; exact lG _ _, rfl, _, rfl, ?_⟩⟩
    refine q _ st2 n0 n1 n2 _ (fun b o h1 h2 e => by rw [upd_ne h2, upd_ne h1]; exact kG _ _ b o h1 h2 e) (by rw [upd_ne (Ne.symm lp), upd_same]) ok2 upd_same ?_
    have x1' : x < 2000000000000000000000000000001 := x1
    show (1000000000000000000000000000000 - x).natAbs < 2 ^ 200
    have : (1000000000000000000000000000000 - x).natAbs < 2 ^ 120 := by omega
    exact Nat.lt_trans this (by decide)
  · exact ⟨_, rfl, q _ st1 n0 n1 n2 n (kG _ _) (pG _ _) ok1 (lG _ _) wn⟩
theorem numbers_tail (T : Tx K mg) (cdv : Value) (A : Around) (outer : List Env) (s : Shared) (H : Hp) (E : XK) (hr : Room 5 (A.deeper (envOfC "_law_numbers" (defScope s_law_numbers) s.heap.objs.size (a_law_numbers K) cdv))) :
    ∃ t, PSs (cxOf CX0 PG w K mg base n_law_numbers "_law_numbers" (defScope s_law_numbers) (a_law_numbers K) cdv A outer s H E) ((defBody s_law_numbers).drop 3) t ∧ ∀ (D : Ends) (p l : Addr) (st : List V) (n0 n1 n2 n3 en : Int) (x1 x4 : Option V) (H' : Hp),
      H' p = some (.lst st) → PoolOk st → l ≠ p → H' l = some (.lst [.int n0, .int n1, .int n2, .int n3]) → NumsEnd p l H' D.rt → t D [some (.ref p), x1, some (.ref l), some (.int en), x4] H' := by
  have nd := sc_law_numbers.nd
  have hr2 := hr.mono (show 2 ≤ 5 by decide)
  obtain ⟨tl, dl, rl⟩ := numbers_tail2 (w := w) (base := base) T cdv A outer s H E hr
  refine ⟨_, pss_cons (ps_set (i := 4) nd rfl (.inl rfl) (pc (ok_law_draw T) hr2 T.g_law_draw pass0 (pa_cons (pv 0) (pa_cons pe_int pa_nil))))
    (pss_cons (ps_asg (pe_ix ix_list (pe_lst (pa_cons pe_int (pa_cons pe_int (pa_cons pe_int (pa_cons pe_int (pa_cons (pe_op op_sub (pe_un un_neg pe_int) (pc (ok_law_draw T) hr2 T.g_law_draw pass0 (pa_cons (pv 0) (pa_cons pe_int pa_nil)))) (pa_cons (pv 3) (pa_cons (pe_op op_add (pv 3) pe_int) (pa_cons pe_int pa_nil))))))))) (pv 4) (fun _ _ => rfl)) (pg_sub (pv 2) pe_int set_list))
    (pss_cons (ps_if (pt_cmpR op_eq (pv 4) pe_int (nomark _)) (pss_one (ps_asg (pe_op op_sub (pe_op op_pow pe_int pe_int) (pc (ok_law_draw T) hr2 T.g_law_draw pass0 (pa_cons (pv 0) (pa_cons (pe_op op_add (pe_op op_mul pe_int (pe_op op_pow pe_int pe_int)) pe_int) pa_nil)))) (pg_sub (pv 2) pe_int set_list))) pss_nil) dl)), ?_⟩
  intro D p l st n0 n1 n2 n3 en x1 x4 H0 hp ok lp hl q
  refine ⟨_, rfl, p, st, 8, rfl, by decide, by decide, hp, ok, fun v st1 v0 v1 ok1 => ?_⟩
  refine ⟨1, rfl, _, rfl, p, st1, 3, rfl, by decide, by decide, upd_same, ok1, fun v2 st2 _ _ ok2 => ?_⟩
  rw [upd_upd]
  have hl1 : upd H0 p (.lst st2) l = some (.lst [.int n0, .int n1, .int n2, .int n3]) := by rw [upd_ne lp]; exact hl
  refine ⟨_, _, rfl, rfl, _, rfl, _, rfl, _, _, rfl, rfl, by show 8 ≤ sizeLine; decide, fun m hm => ?_⟩
  have ml : l ≠ m := fun z => by rw [← z, hl1] at hm; cases hm
  have mp : p ≠ m := fun z => by rw [← z, upd_same] at hm; cases hm
  obtain ⟨n, hn, e⟩ := pick (xs := [0, 1, 2, 3, -1 - v2, en, en + 1, 7]) v0 v1
  refine ⟨_, rfl, m, _, v, .int n, rfl, rfl, SqL.of upd_same, e, _, rfl, l, _, 2, 2, rfl, rfl, by rw [upd_ne ml]; exact hl1, rfl, ?_⟩
  have kG : ∀ its ns' : List V, Keeps p l H0 (upd (upd (upd H0 p (.lst st2)) m (.lst its)) l (.lst ns')) := fun its ns' b o h1 h2 e => by
    have bm : b ≠ m := fun z => by
      rw [upd_ne (Ne.symm mp)] at hm
      rw [z, hm] at e
      cases e
    rw [upd_ne h2, upd_ne bm, upd_ne h1]
    exact e
  have pG : ∀ its ns' : List V, upd (upd (upd H0 p (.lst st2)) m (.lst its)) l (.lst ns') p = some (.lst st2) := fun its ns' => by rw [upd_ne (Ne.symm lp), upd_ne mp, upd_same]
  have lG : ∀ its ns' : List V, upd (upd (upd H0 p (.lst st2)) m (.lst its)) l (.lst ns') l = some (.lst ns') := fun its ns' => upd_same
  have push : ∀ H1, Keeps p l H0 H1 → NumsEnd p l H1 D.rt := fun H1 k1 H2 st2 a b c d k2 => q H2 st2 a b c d (fun z o h1 h2 e => k2 z o h1 h2 (k1 z o h1 h2 e))
  refine ⟨_, rfl, rfl, _, rfl, ite2 (fun c => ?_) (fun c => ?_)⟩
  · refine ⟨_, _, rfl, rfl, ⟨by decide, by decide, by decide⟩, _, rfl, _, _, rfl, rfl, ⟨by decide, by decide, by decide⟩, _, _, rfl, rfl, .inl ⟨by decide, by decide⟩, _, _, rfl, rfl, p, st2, _, rfl, by decide, by decide, pG _ _, ok2, fun x st3 x0 x1 ok3 => ⟨_, _, rfl, rfl, _, rfl, l, _, 2, 2, rfl, rfl, by rw [upd_ne lp]; exact lG _ _, rfl, ?_⟩⟩
    exact rl D p l st3 n0 n1 _ n3 _ _ _ _ (by rw [upd_ne (Ne.symm lp), upd_same]) ok3 lp upd_same (push _ (fun b o h1 h2 e => by rw [upd_ne h2, upd_ne h1]; exact kG _ _ b o h1 h2 e))
  · exact rl D p l st2 n0 n1 n n3 _ _ _ _ (pG _ _) ok2 lp (lG _ _) (push _ (kG _ _))
def spNumbers (K : PySem.W.Frag) : Sp := fun vs H Q _ => ∃ (p a : Addr) (st : List V) (ns : List Int), vs = [.ref p, .ref a] ∧ H p = some (.lst st) ∧ PoolOk st ∧ a ≠ p ∧ SqL K H a (ns.map V.int) ∧ ns.length ≤ 30 ∧
  ∀ (H2 : Hp) (l : Addr) (st2 : List V) (n0 n1 n2 n3 : Int), But p H H2 → H2 p = some (.lst st2) → PoolOk st2 → H l = none → H2 l = some (.lst [.int n0, .int n1, .int n2, .int n3]) → n3.natAbs < 2 ^ 200 → Q (.ref l) H2
theorem ok_law_numbers (T : Tx K mg) : Ok PG w K mg base CX0 6 (a_law_numbers K) p_law_numbers (spNumbers K) := by
  refine Ok.of 5 T.f_law_numbers sc_law_numbers bi_law_numbers (by decide) (fun vs H Q E h => ?_) (fun cdv A outer s H vs Q E hr h => ?_)
  · obtain ⟨_, _, _, _, rfl, _⟩ := h
    rfl
  · obtain ⟨p, a, st, ns, rfl, hp, ok, ap, hs, ln, q⟩ := h
    have nd := sc_law_numbers.nd
    obtain ⟨tl, dl, rl⟩ := numbers_tail (w := w) (base := base) T cdv A outer s H E hr
    refine ⟨_, pss_cons (ps_set (i := 2) nd rfl (.inl rfl) (pe_lst (pa_cons (pc (ok_law_person T) (hr.mono (by decide)) T.g_law_person pass0 (pa_cons (pv 0) (pa_cons (pe_callB call_len_seq (by rfl) T.m_len PySem.boot_len (pa_cons (pv 1) pa_nil)) pa_nil)))
        (pa_cons (pc (ok_law_person T) (hr.mono (by decide)) T.g_law_person pass0 (pa_cons (pv 0) (pa_cons (pe_callB call_len_seq (by rfl) T.m_len PySem.boot_len (pa_cons (pv 1) pa_nil)) pa_nil))) (pa_cons pe_int (pa_cons pe_int pa_nil))))))
      (pss_cons (ps_set (i := 3) nd rfl (.inl rfl) pe_int)
      (pss_cons (ps_if (pt_chain op_le op_lt pe_int (pe_ix ix_list (pv 2) pe_int (fun _ _ => rfl)) (pe_callB call_len_seq (by rfl) T.m_len PySem.boot_len (pa_cons (pv 1) pa_nil))) (pss_one (ps_set (i := 3) nd rfl (.inl rfl) (pe_ix ix_list (pv 1) (pe_ix ix_list (pv 2) pe_int (fun _ _ => rfl)) (fun _ _ => rfl)))) pss_nil) dl)), ?_⟩
    refine ⟨_, rfl, _, rfl, a, _, rfl, .inl hs, p, st, _, rfl, by rw [List.length_map]; omega, by rw [List.length_map]; omega, hp, ok, fun n0 H1 st1 b1 hp1 ok1 => ?_⟩
    have hs1 := b1.sqL ap hs
    refine ⟨_, rfl, _, rfl, a, _, rfl, .inl hs1, p, st1, _, rfl, by rw [List.length_map]; omega, by rw [List.length_map]; omega, hp1, ok1, fun n1 H2 st2 b2 hp2 ok2 => ?_⟩
    have hs2 := b2.sqL ap hs1
    refine ⟨by show 4 ≤ sizeLine; decide, fun l hl => ?_⟩
    have lp : l ≠ p := fun z => by rw [z, hp2] at hl; cases hl
    have b12 := b1.trans b2
    have hl0 := b12.none hp2 hl
    generalize hG : upd H2 l (.lst [V.int n0, .int n1, .int 1, .int 1]) = G
    have lG : G l = some (.lst [V.int n0, .int n1, .int 1, .int 1]) := by rw [← hG, upd_same]
    have pG : G p = some (.lst st2) := by rw [← hG, upd_ne (Ne.symm lp)]; exact hp2
    have bG : But p H G := by rw [← hG]; exact b12.trans (.of (.new hl))
    have sG : SqL K G a (ns.map V.int) := by rw [← hG]; exact (Same.new hl).seq hs2
    have fin : NumsEnd p l G Q := fun H3 st3 m0 m1 m2 m3 k h1 h2 h3 h4 => q H3 l st3 m0 m1 m2 m3 (fun b o nb e => k b o nb (fun z => by rw [z, hl0] at e; cases e) (bG b o nb e)) h1 h2 hl0 h3 h4
    refine ⟨_, rfl, l, _, _, .int n0, rfl, rfl, SqL.of lG, rfl, _, _, rfl, rfl, _, rfl, ?_⟩
    refine ite2 (fun c => ?_) (fun c => ?_)
    · refine ⟨_, rfl, a, _, rfl, .inl sG, _, _, rfl, rfl, _, rfl, ?_⟩
      refine ite2 (fun c1 => ?_) (fun c1 => ?_)
      · have h0 := of_decide_eq_true c
        have h1 := of_decide_eq_true c1
        rw [List.length_map] at h1
        obtain ⟨n, _, e⟩ := pick (xs := ns) h0 h1
        exact ⟨_, rfl, _, rfl, l, _, _, .int n0, rfl, rfl, SqL.of lG, rfl, a, _, n0, .int n, rfl, rfl, sG, e, rl { nx := fun _ H' => Q .non H', rt := Q } p l st2 n0 n1 1 1 n _ _ G pG ok2 lp lG fin⟩
      · exact rl { nx := fun _ H' => Q .non H', rt := Q } p l st2 n0 n1 1 1 3 _ _ G pG ok2 lp lG fin
    · exact ⟨_, rfl, iteF (rl { nx := fun _ H' => Q .non H', rt := Q } p l st2 n0 n1 1 1 3 _ _ G pG ok2 lp lG fin)⟩
end
end K02

set_option maxRecDepth 100000
set_option maxHeartbeats 4000000
namespace K02
open PySem PySem.Spec PyProof.Rows L2
/-- what is due: the answer or the error -/
inductive Due
  | tell (ns : List Int) | num (n : Int) | ans (b : Bool) | long (n : Int) | bad (i n : Int) | twice (i : Int) | noP (i : Int) | wrongL (f w : Int)
def Due.small : Due → Prop
  | .tell ns => ns.length ≤ 1000
  | _ => True
def IsDue (K : PySem.W.Frag) (H : Hp) (t : Addr) : Due → Prop
  | .tell ns => ∃ u, SqT K H t [.str "telling", .ref u] ∧ SqT K H u (ns.map V.int)
  | .num n => SqT K H t [.str "number", .int n]
  | .ans b => SqT K H t [.str "answer", .bl b]
  | .long n => SqT K H t [.str "TooLong", .int n, .bl true, .bl false]
  | .bad i n => SqT K H t [.str "BadNumber", .int i, .int n, .bl true, .bl false]
  | .twice i => SqT K H t [.str "NamedTwice", .int i, .bl true, .bl false]
  | .noP i => SqT K H t [.str "NoPerson", .int i, .bl true, .bl false]
  | .wrongL f w => SqT K H t [.str "WrongLength", .int f, .int w, .bl true, .bl false]
theorem IsDue.same {K : PySem.W.Frag} {H H' : Hp} {t : Addr} {D : Due} (h : IsDue K H t D) (s : Same H H') : IsDue K H' t D := by
  cases D with
  | tell ns => obtain ⟨u, a, b⟩ := h; exact ⟨u, s.seqT a, s.seqT b⟩
  | _ => exact s.seqT h
theorem eqd_atoms {K : PySem.W.Frag} {n : Nat} {H : Hp} {a b : Addr} {xs : List V} (h1 : SqT K H a xs) (h2 : SqT K H b xs) (l : xs.length ≤ 1000) (h : ∀ x ∈ xs, Atom x) : Eqd K (n + 1) H (.ref a) (.ref b) :=
  .inr ⟨a, b, _, _, rfl, rfl, .inl ⟨h1, h2⟩, rfl, sL l, fun i u v e1 e2 => by
    rw [e1] at e2
    cases e2
    exact .atom (h u (List.mem_of_getElem? e1))⟩
theorem IsDue.eqd {K : PySem.W.Frag} {H : Hp} {t u : Addr} {D : Due} (h : IsDue K H t D) (g : IsDue K H u D) (sm : D.small) : Eqd K 2 H (.ref t) (.ref u) := by
  cases D with
  | tell ns =>
    obtain ⟨a, h1, h2⟩ := h
    obtain ⟨b, g1, g2⟩ := g
    refine .inr ⟨t, u, _, _, rfl, rfl, .inl ⟨h1, g1⟩, rfl, sL (by show 2 ≤ 1000; decide), fun i x y e1 e2 => ?_⟩
    match i with
    | 0 => cases e1; cases e2; exact .atom (.str _)
    | 1 => cases e1; cases e2; exact Eqd.row (.inl ⟨h2, g2⟩) sm
    | i + 2 => cases e1
  | _ =>
    refine eqd_atoms h g (by simp) ?_
    intro x hx
    simp only [List.mem_cons, List.not_mem_nil, or_false] at hx
    rcases hx with rfl | rfl | rfl | rfl | rfl <;> constructor
def dueMade (ns : List Int) : Due := if 30 < ns.length then .long ns.length else match bad cap 0 ns with
  | some (i, n) => .bad (i : Nat) n
  | none => .tell ns
def dueMoved (ns : List Int) (g t c : Int) : Due :=
  if ¬ (0 ≤ g ∧ g < ns.length) then .noP g else if ¬ (0 ≤ t ∧ t < ns.length) then .noP t else if g = t then .twice t else if c < 0 then .bad 0 c
  else if ns.getD g.toNat 0 - c < 0 then .bad g (ns.getD g.toNat 0 - c) else dueMade (shift ns g.toNat t.toNat c)
open Classical in
noncomputable def dueOf (way : Nat) (xs ys : List Int) (n0 n1 n2 n3 : Int) : Due :=
  if way = 1 ∨ way = 2 then (if n3 < 0 then .bad 0 n3 else dueMade (xs.map (· * n3)))
  else if way = 3 ∨ way = 7 then dueMoved xs n0 n1 n2 else if way = 4 then dueMoved xs n0 n1 1
  else if xs.length ≠ ys.length then .wrongL ys.length xs.length
  else if way = 0 then dueMade (List.zipWith (· + ·) xs ys) else if way = 5 then .num (List.zipWith far xs ys).sum else .ans (decide (NoSt xs ys))
theorem dueMade_small (ns : List Int) : (dueMade ns).small := by
  unfold dueMade
  split
  · trivial
  · split
    · trivial
    · show ns.length ≤ 1000; omega
theorem dueMoved_small (ns : List Int) (g t c : Int) : (dueMoved ns g t c).small := by
  unfold dueMoved
  split <;> try trivial
  split <;> try trivial
  split <;> try trivial
  split <;> try trivial
  split <;> try trivial
  exact dueMade_small _
theorem dueOf_small (way : Nat) (xs ys : List Int) (n0 n1 n2 n3 : Int) : (dueOf way xs ys n0 n1 n2 n3).small := by
  unfold dueOf
  split
  · split
    · trivial
    · exact dueMade_small _
  split
  · exact dueMoved_small ..
  split
  · exact dueMoved_small ..
  split
  · trivial
  split
  · exact dueMade_small _
  split <;> trivial
section
variable {w : World} {K : PySem.W.Frag} {mg : Str → Option Value} {base : Heap}
def spDueMade (K : PySem.W.Frag) : Sp := fun vs H Q _ => ∃ (a : Addr) (ns : List Int), vs = [.ref a] ∧ SqL K H a (ns.map V.int) ∧ ns.length ≤ 1000 ∧ ∀ H' t, Same H H' → IsDue K H' t (dueMade ns) → Q (.ref t) H'
theorem ok_law_due_made (T : Tx K mg) : Ok PG w K mg base CX0 2 (a_law_due_made K) p_law_due_made (spDueMade K) := by
  refine Ok.of 1 T.f_law_due_made sc_law_due_made bi_law_due_made (by decide) (fun vs H Q E h => ?_) (fun cdv A outer s H vs Q E hr h => ?_)
  · obtain ⟨_, _, rfl, _⟩ := h
    rfl
  · obtain ⟨a, ns, rfl, hs, ln, q⟩ := h
    have nd := sc_law_due_made.nd
    refine ⟨_, pss_cons (ps_if (pt_cmpR op_gt (pe_callB call_len_seq (by rfl) T.m_len PySem.boot_len (pa_cons (pv 0) pa_nil)) pe_int (nomark _)) (pss_one (ps_ret (pe_tup (pa_cons pe_str (pa_cons (pe_callB call_len_seq (by rfl) T.m_len PySem.boot_len (pa_cons (pv 0) pa_nil)) (pa_cons pe_bl (pa_cons pe_bl pa_nil))))))) pss_nil)
      (pss_cons (ps_for (passX rfl) rfl (pi_range1 rfl T.m_range (pa_cons (pe_callB call_len_seq (by rfl) T.m_len PySem.boot_len (pa_cons (pv 0) pa_nil)) pa_nil)) (pg_name (i := 1) nd rfl (.inl rfl))
        (pss_one (ps_if (pt_not (pt_chain op_le op_le pe_int (pe_ix ix_list (pv 0) (pv 1) (fun _ _ => rfl)) (pe_op op_pow pe_int pe_int))) (pss_one (ps_ret (pe_tup (pa_cons pe_str (pa_cons (pv 1) (pa_cons (pe_ix ix_list (pv 0) (pv 1) (fun _ _ => rfl)) (pa_cons pe_bl (pa_cons pe_bl pa_nil)))))))) pss_nil)))
      (pss_one (ps_ret (pe_tup (pa_cons pe_str (pa_cons (pe_callTy call_tuple_of (by rfl) T.m_tuple (by decide +kernel) (pa_cons (pv 0) pa_nil)) pa_nil)))))), ?_⟩
    refine ⟨_, rfl, a, _, rfl, .inl hs, _, _, rfl, rfl, _, rfl, ite2 (fun c => ?_) (fun c => ?_)⟩
    · have c' : 30 < ns.length := by have := of_decide_eq_true c; rw [List.length_map] at this; omega
      refine ⟨_, rfl, a, _, rfl, .inl hs, by show 4 ≤ sizeLine; decide, fun t ht => q _ t (.new ht) ?_⟩
      rw [dueMade, if_pos c', List.length_map]
      exact SqT.of upd_same
    have c' : ¬ 30 < ns.length := fun z => c (decide_eq_true (by rw [List.length_map]; omega))
    refine ⟨_, rfl, a, _, rfl, .inl hs, _, rfl, by omega, by rw [List.length_map]; omega, ?_⟩
    refine for_range (lo := 0) (n := (ns.map V.int).length) (fun i σ H' => ∃ x1, σ = [some (.ref a), x1] ∧ H' = H ∧ bad cap (0 + i) (ns.drop i) = bad cap 0 ns) ⟨none, rfl, rfl, rfl⟩ ?_ ?_
    · rintro i σ H' hi ⟨x1, rfl, rfl, hb⟩
      rw [List.length_map] at hi
      have z : ((0 : Int) + (i : Nat)) = (i : Nat) := Int.zero_add _
      rw [z]
      obtain ⟨b1, b2⟩ := bad_step hb (List.getElem?_eq_getElem hi)
      have err : ¬ (0 ≤ ns[i] ∧ ns[i] ≤ cap) → ∀ t, H' t = none → Q (.ref t) (upd H' t (.tup [.str "BadNumber", .int (i : Nat), .int ns[i], .bl true, .bl false])) := fun c t ht => by
        refine q _ t (.new ht) ?_
        rw [dueMade, if_neg c', b2 c, Nat.zero_add]
        exact SqT.of upd_same
      refine ⟨_, rfl, _, rfl, a, _, _, .int ns[i], rfl, rfl, hs, atI_nat (get_map hi), _, _, rfl, rfl, _, rfl, ite2 (fun d => ?_) (fun d => ?_)⟩
      · refine ⟨_, _, rfl, rfl, ⟨by decide, by decide, by decide⟩, _, _, rfl, rfl, _, rfl, ite2 (fun d2 => ?_) (fun d2 => ?_)⟩
        · refine ⟨_, rfl, _, rfl, _, rfl, a, _, _, .int ns[i], rfl, rfl, hs, atI_nat (get_map hi), by show 5 ≤ sizeLine; decide, err fun z => ?_⟩
          have : ns[i] ≤ cap := z.2
          rw [decide_eq_true (show ns[i] ≤ (10 : Int) ^ (30 : Int).toNat from this)] at d2
          cases d2
        · refine ⟨_, rfl, rfl, b1 ⟨of_decide_eq_true d, ?_⟩⟩
          have : ns[i] ≤ (10 : Int) ^ (30 : Int).toNat := by simpa using d2
          exact this
      · refine ⟨_, rfl, iteT ?_⟩
        refine ⟨_, rfl, _, rfl, _, rfl, a, _, _, .int ns[i], rfl, rfl, hs, atI_nat (get_map hi), by show 5 ≤ sizeLine; decide, err fun z => d (decide_eq_true z.1)⟩
    · rintro σ H' ⟨x1, rfl, rfl, hb⟩
      rw [List.length_map] at hb
      refine ⟨_, rfl, a, _, rfl, .inl ⟨hs, fun u hu => ⟨by show 2 ≤ sizeLine; decide, fun t ht => q _ t ((Same.new hu).new' ht) ?_⟩⟩⟩
      rw [dueMade, if_neg c', bad_end (k := 0) hb]
      exact ⟨u, SqT.of upd_same, (Same.new ht).seqT (SqT.of upd_same)⟩
end
end K02

set_option maxRecDepth 100000
set_option maxHeartbeats 4000000
namespace K02
open PySem PySem.Spec PyProof.Rows L2
theorem dno {p : Prop} [Decidable p] (c : ¬ decide p = true) : ¬ p := fun z => c (decide_eq_true z)
section
variable {w : World} {K : PySem.W.Frag} {mg : Str → Option Value} {base : Heap}
def spDueMoved (K : PySem.W.Frag) : Sp := fun vs H Q _ => ∃ (a : Addr) (ns : List Int) (g t c : Int), vs = [.ref a, .int g, .int t, .int c] ∧ SqL K H a (ns.map V.int) ∧ ns.length ≤ 1000 ∧ ∀ H' z, Same H H' → IsDue K H' z (dueMoved ns g t c) → Q (.ref z) H'
theorem ok_law_due_moved (T : Tx K mg) : Ok PG w K mg base CX0 3 (a_law_due_moved K) p_law_due_moved (spDueMoved K) := by
  refine Ok.of 2 T.f_law_due_moved sc_law_due_moved bi_law_due_moved (by decide) (fun vs H Q E h => ?_) (fun cdv A outer s H vs Q E hr h => ?_)
  · obtain ⟨_, _, _, _, _, rfl, _⟩ := h
    rfl
  · obtain ⟨a, ns, g, t, c, rfl, hs, ln, q⟩ := h
    have nd := sc_law_due_moved.nd
    refine ⟨_, pss_cons (ps_for (passX rfl) rfl (pi_list (pe_lst (pa_cons (pv 1) (pa_cons (pv 2) pa_nil)))) (pg_name (i := 4) nd rfl (.inl rfl))
        (pss_one (ps_if (pt_not (pt_chain op_le op_lt pe_int (pv 4) (pe_callB call_len_seq (by rfl) T.m_len PySem.boot_len (pa_cons (pv 0) pa_nil)))) (pss_one (ps_ret (pe_tup (pa_cons pe_str (pa_cons (pv 4) (pa_cons pe_bl (pa_cons pe_bl pa_nil))))))) pss_nil)))
      (pss_cons (ps_if (pt_cmpR op_eq (pv 1) (pv 2) (nomark _)) (pss_one (ps_ret (pe_tup (pa_cons pe_str (pa_cons (pv 2) (pa_cons pe_bl (pa_cons pe_bl pa_nil))))))) pss_nil)
      (pss_cons (ps_if (pt_cmpR op_lt (pv 3) pe_int (nomark _)) (pss_one (ps_ret (pe_tup (pa_cons pe_str (pa_cons pe_int (pa_cons (pv 3) (pa_cons pe_bl (pa_cons pe_bl pa_nil)))))))) pss_nil)
      (pss_cons (ps_if (pt_cmpR op_lt (pe_ix ix_list (pv 0) (pv 1) (fun _ _ => rfl)) (pv 3) (nomark _)) (pss_one (ps_ret (pe_tup (pa_cons pe_str (pa_cons (pv 1) (pa_cons (pe_op op_sub (pe_ix ix_list (pv 0) (pv 1) (fun _ _ => rfl)) (pv 3)) (pa_cons pe_bl (pa_cons pe_bl pa_nil)))))))) pss_nil)
      (pss_cons (ps_set (i := 5) nd rfl (.inl rfl) (pe_callTy call_list_of (by rfl) T.m_list (by decide +kernel) (pa_cons (pv 0) pa_nil)))
      (pss_cons (ps_asg (pe_op op_sub (pe_ix ix_list (pv 5) (pv 1) (fun _ _ => rfl)) (pv 3)) (pg_sub (pv 5) (pv 1) set_list))
      (pss_cons (ps_asg (pe_op op_add (pe_ix ix_list (pv 5) (pv 2) (fun _ _ => rfl)) (pv 3)) (pg_sub (pv 5) (pv 2) set_list))
      (pss_one (ps_ret (pc (ok_law_due_made T) hr T.g_law_due_made pass0 (pa_cons (pv 5) pa_nil)))))))))), ?_⟩
    refine ⟨_, rfl, _, rfl, by show 2 ≤ sizeLine; decide, fun l hl => ⟨l, rfl, ⟨_, SqL.of upd_same⟩, ?_⟩⟩
    have s1 : Same H (upd H l (.lst [.int g, .int t])) := .new hl
    have hs1 := s1.seq hs
    have four : 4 ≤ sizeLine := by decide
    have five : 5 ≤ sizeLine := by decide
    refine for_list (K := K) (a := l) (xs := [.int g, .int t]) (fun i σ H' => ∃ x4 x5, σ = [some (.ref a), some (.int g), some (.int t), some (.int c), x4, x5] ∧ H' = upd H l (.lst [.int g, .int t]) ∧ (1 ≤ i → 0 ≤ g ∧ g < ns.length) ∧ (2 ≤ i → 0 ≤ t ∧ t < ns.length))
      ⟨none, none, rfl, rfl, fun z => absurd z (by decide), fun z => absurd z (by decide)⟩ (fun i σ H' _ z => by obtain ⟨_, _, _, rfl, _⟩ := z; exact SqL.of upd_same) ?_ ?_
    · rintro i x σ H' hx ⟨x4, x5, rfl, rfl, h1, h2⟩
      have hi : (i = 0 ∧ x = .int g) ∨ (i = 1 ∧ x = .int t) := by
        match i with
        | 0 => cases hx; exact .inl ⟨rfl, rfl⟩
        | 1 => cases hx; exact .inr ⟨rfl, rfl⟩
        | i + 2 => cases hx
      obtain ⟨y, rfl, hy, hn⟩ : ∃ y : Int, x = .int y ∧ (¬ (0 ≤ y ∧ y < ns.length) → dueMoved ns g t c = .noP y) ∧ ((0 ≤ y ∧ y < ns.length) → (1 ≤ i + 1 → 0 ≤ g ∧ g < ns.length) ∧ (2 ≤ i + 1 → 0 ≤ t ∧ t < ns.length)) := by
        rcases hi with ⟨rfl, rfl⟩ | ⟨rfl, rfl⟩
        · exact ⟨g, rfl, fun z => by rw [dueMoved, if_pos z], fun z => ⟨fun _ => z, fun z => absurd z (by decide)⟩⟩
        · have hg := h1 (Nat.le_refl _)
          exact ⟨t, rfl, fun z => by rw [dueMoved, if_neg (fun y => y hg), if_pos z], fun z => ⟨fun _ => hg, fun _ => z⟩⟩
      have err : ¬ (0 ≤ y ∧ y < ns.length) → ∀ z, upd H l (.lst [.int g, .int t]) z = none → Q (.ref z) (upd (upd H l (.lst [.int g, .int t])) z (.tup [.str "NoPerson", .int y, .bl true, .bl false])) := fun e z hz => by
        refine q _ z (s1.new' hz) ?_
        rw [hy e]
        exact SqT.of upd_same
      refine ⟨_, rfl, _, _, rfl, rfl, _, rfl, ite2 (fun d => ?_) (fun d => ?_)⟩
      · refine ⟨_, rfl, a, _, rfl, .inl hs1, _, _, rfl, rfl, _, rfl, ite2 (fun d2 => ?_) (fun d2 => ?_)⟩
        · refine ⟨_, rfl, four, err fun z => ?_⟩
          have := z.2
          rw [List.length_map] at d2
          rw [decide_eq_true this] at d2
          cases d2
        · rw [List.length_map] at d2
          exact ⟨_, _, rfl, rfl, hn ⟨of_decide_eq_true d, by simpa using d2⟩⟩
      · refine ⟨_, rfl, iteT ?_⟩
        exact ⟨_, rfl, four, err fun z => d (decide_eq_true z.1)⟩
    · rintro σ H' ⟨x4, x5, rfl, rfl, h1, h2⟩
      have cg := h1 (show 1 ≤ 2 by decide)
      have ct := h2 (show 2 ≤ 2 by decide)
      refine ⟨_, rfl, _, rfl, rfl, _, rfl, ite2 (fun d => ?_) (fun d => ?_)⟩
      · refine ⟨_, rfl, four, fun z hz => q _ z (s1.new' hz) ?_⟩
        have e : g = t := by simpa using d
        rw [dueMoved, if_neg (fun y => y cg), if_neg (fun y => y ct), if_pos e]
        exact SqT.of upd_same
      have ne : g ≠ t := fun z => d (by rw [z]; simp)
      refine ⟨_, rfl, _, _, rfl, rfl, _, rfl, ite2 (fun d => ?_) (fun d => ?_)⟩
      · refine ⟨_, rfl, five, fun z hz => q _ z (s1.new' hz) ?_⟩
        rw [dueMoved, if_neg (fun y => y cg), if_neg (fun y => y ct), if_neg ne, if_pos (of_decide_eq_true d)]
        exact SqT.of upd_same
      have c0 := dno d
      obtain ⟨gi, rfl⟩ : ∃ j : Nat, g = (j : Nat) := ⟨g.toNat, by omega⟩
      obtain ⟨ti, rfl⟩ : ∃ j : Nat, t = (j : Nat) := ⟨t.toNat, by omega⟩
      have lg : gi < ns.length := by omega
      have lt : ti < ns.length := by omega
      have nn : gi ≠ ti := fun z => ne (by rw [z])
      have g1 : ns.getD ((gi : Nat) : Int).toNat 0 = ns[gi] := by rw [Int.toNat_natCast, List.getD_eq_getElem?_getD, List.getElem?_eq_getElem lg]; rfl
      have base1 : dueMoved ns (gi : Nat) (ti : Nat) c = if ns.getD ((gi : Nat) : Int).toNat 0 - c < 0 then .bad (gi : Nat) (ns.getD ((gi : Nat) : Int).toNat 0 - c) else dueMade (shift ns gi ti c) := by
        rw [dueMoved, if_neg (fun y => y cg), if_neg (fun y => y ct), if_neg ne, if_neg c0]
        rfl
      rw [g1] at base1
      refine ⟨_, rfl, _, rfl, a, _, _, .int ns[gi], rfl, rfl, hs1, atI_nat (get_map lg), _, rfl, _, _, rfl, rfl, _, rfl, ite2 (fun d => ?_) (fun d => ?_)⟩
      · have d' : ns[gi] < c := of_decide_eq_true d
        refine ⟨_, rfl, _, rfl, _, rfl, a, _, _, .int ns[gi], rfl, rfl, hs1, atI_nat (get_map lg), _, rfl, _, _, rfl, rfl, five, fun z hz => q _ z (s1.new' hz) ?_⟩
        rw [base1, if_pos (by omega)]
        exact SqT.of upd_same
      have d' : ¬ ns[gi] < c := dno d
      rw [if_neg (by omega)] at base1
      refine ⟨_, rfl, a, _, rfl, .inl hs1, fun m hm => ?_⟩
      refine ⟨_, rfl, _, rfl, m, _, _, .int ns[gi], rfl, rfl, SqL.of upd_same, atI_nat (get_map lg), _, rfl, _, _, rfl, rfl, _, rfl, _, rfl, m, _, _, gi, rfl, rfl, upd_same, ixN_nat (by rw [List.length_map]; exact lg), ?_⟩
      rw [upd_upd, ← List.map_set]
      have lt2 : ti < (ns.set gi (ns[gi] - c)).length := by rw [List.length_set]; exact lt
      refine ⟨_, rfl, _, rfl, m, _, _, .int _, rfl, rfl, SqL.of upd_same, atI_nat (get_map lt2), _, rfl, _, _, rfl, rfl, _, rfl, _, rfl, m, _, _, ti, rfl, rfl, upd_same, ixN_nat (by rw [List.length_map]; exact lt2), ?_⟩
      rw [upd_upd, ← List.map_set]
      have sh : (ns.set gi (ns[gi] - c)).set ti ((ns.set gi (ns[gi] - c))[ti] + c) = shift ns gi ti c := by
        unfold shift
        rw [Int.toNat_natCast] at g1
        rw [g1, List.getD_eq_getElem?_getD (l := ns.set gi _), List.getElem?_eq_getElem lt2]
        rfl
      rw [sh]
      refine ⟨_, rfl, m, _, rfl, SqL.of upd_same, by rw [← sh, List.length_set, List.length_set]; exact ln, fun H' z s2 hz => ?_⟩
      rw [← base1] at hz
      exact q H' z ((s1.new' hm).trans s2) hz
end
end K02

set_option maxRecDepth 100000
set_option maxHeartbeats 4000000
namespace K02
open PySem PySem.Spec PyProof.Rows L2
theorem cut_to (xs : List V) (j : Nat) : cutV xs none (some ((j : Nat) : Int)) = xs.take j := by
  unfold cutV
  rw [HT.sIx_none, HT.sIx_nat, List.drop_zero, Nat.sub_zero]
  rcases Nat.le_total j xs.length with h | h
  · rw [Nat.min_eq_left h]
  · rw [Nat.min_eq_right h, List.take_of_length_le h, List.take_of_length_le (Nat.le_refl _)]
section
variable {w : World} {K : PySem.W.Frag} {mg : Str → Option Value} {base : Heap}
def spLawSt (K : PySem.W.Frag) : Sp := fun vs H Q _ => ∃ (a b : Addr) (xs ys : List Int), vs = [.ref a, .ref b] ∧ SqL K H a (xs.map V.int) ∧ SqL K H b (ys.map V.int) ∧ xs.length = ys.length ∧ xs.length ≤ 1000 ∧ ∀ H' bb, Same H H' → (bb = true ↔ NoSt xs ys) → Q (.bl bb) H'
theorem ok_law_no_steeper (T : Tx K mg) : Ok PG w K mg base CX0 2 (a_law_no_steeper K) p_law_no_steeper (spLawSt K) := by
  refine Ok.of 1 T.f_law_no_steeper sc_law_no_steeper bi_law_no_steeper (by decide) (fun vs H Q E h => ?_) (fun cdv A outer s H vs Q E hr h => ?_)
  · obtain ⟨_, _, _, _, rfl, _⟩ := h
    rfl
  · obtain ⟨a, b, xs, ys, rfl, ha, hb, le, ln, q⟩ := h
    have nd := sc_law_no_steeper.nd
    refine ⟨_, pss_cons (ps_if (pt_cmpR op_ne (pe_callB (cr_sum rfl) (by rfl) T.m_sum (by decide +kernel) (pa_cons (pv 0) pa_nil)) (pe_callB (cr_sum rfl) (by rfl) T.m_sum (by decide +kernel) (pa_cons (pv 1) pa_nil)) (nomark _)) (pss_one (ps_ret pe_bl)) pss_nil)
      (pss_cons (ps_set (i := 2) nd rfl (.inl rfl) (pe_callBK (cr_sortedRev (b := true)) (by rfl) T.m_sorted (by decide +kernel) (pa_cons (pe_lc (own := [("entry", 3)]) (g := gName 3) (tt := tYes) rfl nd (pi_list (pv 0)) (blkOk_by (N := n_law_no_steeper) (sc := defScope s_law_no_steeper) (by decide +kernel)) (fun _ _ _ _ _ => pg_name (i := 3) nd rfl (Or.inl rfl)) (fun _ _ _ _ _ => pts_nil)
          (fun _ _ _ _ _ => pe_callTy call_int1 (by rfl) T.m_int (by decide +kernel) (pa_cons (pv 3) pa_nil))) pa_nil) (pk_cons pe_bl pk_nil)))
      (pss_cons (ps_set (i := 4) nd rfl (.inl rfl) (pe_callBK (cr_sortedRev (b := true)) (by rfl) T.m_sorted (by decide +kernel) (pa_cons (pe_lc (own := [("entry", 3)]) (g := gName 3) (tt := tYes) rfl nd (pi_list (pv 1)) (blkOk_by (N := n_law_no_steeper) (sc := defScope s_law_no_steeper) (by decide +kernel)) (fun _ _ _ _ _ => pg_name (i := 3) nd rfl (Or.inl rfl)) (fun _ _ _ _ _ => pts_nil)
          (fun _ _ _ _ _ => pe_callTy call_int1 (by rfl) T.m_int (by decide +kernel) (pa_cons (pv 3) pa_nil))) pa_nil) (pk_cons pe_bl pk_nil)))
      (pss_cons (ps_for (passX rfl) rfl (pi_range1 rfl T.m_range (pa_cons (pe_op op_add (pe_callB call_len_seq (by rfl) T.m_len PySem.boot_len (pa_cons (pv 2) pa_nil)) pe_int) pa_nil)) (pg_name (i := 5) nd rfl (.inl rfl))
        (pss_one (ps_if (pt_cmpR op_gt (pe_callB (cr_sum rfl) (by rfl) T.m_sum (by decide +kernel) (pa_cons (pe_slice sl_list (pv 2) po_none (po_some (pv 5))) pa_nil)) (pe_callB (cr_sum rfl) (by rfl) T.m_sum (by decide +kernel) (pa_cons (pe_slice sl_list (pv 4) po_none (po_some (pv 5))) pa_nil)) (nomark _)) (pss_one (ps_ret pe_bl)) pss_nil)))
      (pss_one (ps_ret pe_bl))))), ?_⟩
    refine ⟨_, rfl, a, xs, rfl, ha, _, rfl, b, ys, rfl, hb, rfl, _, rfl, ite2 (fun c => ?_) (fun c => ?_)⟩
    · refine q _ false (.refl _) ⟨fun z => Bool.noConfusion z, fun z => ?_⟩
      have := z.1
      simp [this] at c
    have es : xs.sum = ys.sum := by simpa using c
    refine ⟨_, rfl, a, rfl, ⟨_, ha⟩, fun d hd => ?_⟩
    refine lc_list (xs := xs.map V.int) (fun i H' => Same H H' ∧ H' d = some (.lst ((xs.take i).map V.int))) ⟨.new hd, upd_same⟩ (fun i H' _ z => z.1.seq ha) (fun i x H' hx z => ?_) (fun H' z => ?_)
    · obtain ⟨n, hn, rfl⟩ := map_get hx
      refine ⟨rfl, yesT ⟨_, rfl, .inl ⟨_, rfl, _, z.2, by rw [List.length_map, List.length_take, sizeLine_eq]; omega, fun p o e => ?_, ?_⟩⟩⟩
      · rw [upd_ne (fun y => by rw [y, hd] at e; cases e)]
        exact z.1 p o e
      · rw [upd_same, List.take_succ, hn, List.map_append]
        rfl
    obtain ⟨s1, h1⟩ := z
    rw [List.length_map, List.take_length] at h1
    refine ⟨d, xs, rfl, rfl, SqL.of h1, fun hs p p1 p2 hp => ?_⟩
    have s2 := s1.new' (o := .lst (hs.map V.int)) hp
    refine ⟨_, rfl, b, rfl, ⟨_, s2.seq hb⟩, fun e he => ?_⟩
    generalize hG : upd H' p (.lst (hs.map V.int)) = G at s2 he ⊢
    have pG : G p = some (.lst (hs.map V.int)) := by rw [← hG, upd_same]
    refine lc_list (xs := ys.map V.int) (fun i H2 => Same G H2 ∧ H2 e = some (.lst ((ys.take i).map V.int))) ⟨.new he, upd_same⟩ (fun i H2 _ z => (s2.trans z.1).seq hb) (fun i x H2 hx z => ?_) (fun H2 z => ?_)
    · obtain ⟨n, hn, rfl⟩ := map_get hx
      refine ⟨rfl, yesT ⟨_, rfl, .inl ⟨_, rfl, _, z.2, by rw [List.length_map, List.length_take, sizeLine_eq]; omega, fun p o e2 => ?_, ?_⟩⟩⟩
      · rw [upd_ne (fun y => by rw [y, he] at e2; cases e2)]
        exact z.1 p o e2
      · rw [upd_same, List.take_succ, hn, List.map_append]
        rfl
    obtain ⟨s3, h3⟩ := z
    rw [List.length_map, List.take_length] at h3
    refine ⟨e, ys, rfl, rfl, SqL.of h3, fun ts r q1 q2 hr' => ?_⟩
    have s4 : Same H (upd H2 r (.lst (ts.map V.int))) := (s2.trans s3).new' hr'
    have p4 : upd H2 r (.lst (ts.map V.int)) p = some (.lst (hs.map V.int)) := Same.new hr' _ _ (s3 _ _ pG)
    have lh : hs.length = xs.length := p1.length_eq
    have lt : ts.length = xs.length := by rw [q1.length_eq, le]
    refine ⟨_, rfl, p, _, rfl, .inl (SqL.of p4), _, _, rfl, rfl, _, rfl, by omega, by rw [List.length_map]; omega, ?_⟩
    refine for_range (lo := 0) (n := (((hs.map V.int).length : Nat) : Int).toNat + 1) (fun i σ H' => ∃ x3 x5, σ = [some (.ref a), some (.ref b), some (.ref p), x3, some (.ref r), x5] ∧ Same (upd H2 r (.lst (ts.map V.int))) H' ∧ ∀ j, j < i → (hs.take j).sum ≤ (ts.take j).sum) ⟨none, none, rfl, .refl _, fun j z => absurd z (Nat.not_lt_zero j)⟩ ?_ ?_
    · rintro i σ H3 hi ⟨x3, x5, rfl, sm, hj⟩
      have z : ((0 : Int) + (i : Nat)) = (i : Nat) := Int.zero_add _
      rw [z]
      have cut : ∀ zs : List Int, cutV (zs.map V.int) none (some ((i : Nat) : Int)) = (zs.take i).map V.int := fun zs => by rw [cut_to, List.map_take]
      refine ⟨_, rfl, _, rfl, _, rfl, p, _, rfl, sm.seq (SqL.of p4), fun u hu => ⟨u, hs.take i, rfl, by rw [cut]; exact SqL.of upd_same, ?_⟩⟩
      have sm2 := sm.new' (o := .lst (cutV (hs.map V.int) none (some ((i : Nat) : Int)))) hu
      refine ⟨_, rfl, _, rfl, _, rfl, r, _, rfl, sm2.seq (SqL.of upd_same), fun v hv => ⟨v, ts.take i, rfl, by rw [cut ts]; exact SqL.of upd_same, _, _, rfl, rfl, _, rfl, ?_⟩⟩
      have sm3 := sm2.new' (o := .lst (cutV (ts.map V.int) none (some ((i : Nat) : Int)))) hv
      rw [List.length_map] at hi
      refine ite2 (fun d => ?_) (fun d => ?_)
      · refine q _ false (s4.trans sm3) ⟨fun z => Bool.noConfusion z, fun z => ?_⟩
        have := z.2 hs ts p1 p2 q1 q2 i (by omega)
        have := of_decide_eq_true d
        omega
      · refine ⟨_, _, rfl, sm3, fun j hj2 => ?_⟩
        rcases Nat.lt_or_ge j i with z | z
        · exact hj j z
        · obtain rfl : j = i := by omega
          have := dno d
          omega
    · rintro σ H3 ⟨x3, x5, rfl, sm, hj⟩
      refine q _ true (s4.trans sm) ⟨fun _ => noSt_of es p1 p2 q1 q2 fun j hj2 => hj j (by rw [List.length_map]; omega), fun _ => rfl⟩
end
end K02

set_option maxRecDepth 100000
set_option maxHeartbeats 4000000
namespace K02
open PySem PySem.Spec PyProof.Rows L2
theorem wayI {a b : Int} (c : decide (V.int a = V.int b) = true) : a = b := by simpa using c
theorem wayN {a b : Int} (c : ¬ decide (V.int a = V.int b) = true) : a ≠ b := fun z => c (by rw [z]; simp)
section
variable {w : World} {K : PySem.W.Frag} {mg : Str → Option Value} {base : Heap}
def spDue (K : PySem.W.Frag) : Sp := fun vs H Q _ => ∃ (way : Nat) (a b c : Addr) (xs ys : List Int) (n0 n1 n2 n3 : Int), vs = [.int (way : Nat), .ref a, .ref b, .ref c] ∧ SqL K H a (xs.map V.int) ∧ SqL K H b (ys.map V.int) ∧ SqL K H c [.int n0, .int n1, .int n2, .int n3] ∧
  xs.length ≤ 30 ∧ ys.length ≤ 30 ∧ (∀ n ∈ xs, n.natAbs < 2 ^ 200) ∧ n3.natAbs < 2 ^ 200 ∧ ∀ H' z, Same H H' → IsDue K H' z (dueOf way xs ys n0 n1 n2 n3) → Q (.ref z) H'
theorem ok_law_due (T : Tx K mg) : Ok PG w K mg base CX0 5 (a_law_due K) p_law_due (spDue K) := by
  refine Ok.of 4 T.f_law_due sc_law_due bi_law_due (by decide) (fun vs H Q E h => ?_) (fun cdv A outer s H vs Q E hr h => ?_)
  · obtain ⟨_, _, _, _, _, _, _, _, _, _, rfl, _⟩ := h
    rfl
  · obtain ⟨way, a, b, c, xs, ys, n0, n1, n2, n3, rfl, ha, hb, hc, l1, l2, wx, w3, q⟩ := h
    have nd := sc_law_due.nd
    have hr2 := hr.mono (show 2 ≤ 4 by decide)
    have hr3 := hr.mono (show 3 ≤ 4 by decide)
    refine ⟨_, pss_cons (ps_if (PW.pt (pw_or (pt_cmpR op_eq (pv 0) pe_int (nomark _)) (pw_or1 (pt_cmpR op_eq (pv 0) pe_int (nomark _)))))
        (pss_cons (ps_if (pt_cmpR op_lt (pe_ix ix_list (pv 3) pe_int (fun _ _ => rfl)) pe_int (nomark _)) (pss_one (ps_ret (pe_tup (pa_cons pe_str (pa_cons pe_int (pa_cons (pe_ix ix_list (pv 3) pe_int (fun _ _ => rfl)) (pa_cons pe_bl (pa_cons pe_bl pa_nil)))))))) pss_nil)
        (pss_one (ps_ret (pc (ok_law_due_made T) hr2 T.g_law_due_made pass0 (pa_cons (pe_lc (own := [("entry", 4)]) (g := gName 4) (tt := tYes) rfl nd (pi_list (pv 1)) (blkOk_by (N := n_law_due) (sc := defScope s_law_due) (by decide +kernel)) (fun _ _ _ _ _ => pg_name (i := 4) nd rfl (Or.inl rfl)) (fun _ _ _ _ _ => pts_nil)
          (fun _ _ _ _ _ => pe_op op_mulW (pv 4) (pe_ix (r := rIxL K) ix_list (pv 3) pe_int (fun _ _ => rfl)))) pa_nil))))) pss_nil)
      (pss_cons (ps_if (PW.pt (pw_or (pt_cmpR op_eq (pv 0) pe_int (nomark _)) (pw_or1 (pt_cmpR op_eq (pv 0) pe_int (nomark _)))))
        (pss_one (ps_ret (pc (ok_law_due_moved T) hr3 T.g_law_due_moved pass0 (pa_cons (pv 1) (pa_cons (pe_ix ix_list (pv 3) pe_int (fun _ _ => rfl)) (pa_cons (pe_ix ix_list (pv 3) pe_int (fun _ _ => rfl)) (pa_cons (pe_ix ix_list (pv 3) pe_int (fun _ _ => rfl)) pa_nil))))))) pss_nil)
      (pss_cons (ps_if (pt_cmpR op_eq (pv 0) pe_int (nomark _))
        (pss_one (ps_ret (pc (ok_law_due_moved T) hr3 T.g_law_due_moved pass0 (pa_cons (pv 1) (pa_cons (pe_ix ix_list (pv 3) pe_int (fun _ _ => rfl)) (pa_cons (pe_ix ix_list (pv 3) pe_int (fun _ _ => rfl)) (pa_cons pe_int pa_nil))))))) pss_nil)
      (pss_cons (ps_if (pt_cmpR op_ne (pe_callB call_len_seq (by rfl) T.m_len PySem.boot_len (pa_cons (pv 1) pa_nil)) (pe_callB call_len_seq (by rfl) T.m_len PySem.boot_len (pa_cons (pv 2) pa_nil)) (nomark _))
        (pss_one (ps_ret (pe_tup (pa_cons pe_str (pa_cons (pe_callB call_len_seq (by rfl) T.m_len PySem.boot_len (pa_cons (pv 2) pa_nil)) (pa_cons (pe_callB call_len_seq (by rfl) T.m_len PySem.boot_len (pa_cons (pv 1) pa_nil)) (pa_cons pe_bl (pa_cons pe_bl pa_nil)))))))) pss_nil)
      (pss_cons (ps_if (pt_cmpR op_eq (pv 0) pe_int (nomark _))
        (pss_one (ps_ret (pc (ok_law_due_made T) hr2 T.g_law_due_made pass0 (pa_cons (pe_lc (own := [("place", 5)]) (g := gName 5) (tt := tYes) rfl nd (pi_range1 rfl T.m_range (pa_cons (pe_callB call_len_seq (by rfl) T.m_len PySem.boot_len (pa_cons (pv 1) pa_nil)) pa_nil)) (blkOk_by (N := n_law_due) (sc := defScope s_law_due) (by decide +kernel)) (fun _ _ _ _ _ => pg_name (i := 5) nd rfl (Or.inl rfl)) (fun _ _ _ _ _ => pts_nil)
          (fun _ _ _ _ _ => pe_op op_add (pe_ix (r := rIxL K) ix_list (pv 1) (pv 5) (fun _ _ => rfl)) (pe_ix (r := rIxL K) ix_list (pv 2) (pv 5) (fun _ _ => rfl)))) pa_nil)))) pss_nil)
      (pss_cons (ps_if (pt_cmpR op_eq (pv 0) pe_int (nomark _))
        (pss_one (ps_ret (pe_tup (pa_cons pe_str (pa_cons (pe_callB (cr_sum rfl) (by rfl) T.m_sum (by decide +kernel) (pa_cons (pe_lc (own := [("place", 5)]) (g := gName 5) (tt := tYes) rfl nd (pi_range1 rfl T.m_range (pa_cons (pe_callB call_len_seq (by rfl) T.m_len PySem.boot_len (pa_cons (pv 1) pa_nil)) pa_nil)) (blkOk_by (N := n_law_due) (sc := defScope s_law_due) (by decide +kernel)) (fun _ _ _ _ _ => pg_name (i := 5) nd rfl (Or.inl rfl)) (fun _ _ _ _ _ => pts_nil)
          (fun _ _ _ _ _ => pe_callB call_abs (by rfl) T.m_abs (by decide +kernel) (pa_cons (pe_op op_sub (pe_ix (r := rIxL K) ix_list (pv 1) (pv 5) (fun _ _ => rfl)) (pe_ix (r := rIxL K) ix_list (pv 2) (pv 5) (fun _ _ => rfl))) pa_nil))) pa_nil)) pa_nil))))) pss_nil)
      (pss_one (ps_ret (pe_tup (pa_cons pe_str (pa_cons (pc (ok_law_no_steeper T) hr2 T.g_law_no_steeper pass0 (pa_cons (pv 1) (pa_cons (pv 2) pa_nil))) pa_nil)))))))))), ?_⟩
    have five : 5 ≤ sizeLine := by decide
    have two : 2 ≤ sizeLine := by decide
    have up : ∀ {H1 : Hp} {D : Addr} {o : HO}, H D = none → Same H H1 → Same H (upd H1 D o) := fun {H1 D o} hD sm p u e => by
      rw [upd_ne (fun z => by rw [z, hD] at e; cases e)]
      exact sm p u e
    have nw : ¬ (way = 1 ∨ way = 2) → dueOf way xs ys n0 n1 n2 n3 = if way = 3 ∨ way = 7 then dueMoved xs n0 n1 n2 else if way = 4 then dueMoved xs n0 n1 1 else if xs.length ≠ ys.length then .wrongL ys.length xs.length else if way = 0 then dueMade (List.zipWith (· + ·) xs ys) else if way = 5 then .num (List.zipWith far xs ys).sum else .ans (@decide (NoSt xs ys) (Classical.propDecidable _)) := fun z => by rw [dueOf, if_neg z]
    refine ⟨_, rfl, rfl, _, rfl, ?_⟩
    by_cases hw : way = 1 ∨ way = 2
    · have D0 : dueOf way xs ys n0 n1 n2 n3 = if n3 < 0 then .bad 0 n3 else dueMade (xs.map (· * n3)) := by rw [dueOf, if_pos hw]
      rcases hw with rfl | rfl
      · refine yep rfl ?_
        refine ⟨_, rfl, c, _, _, .int n3, rfl, rfl, hc, rfl, _, _, rfl, rfl, _, rfl, ite2 (fun d => ?_) (fun d => ?_)⟩
        · refine ⟨_, rfl, c, _, _, .int n3, rfl, rfl, hc, rfl, five, fun z hz => q _ z (.new hz) ?_⟩
          rw [D0, if_pos (of_decide_eq_true d)]
          exact SqT.of upd_same
        · rw [if_neg (dno d)] at D0
          refine ⟨_, rfl, a, rfl, ⟨_, ha⟩, fun D hD => ?_⟩
          refine lc_list (xs := xs.map V.int) (fun i H' => Same H H' ∧ H' D = some (.lst (((xs.map (· * n3)).take i).map V.int))) ⟨.new hD, upd_same⟩ (fun i H' _ z => z.1.seq ha) (fun i x H' hx z => ?_) (fun H' z => ?_)
          · obtain ⟨n, hn, rfl⟩ := map_get hx
            refine ⟨rfl, yesT ⟨_, rfl, _, rfl, c, _, _, .int n3, rfl, rfl, z.1.seq hc, rfl, _, _, rfl, rfl, wide_mul (wx n (List.mem_of_getElem? hn)) w3 (by decide) (by decide) (by decide), _, z.2, ?_, up hD z.1, ?_⟩⟩
            · rw [List.length_map, List.length_take, List.length_map, sizeLine_eq]; omega
            · rw [upd_same, List.take_succ, List.getElem?_map, hn, List.map_append]
              rfl
          · obtain ⟨s1, h1⟩ := z
            rw [List.take_of_length_le (by rw [List.length_map, List.length_map]; exact Nat.le_refl _)] at h1
            exact ⟨D, _, rfl, SqL.of h1, by rw [List.length_map]; omega, fun H2 z s hz => q H2 z (s1.trans s) (by rw [D0]; exact hz)⟩
      · refine nope rfl ?_
        refine ⟨_, rfl, rfl, _, rfl, yep rfl ?_⟩
        refine ⟨_, rfl, c, _, _, .int n3, rfl, rfl, hc, rfl, _, _, rfl, rfl, _, rfl, ite2 (fun d => ?_) (fun d => ?_)⟩
        · refine ⟨_, rfl, c, _, _, .int n3, rfl, rfl, hc, rfl, five, fun z hz => q _ z (.new hz) ?_⟩
          rw [D0, if_pos (of_decide_eq_true d)]
          exact SqT.of upd_same
        · rw [if_neg (dno d)] at D0
          refine ⟨_, rfl, a, rfl, ⟨_, ha⟩, fun D hD => ?_⟩
          refine lc_list (xs := xs.map V.int) (fun i H' => Same H H' ∧ H' D = some (.lst (((xs.map (· * n3)).take i).map V.int))) ⟨.new hD, upd_same⟩ (fun i H' _ z => z.1.seq ha) (fun i x H' hx z => ?_) (fun H' z => ?_)
          · obtain ⟨n, hn, rfl⟩ := map_get hx
            refine ⟨rfl, yesT ⟨_, rfl, _, rfl, c, _, _, .int n3, rfl, rfl, z.1.seq hc, rfl, _, _, rfl, rfl, wide_mul (wx n (List.mem_of_getElem? hn)) w3 (by decide) (by decide) (by decide), _, z.2, ?_, up hD z.1, ?_⟩⟩
            · rw [List.length_map, List.length_take, List.length_map, sizeLine_eq]; omega
            · rw [upd_same, List.take_succ, List.getElem?_map, hn, List.map_append]
              rfl
          · obtain ⟨s1, h1⟩ := z
            rw [List.take_of_length_le (by rw [List.length_map, List.length_map]; exact Nat.le_refl _)] at h1
            exact ⟨D, _, rfl, SqL.of h1, by rw [List.length_map]; omega, fun H2 z s hz => q H2 z (s1.trans s) (by rw [D0]; exact hz)⟩
    have w1 : way ≠ 1 := fun z => hw (.inl z)
    have w2 : way ≠ 2 := fun z => hw (.inr z)
    refine nope (by simpa using fun z => w1 (by omega)) ?_
    refine ⟨_, rfl, rfl, _, rfl, nope (by simpa using fun z => w2 (by omega)) ?_⟩
    refine ⟨_, rfl, rfl, _, rfl, ?_⟩
    by_cases hv : way = 3 ∨ way = 7
    · have D0 : dueOf way xs ys n0 n1 n2 n3 = dueMoved xs n0 n1 n2 := by rw [nw hw, if_pos hv]
      rcases hv with rfl | rfl
      · refine yep rfl ?_
        exact ⟨_, rfl, _, rfl, c, _, _, .int n0, rfl, rfl, hc, rfl, _, rfl, c, _, _, .int n1, rfl, rfl, hc, rfl, _, rfl, c, _, _, .int n2, rfl, rfl, hc, rfl, a, xs, n0, n1, n2, rfl, ha, by omega, fun H' z s hz => q H' z s (by rw [D0]; exact hz)⟩
      · refine nope rfl ?_
        refine ⟨_, rfl, rfl, _, rfl, yep rfl ?_⟩
        exact ⟨_, rfl, _, rfl, c, _, _, .int n0, rfl, rfl, hc, rfl, _, rfl, c, _, _, .int n1, rfl, rfl, hc, rfl, _, rfl, c, _, _, .int n2, rfl, rfl, hc, rfl, a, xs, n0, n1, n2, rfl, ha, by omega, fun H' z s hz => q H' z s (by rw [D0]; exact hz)⟩
    have w3' : way ≠ 3 := fun z => hv (.inl z)
    have w7 : way ≠ 7 := fun z => hv (.inr z)
    refine nope (by simpa using fun z => w3' (by omega)) ?_
    refine ⟨_, rfl, rfl, _, rfl, nope (by simpa using fun z => w7 (by omega)) ?_⟩
    have nv := nw hw
    rw [if_neg hv] at nv
    refine ⟨_, rfl, rfl, _, rfl, ite2 (fun e => ?_) (fun e => ?_)⟩
    · have w4 : way = 4 := by have := wayI e; omega
      rw [if_pos w4] at nv
      exact ⟨_, rfl, _, rfl, c, _, _, .int n0, rfl, rfl, hc, rfl, _, rfl, c, _, _, .int n1, rfl, rfl, hc, rfl, a, xs, n0, n1, 1, rfl, ha, by omega, fun H' z s hz => q H' z s (by rw [nv]; exact hz)⟩
    have w4 : way ≠ 4 := fun z => wayN e (by omega)
    rw [if_neg w4] at nv
    refine ⟨_, rfl, a, _, rfl, .inl ha, _, rfl, b, _, rfl, .inl hb, rfl, _, rfl, ite2 (fun e => ?_) (fun e => ?_)⟩
    · have ne : xs.length ≠ ys.length := fun z => by
        rw [List.length_map, List.length_map, z] at e
        simp at e
      rw [if_pos ne] at nv
      refine ⟨_, rfl, b, _, rfl, .inl hb, _, rfl, a, _, rfl, .inl ha, five, fun z hz => q _ z (.new hz) ?_⟩
      rw [nv, List.length_map, List.length_map]
      exact SqT.of upd_same
    have le : xs.length = ys.length := by
      rw [List.length_map, List.length_map] at e
      have : ¬ ((xs.length : Nat) : Int) ≠ ((ys.length : Nat) : Int) := fun z => e (by simpa using fun y => z (by rw [y]))
      omega
    rw [if_neg (fun z => z le)] at nv
    refine ⟨_, rfl, rfl, _, rfl, ite2 (fun e => ?_) (fun e => ?_)⟩
    · have w0 : way = 0 := by have := wayI e; omega
      rw [if_pos w0] at nv
      refine ⟨_, rfl, a, _, rfl, .inl ha, _, rfl, by omega, by rw [List.length_map]; omega, fun D hD => ?_⟩
      refine lc_range (lo := 0) (n := (xs.map V.int).length) (fun i H' => Same H H' ∧ H' D = some (.lst (((List.zipWith (· + ·) xs ys).take i).map V.int))) ⟨.new hD, upd_same⟩ (fun i H' hi z => ?_) (fun H' z => ?_)
      · rw [List.length_map] at hi
        have z0 : ((0 : Int) + (i : Nat)) = (i : Nat) := Int.zero_add _
        rw [z0]
        refine ⟨rfl, yesT ⟨_, rfl, _, rfl, a, _, _, .int xs[i], rfl, rfl, z.1.seq ha, atI_nat (get_map hi), _, rfl, _, rfl, b, _, _, .int ys[i], rfl, rfl, z.1.seq hb, atI_nat (get_map (by omega)), _, _, rfl, rfl, _, z.2, ?_, up hD z.1, ?_⟩⟩
        · rw [List.length_map, List.length_take, sizeLine_eq]; omega
        · rw [upd_same, List.take_succ, List.getElem?_zipWith, List.getElem?_eq_getElem hi, List.getElem?_eq_getElem (show i < ys.length by omega), List.map_append]
          rfl
      · obtain ⟨s1, h1⟩ := z
        rw [List.take_of_length_le (by rw [List.length_zipWith, List.length_map]; omega)] at h1
        exact ⟨D, _, rfl, SqL.of h1, by rw [List.length_zipWith]; omega, fun H2 z s hz => q H2 z (s1.trans s) (by rw [nv]; exact hz)⟩
    have w0 : way ≠ 0 := fun z => wayN e (by omega)
    rw [if_neg w0] at nv
    refine ⟨_, rfl, rfl, _, rfl, ite2 (fun e => ?_) (fun e => ?_)⟩
    · have w5 : way = 5 := by have := wayI e; omega
      rw [if_pos w5] at nv
      refine ⟨_, rfl, a, _, rfl, .inl ha, _, rfl, by omega, by rw [List.length_map]; omega, fun D hD => ?_⟩
      refine lc_range (lo := 0) (n := (xs.map V.int).length) (fun i H' => Same H H' ∧ H' D = some (.lst (((List.zipWith far xs ys).take i).map V.int))) ⟨.new hD, upd_same⟩ (fun i H' hi z => ?_) (fun H' z => ?_)
      · rw [List.length_map] at hi
        have z0 : ((0 : Int) + (i : Nat)) = (i : Nat) := Int.zero_add _
        rw [z0]
        refine ⟨rfl, yesT ⟨_, rfl, _, rfl, a, _, _, .int xs[i], rfl, rfl, z.1.seq ha, atI_nat (get_map hi), _, rfl, _, rfl, b, _, _, .int ys[i], rfl, rfl, z.1.seq hb, atI_nat (get_map (by omega)), _, _, rfl, rfl, _, rfl, _, z.2, ?_, up hD z.1, ?_⟩⟩
        · rw [List.length_map, List.length_take, sizeLine_eq]; omega
        · rw [upd_same, List.take_succ, List.getElem?_zipWith, List.getElem?_eq_getElem hi, List.getElem?_eq_getElem (show i < ys.length by omega), List.map_append]
          rfl
      · obtain ⟨s1, h1⟩ := z
        rw [List.take_of_length_le (by rw [List.length_zipWith, List.length_map]; omega)] at h1
        refine ⟨D, _, rfl, SqL.of h1, two, fun z hz => q _ z (s1.new' hz) ?_⟩
        rw [nv]
        exact SqT.of upd_same
    have w5 : way ≠ 5 := fun z => wayN e (by omega)
    rw [if_neg w5] at nv
    refine ⟨_, rfl, _, rfl, a, b, xs, ys, rfl, ha, hb, le, by omega, fun H' bb s hbb => ⟨two, fun z hz => q _ z (s.new' hz) ?_⟩⟩
    have eb : @decide (NoSt xs ys) (Classical.propDecidable _) = bb := by
      cases bb with
      | true => exact @decide_eq_true _ (Classical.propDecidable _) (hbb.1 rfl)
      | false => exact @decide_eq_false _ (Classical.propDecidable _) (fun z => Bool.noConfusion (hbb.2 z))
    rw [nv, eb]
    exact SqT.of upd_same
end
end K02

set_option maxRecDepth 100000
set_option maxHeartbeats 4000000
/-! # obj.m(e, .., k = v) -/
namespace L2
open PySem PySem.Spec PyProof.Rows
def tMethN (C : Addr) (m : Str) (n mm : Nat) (sp : Sp) (gV : List V → List V → List V) (E : XK) (ta : TE) (t tk : TA) : TE := fun σ H Q => ta σ H fun x H1 => ∃ a dx fs, x = .ref a ∧ H1 a = some (.ins C dx fs) ∧ fs.lookup m = none ∧
  t σ H1 fun vs H2 => tk σ H2 fun zs H3 => vs.length = n ∧ zs.length = mm ∧ sp (gV (.ref a :: vs) zs) H3 Q E
theorem pe_methN {X : Cx} {CX : CXT} {k n : Nat} {f C : Addr} {fd : FuncData} {ps ks : List Str} {sp : Sp} {E : XK} {m : Str} {o e : Expr} {es : List Expr} {kws : List Keyword} {ta : TE} {t tk : TA} {apos pos : Pos} {pl : Sem Bool} {g : List Value → List Value → List Value} {gV : List V → List V → List V}
    (he : PE X o ta) (c : Cls X.K C) (hm : Meth X.K C m f) (F : FnOk X.prog X.w X.K X.mg X.base CX k f fd ps sp) (hr : Room k X.A) (hb : KBn X.K fd ps (n + 1) ks g gV) (hx : Passes CX X E) (ha : PA X (e :: es) t) (hkw : PK X kws tk)
    (hall : (backToKw pos (keywordEach kws X.env)).all (·.1.isSome) = true := by rfl) (hks : (backToKw pos (keywordEach kws X.env)).filterMap (·.1) = ks := by rfl)
    (hst : starEach (e :: es) X.env = (false, eval e X.env) :: starEach es X.env := by rfl) (hpl : ((backTo pos (starEach (e :: es) X.env)).any (·.1) || (backToKw pos (keywordEach kws X.env)).any (·.1.isNone)) = false := by rfl)
    (ht : eval (.Call (.Attribute o m apos) (e :: es) kws pos) X.env = (do
      let ov ← eval o X.env
      standAt apos.atName
      let (f, first) ← holding [ov] (getMethod ov m pl)
      callWith pos f first (backTo pos (starEach (e :: es) X.env)) (backToKw pos (keywordEach kws X.env))) := by rfl) :
    PE X (.Call (.Attribute o m apos) (e :: es) kws pos) (tMethN C m n ks.length sp gV E ta t tk) := by
  refine ⟨fun pins s σ H Q I h => ?_⟩
  refine PySem.W.methodCall_KW (pl := pl) (thn (he.run pins s σ H _ I h) fun u s1 ⟨x, H1, I1, rx, a, dx, fs, ex, ea, l, q⟩ => ?_) ht
  subst ex
  obtain rfl : u = Value.ref a := rx
  refine getmeth_ok I1 ea c hm l ?_
  refine PySem.W.callWith_KW (first := [.ref a]) (h₀ := X.base) I.ok.mod.kin hm.kp hall (thn (ha.run pos pins s1 σ H1 _ I1 q) fun us s2 ⟨vs, H2, I2, r, q2⟩ => ?_) hpl hst
  refine thn (hkw.run pos pins s2 σ H2 _ I2 q2) fun ws s3 ⟨zs, H3, I3, rz, l1, l2, q3⟩ => ⟨I3.kIn, ?_⟩
  rw [hks]
  exact run_fnN (us := .ref a :: us) (vs := .ref a :: vs) F hr hb hx I3 (.cons rfl r) rz (congrArg Nat.succ l1) l2 q3
end L2

set_option maxRecDepth 100000
set_option maxHeartbeats 8000000
namespace K02
open PySem PySem.Spec PyProof.Rows L2
section
variable {xs ys : List Int} {n0 n1 n2 n3 : Int}
theorem due0 : dueOf 0 xs ys n0 n1 n2 n3 = if xs.length ≠ ys.length then .wrongL ys.length xs.length else dueMade (List.zipWith (· + ·) xs ys) := rfl
theorem due1 : dueOf 1 xs ys n0 n1 n2 n3 = if n3 < 0 then .bad 0 n3 else dueMade (xs.map (· * n3)) := rfl
theorem due2 : dueOf 2 xs ys n0 n1 n2 n3 = if n3 < 0 then .bad 0 n3 else dueMade (xs.map (· * n3)) := rfl
theorem due3 : dueOf 3 xs ys n0 n1 n2 n3 = dueMoved xs n0 n1 n2 := rfl
theorem due4 : dueOf 4 xs ys n0 n1 n2 n3 = dueMoved xs n0 n1 1 := rfl
theorem due5 : dueOf 5 xs ys n0 n1 n2 n3 = if xs.length ≠ ys.length then .wrongL ys.length xs.length else .num (List.zipWith far xs ys).sum := rfl
theorem due6 : dueOf 6 xs ys n0 n1 n2 n3 = if xs.length ≠ ys.length then .wrongL ys.length xs.length else .ans (@decide (NoSt xs ys) (Classical.propDecidable _)) := rfl
theorem due7 : dueOf 7 xs ys n0 n1 n2 n3 = dueMoved xs n0 n1 n2 := rfl
end
section
variable {w : World} {K : PySem.W.Frag} {mg : Str → Option Value} {base : Heap}
/-- what is due comes: as a value or as an error -/
def Res (K : PySem.W.Frag) (H : Hp) (Q : VK) (E : XK) : Due → Prop
  | .tell ns => ∀ H' p, Same H H' → IsW K H' p ns → Q (.ref p) H'
  | .num n => ∀ H', Same H H' → Q (.int n) H'
  | .ans b => ∀ H', Same H H' → Q (.bl b) H'
  | .long n => Rs (c_TooLong K) (xT n) H E
  | .bad i n => Rs (c_BadNumber K) (xB i n) H E
  | .twice i => Rs (c_NamedTwice K) (xP i) H E
  | .noP i => Rs (c_NoPerson K) (xP i) H E
  | .wrongL f w => Rs (c_WrongLength K) (xL f w) H E
theorem mkr_of {ns : List Int} {H : Hp} {Q : VK} {E : XK} (h : Res K H Q E (dueMade ns)) : Mkr K ns H Q E := by
  constructor
  · intro c
    rw [dueMade, if_pos c] at h
    exact h
  · intro c i n e
    have e' : bad cap 0 ns = some (i, n) := e
    rw [dueMade, if_neg (by omega), e'] at h
    exact h
  · intro c e H' p s g
    have e' : bad cap 0 ns = none := e
    rw [dueMade, if_neg (by omega), e'] at h
    exact h H' p s g
theorem movr_of {ns : List Int} {g t c : Int} {H : Hp} {Q : VK} {E : XK} (h : Res K H Q E (dueMoved ns g t c)) : Movr K ns g t c H Q E := by
  constructor
  · intro c1
    rw [dueMoved, if_pos c1] at h
    exact h
  · intro c1 c2
    rw [dueMoved, if_neg (fun y => y c1), if_pos c2] at h
    exact h
  · intro c1 e
    subst e
    rw [dueMoved, if_neg (fun y => y c1), if_neg (fun y => y c1), if_pos rfl] at h
    exact h
  · intro c1 c2 ne c0
    rw [dueMoved, if_neg (fun y => y c1), if_neg (fun y => y c2), if_neg ne, if_pos c0] at h
    exact h
  · intro c1 c2 ne c0 c3
    rw [dueMoved, if_neg (fun y => y c1), if_neg (fun y => y c2), if_neg ne, if_neg (by omega), if_pos c3] at h
    exact h
  · intro c1 c2 ne c0 c3
    rw [dueMoved, if_neg (fun y => y c1), if_neg (fun y => y c2), if_neg ne, if_neg (by omega), if_neg (by omega)] at h
    exact mkr_of h
abbrev MovD (K : PySem.W.Frag) (fd : FuncData) : Prop := FunD K "moved" "Telling.moved" (defArgs s_Telling_moved) (defBody s_Telling_moved) (defScope s_Telling_moved) [.int (1)] [] (a_Telling_moved K) fd
theorem bi_moved3 {fd : FuncData} (F : MovD K fd) : ∃ ds, Vals [V.int 1] ds ∧ Binds K fd p_Telling_moved ds := F.binds1 3 0 (by simp) rfl (fun _ _ _ _ _ _ _ us its hl hi => match us, its, hl, hi with | [_, _, _], [_], _, _ => ⟨_, rfl, rfl⟩)
theorem bi_moved4 {fd : FuncData} (F : MovD K fd) : ∃ ds, Vals ([] : List V) ds ∧ Binds K fd p_Telling_moved ds := F.binds1 4 1 (by simp) rfl (fun _ _ _ _ _ _ _ us its hl hi => match us, its, hl, hi with | [_, _, _, _], [_], _, _ => ⟨_, rfl, rfl⟩)
theorem bi_movedK {fd : FuncData} (F : MovD K fd) : ∃ its : List Value, KBn K fd p_Telling_moved 3 ["count"] (fun us ws => us ++ ws) (fun vs zs => vs ++ zs) :=
  F.kbindsD 3 ["count"] (fun us _ ws => us ++ ws) (by simp) (fun r1 _ r3 => r1.append r3) (fun _ _ _ _ _ _ _ us its ws hl hi hw => match us, its, ws, hl, hi, hw with | [_, _, _], [_], [_], _, _, _ => ⟨_, rfl, rfl⟩)
theorem alk_of {xs ys : List Int} {H : Hp} {Q : VK} {E : XK} {D : Due} (l1 : xs.length ≤ 30) (l2 : ys.length ≤ 30) (h : Res K H Q E (if xs.length ≠ ys.length then .wrongL ys.length xs.length else D)) : Alk K xs ys H E := by
  refine ⟨l1, l2, fun c => ?_⟩
  rw [if_pos (fun z => c z.symm)] at h
  exact h
theorem res_of {xs ys : List Int} {H : Hp} {Q : VK} {E : XK} {D D' : Due} (h : Res K H Q E (if xs.length ≠ ys.length then D' else D)) (e : ys.length = xs.length) : Res K H Q E D := by
  rw [if_neg (fun z => z e.symm)] at h
  exact h
theorem mulr_of {xs : List Int} {k : Int} {H : Hp} {Q : VK} {E : XK} (l1 : xs.length ≤ 30) (wx : ∀ n ∈ xs, n.natAbs < 2 ^ 200) (wk : k.natAbs < 2 ^ 200) (h : Res K H Q E (if k < 0 then .bad 0 k else dueMade (xs.map (· * k)))) : Mulr K xs k H Q E := by
  refine ⟨l1, wx, wk, fun c => ?_, fun c => ?_⟩
  · rw [if_pos c] at h
    exact h
  · rw [if_neg (by omega)] at h
    exact mkr_of h
theorem same_ans {P : Prop} {bb : Bool} (h : bb = true ↔ P) : @decide P (Classical.propDecidable _) = bb := by
  cases bb with
  | true => exact @decide_eq_true _ (Classical.propDecidable _) (h.1 rfl)
  | false => exact @decide_eq_false _ (Classical.propDecidable _) (fun z => Bool.noConfusion (h.2 z))
def spWorked (K : PySem.W.Frag) : Sp := fun vs H Q E => ∃ (way : Nat) (a b c : Addr) (xs ys : List Int), vs = [.int (way : Nat), .ref a, .ref b, .ref c] ∧ IsW K H a xs ∧ IsW K H b ys ∧ xs.length ≤ 30 ∧ ys.length ≤ 30 ∧ (∀ n ∈ xs, n.natAbs < 2 ^ 200) ∧
  ((way < 8 ∧ ∃ n0 n1 n2 n3, SqL K H c [.int n0, .int n1, .int n2, .int n3] ∧ n3.natAbs < 2 ^ 200 ∧ Res K H Q E (dueOf way xs ys n0 n1 n2 n3)) ∨ (way = 8 ∧ ∃ ms : List Int, SqL K H c (ms.map V.int) ∧ Res K H Q E (dueMade ms)))
theorem ok_law_worked (T : Tx K mg) : Ok PG w K mg base (L2.CX PG w) 10 (a_law_worked K) p_law_worked (spWorked K) := by
  obtain ⟨fm, Fm⟩ := T.f_Telling_moved
  have Om := fn_Telling_moved (w := w) (base := base) T Fm
  obtain ⟨d3, v3, b3⟩ := bi_moved3 Fm
  obtain ⟨d4, v4, b4⟩ := bi_moved4 Fm
  obtain ⟨dk, bk⟩ := bi_movedK Fm
  refine Ok.of 9 T.f_law_worked sc_law_worked bi_law_worked (by decide) (fun vs H Q E h => ?_) (fun cdv A outer s H vs Q E hr h => ?_)
  · obtain ⟨_, _, _, _, _, _, rfl, _⟩ := h
    rfl
  · obtain ⟨way, a, b, c, xs, ys, rfl, ha, hb, l1, l2, wx, hway⟩ := h
    obtain ⟨dx, t, a1, a2⟩ := id ha
    obtain ⟨dy, u, b1, b2⟩ := id hb
    have hr7 := hr.mono (show 7 ≤ 9 by decide)
    refine ⟨_, pss_cons (ps_if (pt_cmpR op_eq (pv 0) pe_int (nomark _)) (pss_one (ps_ret (pe_op (oOwn (ok_Telling_add T) T.wTelling_add hr7 px) (pv 1) (pv 2)))) pss_nil)
      (pss_cons (ps_if (pt_cmpR op_eq (pv 0) pe_int (nomark _)) (pss_one (ps_ret (pe_op (oOwnI (ok_Telling_mul T) T.wTelling_mul hr7 px) (pv 1) (pe_ix ix_list (pv 3) pe_int (fun _ _ => rfl))))) pss_nil)
      (pss_cons (ps_if (pt_cmpR op_eq (pv 0) pe_int (nomark _)) (pss_one (ps_ret (pe_op (oOwnR (ok_Telling_rmul T) T.wTelling_rmul (hr.mono (by decide)) px) (pe_ix ix_list (pv 3) pe_int (fun _ _ => rfl)) (pv 1)))) pss_nil)
      (pss_cons (ps_if (pt_cmpR op_eq (pv 0) pe_int (nomark _)) (pss_one (ps_ret (pe_methN (n := 2) (pv 1) T.cTelling T.wTelling_moved Om hr7 bk px (pa_cons (pe_ix ix_list (pv 3) pe_int (fun _ _ => rfl)) (pa_cons (pe_ix ix_list (pv 3) pe_int (fun _ _ => rfl)) pa_nil)) (pk_cons (pe_ix ix_list (pv 3) pe_int (fun _ _ => rfl)) pk_nil)))) pss_nil)
      (pss_cons (ps_if (pt_cmpR op_eq (pv 0) pe_int (nomark _)) (pss_one (ps_ret (pe_meth (pv 1) T.cTelling T.wTelling_moved Om hr7 b3 v3 px (pa_cons (pe_ix ix_list (pv 3) pe_int (fun _ _ => rfl)) (pa_cons (pe_ix ix_list (pv 3) pe_int (fun _ _ => rfl)) pa_nil))))) pss_nil)
      (pss_cons (ps_if (pt_cmpR op_eq (pv 0) pe_int (nomark _)) (pss_one (ps_ret (pe_op (oOwn (ok_Telling_xor T) T.wTelling_xor hr7 px) (pv 1) (pv 2)))) pss_nil)
      (pss_cons (ps_if (pt_cmpR op_eq (pv 0) pe_int (nomark _)) (pss_one (ps_ret (pmeth (ok_Telling_no_steeper T) (pv 1) T.cTelling T.wTelling_no_steeper hr7 px (pa_cons (pv 2) pa_nil)))) pss_nil)
      (pss_cons (ps_if (pt_cmpR op_eq (pv 0) pe_int (nomark _)) (pss_one (ps_ret (pe_meth (pv 1) T.cTelling T.wTelling_moved Om hr7 b4 v4 px (pa_cons (pe_ix ix_list (pv 3) pe_int (fun _ _ => rfl)) (pa_cons (pe_ix ix_list (pv 3) pe_int (fun _ _ => rfl)) (pa_cons (pe_ix ix_list (pv 3) pe_int (fun _ _ => rfl)) pa_nil)))))) pss_nil)
      (pss_one (ps_ret (pmk (ok_Telling_init T) T.kTelling (hr.mono (by decide)) T.gTelling px (pa_cons (pv 3) pa_nil))))))))))), ?_⟩
    rcases hway with ⟨hw, n0, n1, n2, n3, hc, w3, R⟩ | ⟨rfl, ms, hc, R⟩
    · rcases (show way = 0 ∨ way = 1 ∨ way = 2 ∨ way = 3 ∨ way = 4 ∨ way = 5 ∨ way = 6 ∨ way = 7 by omega) with rfl | rfl | rfl | rfl | rfl | rfl | rfl | rfl
      · rw [due0] at R
        refine ⟨_, rfl, rfl, _, rfl, yep rfl ?_⟩
        exact ⟨_, rfl, _, rfl, a, dx, _, b, dy, _, rfl, rfl, a1, b1, a, b, xs, ys, rfl, ha, hb, alk_of l1 l2 R, fun e => mkr_of (res_of R e)⟩
      · rw [due1] at R
        refine ⟨_, rfl, rfl, _, rfl, nope rfl ?_⟩
        refine ⟨_, rfl, rfl, _, rfl, yep rfl ?_⟩
        exact ⟨_, rfl, _, rfl, c, _, _, .int n3, rfl, rfl, hc, rfl, a, dx, _, n3, rfl, rfl, a1, a, xs, n3, rfl, ha, mulr_of l1 wx w3 R⟩
      · rw [due2] at R
        refine ⟨_, rfl, rfl, _, rfl, nope rfl ?_⟩
        refine ⟨_, rfl, rfl, _, rfl, nope rfl ?_⟩
        refine ⟨_, rfl, rfl, _, rfl, yep rfl ?_⟩
        exact ⟨_, rfl, c, _, _, .int n3, rfl, rfl, hc, rfl, _, rfl, a, dx, _, n3, rfl, rfl, a1, a, xs, n3, rfl, ha, mulr_of l1 wx w3 R⟩
      · rw [due3] at R
        refine ⟨_, rfl, rfl, _, rfl, nope rfl ?_⟩
        refine ⟨_, rfl, rfl, _, rfl, nope rfl ?_⟩
        refine ⟨_, rfl, rfl, _, rfl, nope rfl ?_⟩
        refine ⟨_, rfl, rfl, _, rfl, yep rfl ?_⟩
        exact ⟨_, rfl, a, dx, _, rfl, a1, rfl, _, rfl, c, _, _, .int n0, rfl, rfl, hc, rfl, _, rfl, c, _, _, .int n1, rfl, rfl, hc, rfl, _, rfl, c, _, _, .int n2, rfl, rfl, hc, rfl, rfl, rfl, a, xs, n0, n1, n2, rfl, ha, movr_of R⟩
      · rw [due4] at R
        refine ⟨_, rfl, rfl, _, rfl, nope rfl ?_⟩
        refine ⟨_, rfl, rfl, _, rfl, nope rfl ?_⟩
        refine ⟨_, rfl, rfl, _, rfl, nope rfl ?_⟩
        refine ⟨_, rfl, rfl, _, rfl, nope rfl ?_⟩
        refine ⟨_, rfl, rfl, _, rfl, yep rfl ?_⟩
        exact ⟨_, rfl, a, dx, _, rfl, a1, rfl, _, rfl, c, _, _, .int n0, rfl, rfl, hc, rfl, _, rfl, c, _, _, .int n1, rfl, rfl, hc, rfl, a, xs, n0, n1, 1, rfl, ha, movr_of R⟩
      · rw [due5] at R
        refine ⟨_, rfl, rfl, _, rfl, nope rfl ?_⟩
        refine ⟨_, rfl, rfl, _, rfl, nope rfl ?_⟩
        refine ⟨_, rfl, rfl, _, rfl, nope rfl ?_⟩
        refine ⟨_, rfl, rfl, _, rfl, nope rfl ?_⟩
        refine ⟨_, rfl, rfl, _, rfl, nope rfl ?_⟩
        refine ⟨_, rfl, rfl, _, rfl, yep rfl ?_⟩
        exact ⟨_, rfl, _, rfl, a, dx, _, b, dy, _, rfl, rfl, a1, b1, a, b, xs, ys, rfl, ha, hb, alk_of l1 l2 R, fun e => res_of R e⟩
      · rw [due6] at R
        refine ⟨_, rfl, rfl, _, rfl, nope rfl ?_⟩
        refine ⟨_, rfl, rfl, _, rfl, nope rfl ?_⟩
        refine ⟨_, rfl, rfl, _, rfl, nope rfl ?_⟩
        refine ⟨_, rfl, rfl, _, rfl, nope rfl ?_⟩
        refine ⟨_, rfl, rfl, _, rfl, nope rfl ?_⟩
        refine ⟨_, rfl, rfl, _, rfl, nope rfl ?_⟩
        refine ⟨_, rfl, rfl, _, rfl, yep rfl ?_⟩
        exact ⟨_, rfl, a, dx, _, rfl, a1, rfl, _, rfl, a, b, xs, ys, rfl, ha, hb, alk_of l1 l2 R, fun e H' bb s hbb => (same_ans hbb) ▸ res_of R e H' s⟩
      · rw [due7] at R
        refine ⟨_, rfl, rfl, _, rfl, nope rfl ?_⟩
        refine ⟨_, rfl, rfl, _, rfl, nope rfl ?_⟩
        refine ⟨_, rfl, rfl, _, rfl, nope rfl ?_⟩
        refine ⟨_, rfl, rfl, _, rfl, nope rfl ?_⟩
        refine ⟨_, rfl, rfl, _, rfl, nope rfl ?_⟩
        refine ⟨_, rfl, rfl, _, rfl, nope rfl ?_⟩
        refine ⟨_, rfl, rfl, _, rfl, nope rfl ?_⟩
        refine ⟨_, rfl, rfl, _, rfl, yep rfl ?_⟩
        exact ⟨_, rfl, a, dx, _, rfl, a1, rfl, _, rfl, c, _, _, .int n0, rfl, rfl, hc, rfl, _, rfl, c, _, _, .int n1, rfl, rfl, hc, rfl, _, rfl, c, _, _, .int n2, rfl, rfl, hc, rfl, a, xs, n0, n1, n2, rfl, ha, movr_of R⟩
    · refine ⟨_, rfl, rfl, _, rfl, nope rfl ?_⟩
      refine ⟨_, rfl, rfl, _, rfl, nope rfl ?_⟩
      refine ⟨_, rfl, rfl, _, rfl, nope rfl ?_⟩
      refine ⟨_, rfl, rfl, _, rfl, nope rfl ?_⟩
      refine ⟨_, rfl, rfl, _, rfl, nope rfl ?_⟩
      refine ⟨_, rfl, rfl, _, rfl, nope rfl ?_⟩
      refine ⟨_, rfl, rfl, _, rfl, nope rfl ?_⟩
      refine ⟨_, rfl, rfl, _, rfl, nope rfl ?_⟩
      exact ⟨_, rfl, mk_tell (.inl hc) (mkr_of R)⟩
end
end K02

set_option maxRecDepth 100000
set_option maxHeartbeats 4000000
/-! # isinstance(e, (C, D, ..)) in a suite, e an error with a dict -/
namespace L2
open PySem PySem.Spec PyProof.Rows
def rIsDT (K : PySem.W.Frag) (D a : Addr) (d : Option Addr) : List V → Hp → VK → Prop := fun xs H Q => ∃ (tp : Addr) (cs : List V) (ws : List Value) (b : Bool) (dd : Addr) (fs : List (Str × V)), xs = [.ref a, .ref tp] ∧ H tp = some (.tup cs) ∧ Paired ClsV cs ws ∧ d = some dd ∧ H dd = some (.xd fs) ∧ PySem.W.kitAny K (.ref D) ws = some b ∧ Q (.bl b) H
theorem call_isDT {X : Cx} {a D : Addr} {d : Option Addr} {oe : Obj} {pn : List (Addr × Obj)} {cls : Value} (C : ExcC X.K D) (hz : Zc cls d oe) (hf : ∃ vs, oe.data = .fields vs) :
    CallR (X.suite a ((a, oe) :: pn)) (.builtin "isinstance") (fun xs H Q => cls = .ref D ∧ rIsDT X.K D a d xs H Q) := by
  intro pins s σ H xs us Q I r h
  obtain ⟨rfl, tp, cs, ws, b, dd, fs, rfl, hT, k, rfl, ea, e, q⟩ := h
  obtain ⟨u1, u2, rfl, r1, r2⟩ := vals2 r
  cases (show u2 = Value.ref tp from r2)
  cases (show u1 = Value.ref a from r1)
  obtain ⟨_, its, rv, o, h1, h2, n, h3⟩ := (show ObjOk X.prog X.w H s.heap tp (.tup cs) from I.hok tp _ hT)
  have e3 := ClsV.all k rv
  subst e3
  obtain ⟨oc, ot, dt, sl⟩ := o
  simp only at h2 h3
  subst h2 h3
  obtain ⟨hget, _⟩ := I.pin (a, oe) (List.mem_append.mpr (.inl List.mem_cons_self))
  obtain ⟨vs, hv⟩ := hf
  obtain ⟨mA, hns, hr⟩ := (show ObjOk X.prog X.w H s.heap dd (.xd fs) from I.hok dd _ ea)
  obtain ⟨od, ho, _⟩ := lookIn_ns hns
  have J : PySem.W.InstAt s.heap a oe D (some od) := ⟨hget, hz.1, by unfold PySem.W.notCls; rw [hv] <;> rfl, by rw [hz.2]; exact ho⟩
  exact PySem.W.kia_tup (EI.kit_exc C) I.kIn J h1 e (fun z => nomatch z) fun tk => ⟨.bl b, H, I.kept (t' := tk) fun _ _ z => z, rfl, q⟩
theorem kn_nil {K : PySem.W.Frag} {t : Value} : PySem.W.kitAny K t [] = some false := rfl
theorem kn_cons {K : PySem.W.Frag} {t c : Value} {cs : List Value} (h : PySem.W.kitOne K t c = some false) (r : PySem.W.kitAny K t cs = some false) : PySem.W.kitAny K t (c :: cs) = some false := by
  rw [PySem.W.kitAny, h]
  exact r
end L2

set_option maxRecDepth 100000
set_option maxHeartbeats 8000000
namespace K02
open PySem PySem.Spec PyProof.Rows L2
section
variable {w : World} {K : PySem.W.Frag} {mg : Str → Option Value} {base : Heap}
/-- which ways give which -/
def Kind (way : Nat) : Due → Prop
  | .tell _ => way ≠ 5 ∧ way ≠ 6
  | .num _ => way = 5
  | .ans _ => way = 6
  | _ => True
theorem kind_made {way : Nat} {ns : List Int} (h1 : way ≠ 5) (h2 : way ≠ 6) : Kind way (dueMade ns) := by
  unfold dueMade
  split
  · trivial
  · split
    · trivial
    · exact ⟨h1, h2⟩
theorem kind_moved {way : Nat} {ns : List Int} {g t c : Int} (h1 : way ≠ 5) (h2 : way ≠ 6) : Kind way (dueMoved ns g t c) := by
  unfold dueMoved
  split <;> try trivial
  split <;> try trivial
  split <;> try trivial
  split <;> try trivial
  split <;> try trivial
  exact kind_made h1 h2
theorem kind_of {way : Nat} {xs ys : List Int} {n0 n1 n2 n3 : Int} (h : way < 8) : Kind way (dueOf way xs ys n0 n1 n2 n3) := by
  unfold dueOf
  split
  · split
    · trivial
    · exact kind_made (by omega) (by omega)
  split
  · exact kind_moved (by omega) (by omega)
  split
  · exact kind_moved (by omega) (by omega)
  split
  · trivial
  split
  · exact kind_made (by omega) (by omega)
  split
  · assumption
  · show way = 6
    omega
def spTry (K : PySem.W.Frag) : Sp := fun vs H Q _ => ∃ (way : Nat) (a b c : Addr) (xs ys : List Int), vs = [.int (way : Nat), .ref a, .ref b, .ref c] ∧ IsW K H a xs ∧ IsW K H b ys ∧ xs.length ≤ 30 ∧ ys.length ≤ 30 ∧ (∀ n ∈ xs, n.natAbs < 2 ^ 200) ∧
  ((way < 8 ∧ ∃ n0 n1 n2 n3, SqL K H c [.int n0, .int n1, .int n2, .int n3] ∧ n3.natAbs < 2 ^ 200 ∧ ∀ H' z, Same H H' → IsDue K H' z (dueOf way xs ys n0 n1 n2 n3) → Q (.ref z) H') ∨ (way = 8 ∧ ∃ ms : List Int, SqL K H c (ms.map V.int) ∧ ∀ H' z, Same H H' → IsDue K H' z (dueMade ms) → Q (.ref z) H'))
theorem try_tail (T : Tx K mg) (cdv : Value) (A : Around) (outer : List Env) (s : Shared) (H : Hp) (E : XK) :
    ∃ t, PSs (cxOf CX0 PG w K mg base n_law_try "_law_try" (defScope s_law_try) (a_law_try K) cdv A outer s H E) ((defBody s_law_try).drop 3) t ∧
      (∀ (D : Ends) (x1 x2 x3 x4 x6 x7 : Option V) (way : Int) (z : Addr) (H' : Hp) (e : Str) (rest : List V), SqT K H' z (.str e :: rest) → e ≠ "told" → D.rt (.ref z) H' → t D [some (.int way), x1, x2, x3, x4, some (.ref z), x6, x7] H') ∧
      (∀ (D : Ends) (x1 x2 x3 x6 x7 : Option V) (way : Nat) (z : Addr) (v : V) (du : Due) (H' : Hp), SqT K H' z [.str "told"] → ((way = 5 ∧ ∃ n, v = .int n ∧ du = .num n) ∨ (way = 6 ∧ ∃ b, v = .bl b ∧ du = .ans b) ∨ (way ≠ 5 ∧ way ≠ 6 ∧ ∃ p ns, v = .ref p ∧ IsW K H' p ns ∧ du = .tell ns)) → (∀ H2 u, Same H' H2 → IsDue K H2 u du → D.rt (.ref u) H2) → t D [some (.int (way : Nat)), x1, x2, x3, some v, some (.ref z), x6, x7] H') := by
  have nd := sc_law_try.nd
  refine ⟨_, pss_cons (ps_if (pt_cmpR op_ne (pe_ix ix_tup (pv 5) pe_int (fun _ _ => rfl)) pe_str (nomark _)) (pss_one (ps_ret (pv 5))) pss_nil)
    (pss_cons (ps_if (pt_cmpR op_eq (pv 0) pe_int (nomark _)) (pss_one (ps_ret (pe_tup (pa_cons pe_str (pa_cons (pv 4) pa_nil))))) pss_nil)
    (pss_cons (ps_if (pt_cmpR op_eq (pv 0) pe_int (nomark _)) (pss_one (ps_ret (pe_tup (pa_cons pe_str (pa_cons (pv 4) pa_nil))))) pss_nil)
    (pss_cons (ps_if (pt_not (pt_val (pe_callB call_isi (by rfl) T.m_isinstance (by decide +kernel) (pa_cons (pv 4) (pa_cons (pgC T.gTelling) pa_nil))))) (pss_one (ps_ret (pe_tup (pa_cons pe_str pa_nil)))) pss_nil)
    (pss_one (ps_ret (pe_tup (pa_cons pe_str (pa_cons (pe_fld (pv 4) rfl) pa_nil)))))))), ?_, ?_⟩
  · intro D x1 x2 x3 x4 x6 x7 way z H' e rest hz ne q
    refine ⟨_, rfl, z, _, 0, .str e, rfl, rfl, hz, atI_nat (j := 0) rfl, rfl, _, rfl, yep (by simp [ne]) ?_⟩
    exact ⟨_, rfl, q⟩
  · intro D x1 x2 x3 x6 x7 way z v du H' hz hv q
    have two : 2 ≤ sizeLine := by decide
    refine ⟨_, rfl, z, _, 0, .str "told", rfl, rfl, hz, rfl, rfl, _, rfl, nope (by simp) ?_⟩
    rcases hv with ⟨rfl, n, rfl, rfl⟩ | ⟨rfl, b, rfl, rfl⟩ | ⟨w5, w6, p, ns, rfl, hp, rfl⟩
    · refine ⟨_, rfl, rfl, _, rfl, yep rfl ?_⟩
      exact ⟨_, rfl, two, fun u hu => q _ u (.new hu) (SqT.of upd_same)⟩
    · refine ⟨_, rfl, rfl, _, rfl, nope rfl ?_⟩
      refine ⟨_, rfl, rfl, _, rfl, yep rfl ?_⟩
      exact ⟨_, rfl, two, fun u hu => q _ u (.new hu) (SqT.of upd_same)⟩
    · obtain ⟨dx, t, h1, h2⟩ := id hp
      refine ⟨_, rfl, rfl, _, rfl, nope (by simpa using fun z => w5 (by omega)) ?_⟩
      refine ⟨_, rfl, rfl, _, rfl, nope (by simpa using fun z => w6 (by omega)) ?_⟩
      refine ⟨_, rfl, _, _, _, _, true, rfl, .own _, tyW T hp, T.kTelling_Telling, _, rfl, nope rfl ?_⟩
      exact ⟨_, rfl, p, _, dx, _, _, rfl, h1, T.cTelling, T.nTelling_entries, rfl, two, fun u hu => q _ u (.new hu) ⟨t, SqT.of upd_same, (Same.new hu).seqT h2⟩⟩
theorem ok_law_try (T : Tx K mg) : Ok PG w K mg base CX0 12 (a_law_try K) p_law_try (spTry K) := by
  refine Ok.of 11 T.f_law_try sc_law_try bi_law_try (by decide) (fun vs H Q E h => ?_) (fun cdv A outer s H vs Q E hr h => ?_)
  · obtain ⟨_, _, _, _, _, _, rfl, _⟩ := h
    rfl
  · obtain ⟨way, a, b, c, xs, ys, rfl, ha, hb, l1, l2, wx, hway⟩ := h
    have nd := sc_law_try.nd
    obtain ⟨tl, dl, rl1, rl2⟩ := try_tail (w := w) (base := base) T cdv A outer s H E
    refine ⟨_, pss_cons (ps_set (i := 4) nd rfl (.inl rfl) pe_non)
      (pss_cons (ps_set (i := 5) nd rfl (.inl rfl) (pe_tup (pa_cons pe_str pa_nil)))
      (pss_cons (ps_try_any rfl rfl nd takes0
          (fun W pn xe tk _ => pss_one (ps_set (i := 4) nd rfl (.inl rfl) (pcS (ok_law_worked T) (hr.mono (by decide)) T.g_law_worked (fun σ => passAt tk σ) (pa_cons (pv 0) (pa_cons (pv 1) (pa_cons (pv 2) (pa_cons (pv 3) pa_nil)))))))
          (.as (i := 6) ⟨rfl, by decide, .inl T.e_WrongLength.gC⟩ rfl rfl
            (fun a oe cls d pn hz hf => pss_cons (ps_set (i := 7) nd rfl (.inl rfl) (pe_callB (call_isDT T.xWrongLength.2 hz hf) (by rfl) T.m_isinstance (by decide +kernel) (pa_cons (pv 6) (pa_cons (pe_tup (pa_cons (pgC T.e_BadNumber.gC) (pa_cons (pgC T.e_NamedTwice.gC) (pa_cons (pgC T.e_NoPerson.gC) (pa_cons (pgC T.e_TooLong.gC) pa_nil))))) pa_nil)))) (pss_one (ps_set (i := 5) nd rfl (.inl rfl) (pe_tup (pa_cons pe_str (pa_cons (pe_xf T.xWrongLength.1 T.nWrongLength_found hz hf (pv 6)) (pa_cons (pe_xf T.xWrongLength.1 T.nWrongLength_wanted hz hf (pv 6)) (pa_cons (pe_and (pe_callB (call_isD T.xWrongLength.2 hz hf) (by rfl) T.m_isinstance (by decide +kernel) (pa_cons (pv 6) (pa_cons (pgC T.gNightsError) pa_nil))) (pe_one (pe_callB (call_isD T.xWrongLength.2 hz hf) (by rfl) T.m_isinstance (by decide +kernel) (pa_cons (pv 6) (pa_cons (pe_bltn (v := .ty "ValueError") (by rfl) T.m_ValueError (by decide +kernel) rfl) pa_nil))))) (pa_cons (pv 7) pa_nil)))))))))
          (.as (i := 6) ⟨rfl, by decide, .inl T.e_BadNumber.gC⟩ rfl rfl
            (fun a oe cls d pn hz hf => pss_cons (ps_set (i := 7) nd rfl (.inl rfl) (pe_callB (call_isDT T.xBadNumber.2 hz hf) (by rfl) T.m_isinstance (by decide +kernel) (pa_cons (pv 6) (pa_cons (pe_tup (pa_cons (pgC T.e_NamedTwice.gC) (pa_cons (pgC T.e_NoPerson.gC) (pa_cons (pgC T.e_TooLong.gC) pa_nil)))) pa_nil)))) (pss_one (ps_set (i := 5) nd rfl (.inl rfl) (pe_tup (pa_cons pe_str (pa_cons (pe_xf T.xBadNumber.1 T.nBadNumber_place hz hf (pv 6)) (pa_cons (pe_xf T.xBadNumber.1 T.nBadNumber_number hz hf (pv 6)) (pa_cons (pe_and (pe_callB (call_isD T.xBadNumber.2 hz hf) (by rfl) T.m_isinstance (by decide +kernel) (pa_cons (pv 6) (pa_cons (pgC T.gNightsError) pa_nil))) (pe_one (pe_callB (call_isD T.xBadNumber.2 hz hf) (by rfl) T.m_isinstance (by decide +kernel) (pa_cons (pv 6) (pa_cons (pe_bltn (v := .ty "ValueError") (by rfl) T.m_ValueError (by decide +kernel) rfl) pa_nil))))) (pa_cons (pv 7) pa_nil)))))))))
          (.as (i := 6) ⟨rfl, by decide, .inl T.e_NamedTwice.gC⟩ rfl rfl
            (fun a oe cls d pn hz hf => pss_cons (ps_set (i := 7) nd rfl (.inl rfl) (pe_callB (call_isDT T.xNamedTwice.2 hz hf) (by rfl) T.m_isinstance (by decide +kernel) (pa_cons (pv 6) (pa_cons (pe_tup (pa_cons (pgC T.e_NoPerson.gC) (pa_cons (pgC T.e_TooLong.gC) pa_nil))) pa_nil)))) (pss_one (ps_set (i := 5) nd rfl (.inl rfl) (pe_tup (pa_cons pe_str (pa_cons (pe_xf T.xNamedTwice.1 T.nNamedTwice_person hz hf (pv 6)) (pa_cons (pe_and (pe_callB (call_isD T.xNamedTwice.2 hz hf) (by rfl) T.m_isinstance (by decide +kernel) (pa_cons (pv 6) (pa_cons (pgC T.gNightsError) pa_nil))) (pe_one (pe_callB (call_isD T.xNamedTwice.2 hz hf) (by rfl) T.m_isinstance (by decide +kernel) (pa_cons (pv 6) (pa_cons (pe_bltn (v := .ty "ValueError") (by rfl) T.m_ValueError (by decide +kernel) rfl) pa_nil))))) (pa_cons (pv 7) pa_nil))))))))
          (.as (i := 6) ⟨rfl, by decide, .inl T.e_NoPerson.gC⟩ rfl rfl
            (fun a oe cls d pn hz hf => pss_one (ps_set (i := 5) nd rfl (.inl rfl) (pe_tup (pa_cons pe_str (pa_cons (pe_xf T.xNoPerson.1 T.nNoPerson_person hz hf (pv 6)) (pa_cons (pe_and (pe_callB (call_isD T.xNoPerson.2 hz hf) (by rfl) T.m_isinstance (by decide +kernel) (pa_cons (pv 6) (pa_cons (pgC T.gNightsError) pa_nil))) (pe_one (pe_callB (call_isD T.xNoPerson.2 hz hf) (by rfl) T.m_isinstance (by decide +kernel) (pa_cons (pv 6) (pa_cons (pe_bltn (v := .ty "ValueError") (by rfl) T.m_ValueError (by decide +kernel) rfl) pa_nil))))) (pa_cons (pe_callB (call_isD T.xNoPerson.2 hz hf) (by rfl) T.m_isinstance (by decide +kernel) (pa_cons (pv 6) (pa_cons (pgC T.e_TooLong.gC) pa_nil))) pa_nil)))))))
          (.as (i := 6) ⟨rfl, by decide, .inl T.e_TooLong.gC⟩ rfl rfl
            (fun a oe cls d pn hz hf => pss_one (ps_set (i := 5) nd rfl (.inl rfl) (pe_tup (pa_cons pe_str (pa_cons (pe_xf T.xTooLong.1 T.nTooLong_count hz hf (pv 6)) (pa_cons (pe_and (pe_callB (call_isD T.xTooLong.2 hz hf) (by rfl) T.m_isinstance (by decide +kernel) (pa_cons (pv 6) (pa_cons (pgC T.gNightsError) pa_nil))) (pe_one (pe_callB (call_isD T.xTooLong.2 hz hf) (by rfl) T.m_isinstance (by decide +kernel) (pa_cons (pv 6) (pa_cons (pe_bltn (v := .ty "ValueError") (by rfl) T.m_ValueError (by decide +kernel) rfl) pa_nil))))) (pa_cons pe_bl pa_nil)))))))
          .nil))))))
      dl)), ?_⟩
    refine ⟨by show 1 ≤ sizeLine; decide, fun wd hwd => ?_⟩
    have s1 : Same H (upd H wd (.tup [.str "told"])) := .new hwd
    refine ⟨_, rfl, _, rfl, _, rfl, _, rfl, way, a, b, c, xs, ys, rfl, ha.same s1, hb.same s1, l1, l2, wx, ?_⟩
    have hk : (way < 8 → ∀ n0 n1 n2 n3, Kind way (dueOf way xs ys n0 n1 n2 n3)) ∧ (way = 8 → ∀ ms, Kind way (dueMade ms)) := ⟨fun h n0 n1 n2 n3 => kind_of h, fun h ms => by rw [h]; exact kind_made (by decide) (by decide)⟩
    rcases hway with ⟨hw, n0, n1, n2, n3, hc, w3, q⟩ | ⟨hw, ms, hc, q⟩
    · refine .inl ⟨hw, n0, n1, n2, n3, s1.seq hc, w3, ?_⟩
      have hk := hk.1 hw n0 n1 n2 n3
      generalize dueOf way xs ys n0 n1 n2 n3 = du at q hk ⊢
      cases du with
      | tell ns =>
        intro H' p sm hp
        exact rl2 _ _ _ _ _ _ way wd _ (.tell ns) _ (sm.seqT (SqT.of upd_same)) (.inr (.inr ⟨hk.1, hk.2, p, ns, rfl, hp, rfl⟩)) (fun H2 u s2 hu => q H2 u ((s1.trans sm).trans s2) hu)
      | num n =>
        intro H' sm
        exact rl2 _ _ _ _ _ _ way wd _ (.num n) _ (sm.seqT (SqT.of upd_same)) (.inl ⟨hk, n, rfl, rfl⟩) (fun H2 u s2 hu => q H2 u ((s1.trans sm).trans s2) hu)
      | ans b =>
        intro H' sm
        exact rl2 _ _ _ _ _ _ way wd _ (.ans b) _ (sm.seqT (SqT.of upd_same)) (.inr (.inl ⟨hk, b, rfl, rfl⟩)) (fun H2 u s2 hu => q H2 u ((s1.trans sm).trans s2) hu)
      | long n =>
        intro H' d sm hd
        have s2 : Same H (upd H' d (xT n)) := (s1.trans sm).new' hd
        refine ⟨false, T.mTooLong_WrongLength, ⟨fun z => Bool.noConfusion z, fun _ => ⟨false, T.mTooLong_BadNumber, ⟨fun z => Bool.noConfusion z, fun _ => ⟨false, T.mTooLong_NamedTwice, ⟨fun z => Bool.noConfusion z, fun _ => ⟨false, T.mTooLong_NoPerson, ⟨fun z => Bool.noConfusion z, fun _ => ⟨true, T.mTooLong_TooLong, fun _ e he => ?_, fun z => nomatch z⟩⟩⟩⟩⟩⟩⟩⟩⟩
        refine ⟨_, rfl, rfl, rfl, d, _, _, rfl, upd_same, rfl, ?_⟩
        refine ⟨_, rfl, rfl, _, _, true, d, _, rfl, fun u r => r, rfl, upd_same, T.kTooLong_NightsError, _, rfl, yep rfl ?_⟩
        refine ⟨_, rfl, rfl, _, _, true, d, _, rfl, fun u r => r, rfl, upd_same, T.kTooLong_ValueError, ?_⟩
        refine ⟨by show 4 ≤ sizeLine; decide, fun w2 hw2 => ?_⟩
        exact rl1 _ _ _ _ _ _ _ _ w2 _ "TooLong" _ (SqT.of upd_same) (by decide) (q _ w2 (s2.new' hw2) (SqT.of upd_same))
      | bad i n =>
        intro H' d sm hd
        have s2 : Same H (upd H' d (xB i n)) := (s1.trans sm).new' hd
        refine ⟨false, T.mBadNumber_WrongLength, ⟨fun z => Bool.noConfusion z, fun _ => ⟨true, T.mBadNumber_BadNumber, fun _ e he => ?_, fun z => nomatch z⟩⟩⟩
        refine ⟨_, rfl, by show 3 ≤ sizeLine; decide, fun tp htp => ⟨rfl, tp, _, _, false, d, _, rfl, upd_same, (.cons (.own _) (.cons (.own _) (.cons (.own _) .nil))), rfl, Same.new htp _ _ upd_same, (kn_cons T.kBadNumber_NamedTwice (kn_cons T.kBadNumber_NoPerson (kn_cons T.kBadNumber_TooLong kn_nil))), ?_⟩⟩
        have s3 := s2.new' (o := .tup [.ref (c_NamedTwice K), .ref (c_NoPerson K), .ref (c_TooLong K)]) htp
        refine ⟨_, rfl, rfl, rfl, d, _, _, rfl, (Same.new htp _ _ upd_same), rfl, ?_⟩
        refine ⟨_, rfl, rfl, rfl, d, _, _, rfl, (Same.new htp _ _ upd_same), rfl, ?_⟩
        refine ⟨_, rfl, rfl, _, _, true, d, _, rfl, fun u r => r, rfl, (Same.new htp _ _ upd_same), T.kBadNumber_NightsError, _, rfl, yep rfl ?_⟩
        refine ⟨_, rfl, rfl, _, _, true, d, _, rfl, fun u r => r, rfl, (Same.new htp _ _ upd_same), T.kBadNumber_ValueError, ?_⟩
        refine ⟨_, rfl, ?_⟩
        refine ⟨by show 5 ≤ sizeLine; decide, fun w2 hw2 => ?_⟩
        exact rl1 _ _ _ _ _ _ _ _ w2 _ "BadNumber" _ (SqT.of upd_same) (by decide) (q _ w2 (s3.new' hw2) (SqT.of upd_same))
      | twice i =>
        intro H' d sm hd
        have s2 : Same H (upd H' d (xP i)) := (s1.trans sm).new' hd
        refine ⟨false, T.mNamedTwice_WrongLength, ⟨fun z => Bool.noConfusion z, fun _ => ⟨false, T.mNamedTwice_BadNumber, ⟨fun z => Bool.noConfusion z, fun _ => ⟨true, T.mNamedTwice_NamedTwice, fun _ e he => ?_, fun z => nomatch z⟩⟩⟩⟩⟩
        refine ⟨_, rfl, by show 2 ≤ sizeLine; decide, fun tp htp => ⟨rfl, tp, _, _, false, d, _, rfl, upd_same, (.cons (.own _) (.cons (.own _) .nil)), rfl, Same.new htp _ _ upd_same, (kn_cons T.kNamedTwice_NoPerson (kn_cons T.kNamedTwice_TooLong kn_nil)), ?_⟩⟩
        have s3 := s2.new' (o := .tup [.ref (c_NoPerson K), .ref (c_TooLong K)]) htp
        refine ⟨_, rfl, rfl, rfl, d, _, _, rfl, (Same.new htp _ _ upd_same), rfl, ?_⟩
        refine ⟨_, rfl, rfl, _, _, true, d, _, rfl, fun u r => r, rfl, (Same.new htp _ _ upd_same), T.kNamedTwice_NightsError, _, rfl, yep rfl ?_⟩
        refine ⟨_, rfl, rfl, _, _, true, d, _, rfl, fun u r => r, rfl, (Same.new htp _ _ upd_same), T.kNamedTwice_ValueError, ?_⟩
        refine ⟨_, rfl, ?_⟩
        refine ⟨by show 4 ≤ sizeLine; decide, fun w2 hw2 => ?_⟩
        exact rl1 _ _ _ _ _ _ _ _ w2 _ "NamedTwice" _ (SqT.of upd_same) (by decide) (q _ w2 (s3.new' hw2) (SqT.of upd_same))
      | noP i =>
        intro H' d sm hd
        have s2 : Same H (upd H' d (xP i)) := (s1.trans sm).new' hd
        refine ⟨false, T.mNoPerson_WrongLength, ⟨fun z => Bool.noConfusion z, fun _ => ⟨false, T.mNoPerson_BadNumber, ⟨fun z => Bool.noConfusion z, fun _ => ⟨false, T.mNoPerson_NamedTwice, ⟨fun z => Bool.noConfusion z, fun _ => ⟨true, T.mNoPerson_NoPerson, fun _ e he => ?_, fun z => nomatch z⟩⟩⟩⟩⟩⟩⟩
        refine ⟨_, rfl, rfl, rfl, d, _, _, rfl, upd_same, rfl, ?_⟩
        refine ⟨_, rfl, rfl, _, _, true, d, _, rfl, fun u r => r, rfl, upd_same, T.kNoPerson_NightsError, _, rfl, yep rfl ?_⟩
        refine ⟨_, rfl, rfl, _, _, true, d, _, rfl, fun u r => r, rfl, upd_same, T.kNoPerson_ValueError, ?_⟩
        refine ⟨_, rfl, rfl, _, _, false, d, _, rfl, fun u r => r, rfl, upd_same, T.kNoPerson_TooLong, ?_⟩
        refine ⟨by show 4 ≤ sizeLine; decide, fun w2 hw2 => ?_⟩
        exact rl1 _ _ _ _ _ _ _ _ w2 _ "NoPerson" _ (SqT.of upd_same) (by decide) (q _ w2 (s2.new' hw2) (SqT.of upd_same))
      | wrongL f w =>
        intro H' d sm hd
        have s2 : Same H (upd H' d (xL f w)) := (s1.trans sm).new' hd
        refine ⟨true, T.mWrongLength_WrongLength, fun _ e he => ?_, fun z => nomatch z⟩
        refine ⟨_, rfl, by show 4 ≤ sizeLine; decide, fun tp htp => ⟨rfl, tp, _, _, false, d, _, rfl, upd_same, (.cons (.own _) (.cons (.own _) (.cons (.own _) (.cons (.own _) .nil)))), rfl, Same.new htp _ _ upd_same, (kn_cons T.kWrongLength_BadNumber (kn_cons T.kWrongLength_NamedTwice (kn_cons T.kWrongLength_NoPerson (kn_cons T.kWrongLength_TooLong kn_nil)))), ?_⟩⟩
        have s3 := s2.new' (o := .tup [.ref (c_BadNumber K), .ref (c_NamedTwice K), .ref (c_NoPerson K), .ref (c_TooLong K)]) htp
        refine ⟨_, rfl, rfl, rfl, d, _, _, rfl, (Same.new htp _ _ upd_same), rfl, ?_⟩
        refine ⟨_, rfl, rfl, rfl, d, _, _, rfl, (Same.new htp _ _ upd_same), rfl, ?_⟩
        refine ⟨_, rfl, rfl, _, _, true, d, _, rfl, fun u r => r, rfl, (Same.new htp _ _ upd_same), T.kWrongLength_NightsError, _, rfl, yep rfl ?_⟩
        refine ⟨_, rfl, rfl, _, _, true, d, _, rfl, fun u r => r, rfl, (Same.new htp _ _ upd_same), T.kWrongLength_ValueError, ?_⟩
        refine ⟨_, rfl, ?_⟩
        refine ⟨by show 5 ≤ sizeLine; decide, fun w2 hw2 => ?_⟩
        exact rl1 _ _ _ _ _ _ _ _ w2 _ "WrongLength" _ (SqT.of upd_same) (by decide) (q _ w2 (s3.new' hw2) (SqT.of upd_same))
    · refine .inr ⟨hw, ms, s1.seq hc, ?_⟩
      have hk := hk.2 hw ms
      generalize dueMade ms = du at q hk ⊢
      cases du with
      | tell ns =>
        intro H' p sm hp
        exact rl2 _ _ _ _ _ _ way wd _ (.tell ns) _ (sm.seqT (SqT.of upd_same)) (.inr (.inr ⟨hk.1, hk.2, p, ns, rfl, hp, rfl⟩)) (fun H2 u s2 hu => q H2 u ((s1.trans sm).trans s2) hu)
      | num n =>
        intro H' sm
        exact rl2 _ _ _ _ _ _ way wd _ (.num n) _ (sm.seqT (SqT.of upd_same)) (.inl ⟨hk, n, rfl, rfl⟩) (fun H2 u s2 hu => q H2 u ((s1.trans sm).trans s2) hu)
      | ans b =>
        intro H' sm
        exact rl2 _ _ _ _ _ _ way wd _ (.ans b) _ (sm.seqT (SqT.of upd_same)) (.inr (.inl ⟨hk, b, rfl, rfl⟩)) (fun H2 u s2 hu => q H2 u ((s1.trans sm).trans s2) hu)
      | long n =>
        intro H' d sm hd
        have s2 : Same H (upd H' d (xT n)) := (s1.trans sm).new' hd
        refine ⟨false, T.mTooLong_WrongLength, ⟨fun z => Bool.noConfusion z, fun _ => ⟨false, T.mTooLong_BadNumber, ⟨fun z => Bool.noConfusion z, fun _ => ⟨false, T.mTooLong_NamedTwice, ⟨fun z => Bool.noConfusion z, fun _ => ⟨false, T.mTooLong_NoPerson, ⟨fun z => Bool.noConfusion z, fun _ => ⟨true, T.mTooLong_TooLong, fun _ e he => ?_, fun z => nomatch z⟩⟩⟩⟩⟩⟩⟩⟩⟩
        refine ⟨_, rfl, rfl, rfl, d, _, _, rfl, upd_same, rfl, ?_⟩
        refine ⟨_, rfl, rfl, _, _, true, d, _, rfl, fun u r => r, rfl, upd_same, T.kTooLong_NightsError, _, rfl, yep rfl ?_⟩
        refine ⟨_, rfl, rfl, _, _, true, d, _, rfl, fun u r => r, rfl, upd_same, T.kTooLong_ValueError, ?_⟩
        refine ⟨by show 4 ≤ sizeLine; decide, fun w2 hw2 => ?_⟩
        exact rl1 _ _ _ _ _ _ _ _ w2 _ "TooLong" _ (SqT.of upd_same) (by decide) (q _ w2 (s2.new' hw2) (SqT.of upd_same))
      | bad i n =>
        intro H' d sm hd
        have s2 : Same H (upd H' d (xB i n)) := (s1.trans sm).new' hd
        refine ⟨false, T.mBadNumber_WrongLength, ⟨fun z => Bool.noConfusion z, fun _ => ⟨true, T.mBadNumber_BadNumber, fun _ e he => ?_, fun z => nomatch z⟩⟩⟩
        refine ⟨_, rfl, by show 3 ≤ sizeLine; decide, fun tp htp => ⟨rfl, tp, _, _, false, d, _, rfl, upd_same, (.cons (.own _) (.cons (.own _) (.cons (.own _) .nil))), rfl, Same.new htp _ _ upd_same, (kn_cons T.kBadNumber_NamedTwice (kn_cons T.kBadNumber_NoPerson (kn_cons T.kBadNumber_TooLong kn_nil))), ?_⟩⟩
        have s3 := s2.new' (o := .tup [.ref (c_NamedTwice K), .ref (c_NoPerson K), .ref (c_TooLong K)]) htp
        refine ⟨_, rfl, rfl, rfl, d, _, _, rfl, (Same.new htp _ _ upd_same), rfl, ?_⟩
        refine ⟨_, rfl, rfl, rfl, d, _, _, rfl, (Same.new htp _ _ upd_same), rfl, ?_⟩
        refine ⟨_, rfl, rfl, _, _, true, d, _, rfl, fun u r => r, rfl, (Same.new htp _ _ upd_same), T.kBadNumber_NightsError, _, rfl, yep rfl ?_⟩
        refine ⟨_, rfl, rfl, _, _, true, d, _, rfl, fun u r => r, rfl, (Same.new htp _ _ upd_same), T.kBadNumber_ValueError, ?_⟩
        refine ⟨_, rfl, ?_⟩
        refine ⟨by show 5 ≤ sizeLine; decide, fun w2 hw2 => ?_⟩
        exact rl1 _ _ _ _ _ _ _ _ w2 _ "BadNumber" _ (SqT.of upd_same) (by decide) (q _ w2 (s3.new' hw2) (SqT.of upd_same))
      | twice i =>
        intro H' d sm hd
        have s2 : Same H (upd H' d (xP i)) := (s1.trans sm).new' hd
        refine ⟨false, T.mNamedTwice_WrongLength, ⟨fun z => Bool.noConfusion z, fun _ => ⟨false, T.mNamedTwice_BadNumber, ⟨fun z => Bool.noConfusion z, fun _ => ⟨true, T.mNamedTwice_NamedTwice, fun _ e he => ?_, fun z => nomatch z⟩⟩⟩⟩⟩
        refine ⟨_, rfl, by show 2 ≤ sizeLine; decide, fun tp htp => ⟨rfl, tp, _, _, false, d, _, rfl, upd_same, (.cons (.own _) (.cons (.own _) .nil)), rfl, Same.new htp _ _ upd_same, (kn_cons T.kNamedTwice_NoPerson (kn_cons T.kNamedTwice_TooLong kn_nil)), ?_⟩⟩
        have s3 := s2.new' (o := .tup [.ref (c_NoPerson K), .ref (c_TooLong K)]) htp
        refine ⟨_, rfl, rfl, rfl, d, _, _, rfl, (Same.new htp _ _ upd_same), rfl, ?_⟩
        refine ⟨_, rfl, rfl, _, _, true, d, _, rfl, fun u r => r, rfl, (Same.new htp _ _ upd_same), T.kNamedTwice_NightsError, _, rfl, yep rfl ?_⟩
        refine ⟨_, rfl, rfl, _, _, true, d, _, rfl, fun u r => r, rfl, (Same.new htp _ _ upd_same), T.kNamedTwice_ValueError, ?_⟩
        refine ⟨_, rfl, ?_⟩
        refine ⟨by show 4 ≤ sizeLine; decide, fun w2 hw2 => ?_⟩
        exact rl1 _ _ _ _ _ _ _ _ w2 _ "NamedTwice" _ (SqT.of upd_same) (by decide) (q _ w2 (s3.new' hw2) (SqT.of upd_same))
      | noP i =>
        intro H' d sm hd
        have s2 : Same H (upd H' d (xP i)) := (s1.trans sm).new' hd
        refine ⟨false, T.mNoPerson_WrongLength, ⟨fun z => Bool.noConfusion z, fun _ => ⟨false, T.mNoPerson_BadNumber, ⟨fun z => Bool.noConfusion z, fun _ => ⟨false, T.mNoPerson_NamedTwice, ⟨fun z => Bool.noConfusion z, fun _ => ⟨true, T.mNoPerson_NoPerson, fun _ e he => ?_, fun z => nomatch z⟩⟩⟩⟩⟩⟩⟩
        refine ⟨_, rfl, rfl, rfl, d, _, _, rfl, upd_same, rfl, ?_⟩
        refine ⟨_, rfl, rfl, _, _, true, d, _, rfl, fun u r => r, rfl, upd_same, T.kNoPerson_NightsError, _, rfl, yep rfl ?_⟩
        refine ⟨_, rfl, rfl, _, _, true, d, _, rfl, fun u r => r, rfl, upd_same, T.kNoPerson_ValueError, ?_⟩
        refine ⟨_, rfl, rfl, _, _, false, d, _, rfl, fun u r => r, rfl, upd_same, T.kNoPerson_TooLong, ?_⟩
        refine ⟨by show 4 ≤ sizeLine; decide, fun w2 hw2 => ?_⟩
        exact rl1 _ _ _ _ _ _ _ _ w2 _ "NoPerson" _ (SqT.of upd_same) (by decide) (q _ w2 (s2.new' hw2) (SqT.of upd_same))
      | wrongL f w =>
        intro H' d sm hd
        have s2 : Same H (upd H' d (xL f w)) := (s1.trans sm).new' hd
        refine ⟨true, T.mWrongLength_WrongLength, fun _ e he => ?_, fun z => nomatch z⟩
        refine ⟨_, rfl, by show 4 ≤ sizeLine; decide, fun tp htp => ⟨rfl, tp, _, _, false, d, _, rfl, upd_same, (.cons (.own _) (.cons (.own _) (.cons (.own _) (.cons (.own _) .nil)))), rfl, Same.new htp _ _ upd_same, (kn_cons T.kWrongLength_BadNumber (kn_cons T.kWrongLength_NamedTwice (kn_cons T.kWrongLength_NoPerson (kn_cons T.kWrongLength_TooLong kn_nil)))), ?_⟩⟩
        have s3 := s2.new' (o := .tup [.ref (c_BadNumber K), .ref (c_NamedTwice K), .ref (c_NoPerson K), .ref (c_TooLong K)]) htp
        refine ⟨_, rfl, rfl, rfl, d, _, _, rfl, (Same.new htp _ _ upd_same), rfl, ?_⟩
        refine ⟨_, rfl, rfl, rfl, d, _, _, rfl, (Same.new htp _ _ upd_same), rfl, ?_⟩
        refine ⟨_, rfl, rfl, _, _, true, d, _, rfl, fun u r => r, rfl, (Same.new htp _ _ upd_same), T.kWrongLength_NightsError, _, rfl, yep rfl ?_⟩
        refine ⟨_, rfl, rfl, _, _, true, d, _, rfl, fun u r => r, rfl, (Same.new htp _ _ upd_same), T.kWrongLength_ValueError, ?_⟩
        refine ⟨_, rfl, ?_⟩
        refine ⟨by show 5 ≤ sizeLine; decide, fun w2 hw2 => ?_⟩
        exact rl1 _ _ _ _ _ _ _ _ w2 _ "WrongLength" _ (SqT.of upd_same) (by decide) (q _ w2 (s3.new' hw2) (SqT.of upd_same))
end
end K02

set_option maxRecDepth 100000
set_option maxHeartbeats 8000000
namespace L2
open PySem PySem.Spec PyProof.Rows
/-- one of two readings of an operator -/
theorem opr_or {X : Cx} {f : Value → Value → Sem Value} {r r' : R2} (h : OpR X f r) (h' : OpR X f r') : OpR X f (fun x y H Q => r x y H Q ∨ r' x y H Q) := by
  intro pins s σ H x y v u Q I rx ry q
  rcases q with q | q
  · exact h pins s σ H x y v u Q I rx ry q
  · exact h' pins s σ H x y v u Q I rx ry q
end L2
namespace K02
open PySem PySem.Spec PyProof.Rows L2
section
variable {w : World} {K : PySem.W.Frag} {mg : Str → Option Value} {base : Heap}
def spTryP (K : PySem.W.Frag) : Sp := fun vs H Q _ => ∃ (p : Addr) (ns : List Int) (i : Int), vs = [.ref p, .int i] ∧ IsW K H p ns ∧
  (¬ (0 ≤ i ∧ i < ns.length) → ∀ H' t, Same H H' → SqT K H' t [.str "NoPerson", .int i, .bl true, .bl false] → Q (.ref t) H') ∧
  (∀ j n, i = ((j : Nat) : Int) → ns[j]? = some n → ∀ H' t, Same H H' → SqT K H' t [.str "entry", .int n] → Q (.ref t) H')
theorem ok_law_try_person (T : Tx K mg) : Ok PG w K mg base CX0 7 (a_law_try_person K) p_law_try_person (spTryP K) := by
  refine Ok.of 6 T.f_law_try_person sc_law_try_person bi_law_try_person (by decide) (fun vs H Q E h => ?_) (fun cdv A outer s H vs Q E hr h => ?_)
  · obtain ⟨_, _, _, rfl, _⟩ := h
    rfl
  · obtain ⟨p, ns, i, rfl, hp, q1, q2⟩ := h
    obtain ⟨dx, t, h1, h2⟩ := id hp
    have nd := sc_law_try_person.nd
    refine ⟨_, pss_cons (ps_set (i := 2) nd rfl (.inl rfl) pe_non)
      (pss_cons (ps_set (i := 3) nd rfl (.inl rfl) (pe_tup (pa_cons pe_str pa_nil)))
      (pss_cons (ps_try_any rfl rfl nd takes0
          (fun W pn xe tk _ => pss_one (ps_set (i := 2) nd rfl (.inl rfl) (peOwnIx (ok_Telling_getitem T) T.iTelling_getitem (hr.mono (by decide)) (fun σ => passAt tk σ) (pv 0) (pv 1))))
          (.as (i := 4) ⟨rfl, by decide, .inl T.e_NoPerson.gC⟩ rfl rfl
            (fun a oe cls d pn hz hf => pss_one (ps_set (i := 3) nd rfl (.inl rfl) (pe_tup (pa_cons pe_str (pa_cons (pe_xf T.xNoPerson.1 T.nNoPerson_person hz hf (pv 4))
              (pa_cons (pe_callB (call_isD T.xNoPerson.2 hz hf) (by rfl) T.m_isinstance (by decide +kernel) (pa_cons (pv 4) (pa_cons (pgC T.gNightsError) pa_nil)))
              (pa_cons (pe_callB (call_isDT T.xNoPerson.2 hz hf) (by rfl) T.m_isinstance (by decide +kernel) (pa_cons (pv 4) (pa_cons (pe_tup (pa_cons (pgC T.e_BadNumber.gC) (pa_cons (pgC T.e_WrongLength.gC) pa_nil))) pa_nil))) pa_nil)))))))
          .nil))
      (pss_cons (ps_if (pt_cmpR op_eq (pe_ix ix_tup (pv 3) pe_int (fun _ _ => rfl)) pe_str (nomark _)) (pss_one (ps_ret (pe_tup (pa_cons pe_str (pa_cons (pv 2) pa_nil))))) pss_nil)
      (pss_one (ps_ret (pv 3)))))), ?_⟩
    refine ⟨by show 1 ≤ sizeLine; decide, fun wd hwd => ?_⟩
    have s1 : Same H (upd H wd (.tup [.str "entry"])) := .new hwd
    refine ⟨_, rfl, _, rfl, p, dx, _, i, rfl, rfl, s1 _ _ h1, p, ns, i, rfl, hp.same s1, fun c => ?_, fun j n e hn => ?_⟩
    · intro H' d sm hd
      have s2 : Same H (upd H' d (xP i)) := (s1.trans sm).new' hd
      refine ⟨true, T.mNoPerson_NoPerson, fun _ e he => ?_, fun z => nomatch z⟩
      refine ⟨_, rfl, rfl, rfl, d, _, _, rfl, upd_same, rfl, ?_⟩
      refine ⟨_, rfl, rfl, _, _, true, d, _, rfl, fun u r => r, rfl, upd_same, T.kNoPerson_NightsError, ?_⟩
      refine ⟨_, rfl, by show 2 ≤ sizeLine; decide, fun tp htp => ⟨rfl, tp, _, _, false, d, _, rfl, upd_same, .cons (.own _) (.cons (.own _) .nil), rfl, Same.new htp _ _ upd_same, kn_cons T.kNoPerson_BadNumber (kn_cons T.kNoPerson_WrongLength kn_nil), ?_⟩⟩
      have s3 := s2.new' (o := .tup [.ref (c_BadNumber K), .ref (c_WrongLength K)]) htp
      refine ⟨by show 4 ≤ sizeLine; decide, fun w2 hw2 => ?_⟩
      refine ⟨_, rfl, w2, _, 0, .str "NoPerson", rfl, rfl, SqT.of upd_same, atI_nat (j := 0) rfl, rfl, _, rfl, nope (by decide) ?_⟩
      exact ⟨_, rfl, q1 c _ w2 (s3.new' hw2) (SqT.of upd_same)⟩
    · refine ⟨_, rfl, wd, _, 0, .str "entry", rfl, rfl, SqT.of upd_same, atI_nat (j := 0) rfl, rfl, _, rfl, yep (by decide) ?_⟩
      refine ⟨_, rfl, by show 2 ≤ sizeLine; decide, fun w2 hw2 => ?_⟩
      exact q2 j n e hn _ w2 (s1.new' hw2) (SqT.of upd_same)
def spCompared (K : PySem.W.Frag) : Sp := fun vs H Q _ => ∃ (a b c d : Addr) (xs ys : List Int), vs = [.ref a, .ref b, .ref c, .ref d] ∧ IsW K H a xs ∧ IsW K H b ys ∧ SqL K H c (xs.map V.int) ∧ SqL K H d (ys.map V.int) ∧ ∀ H', Same H H' → Q (.bl true) H'
theorem ok_law_compared (T : Tx K mg) : Ok PG w K mg base CX0 5 (a_law_compared K) p_law_compared (spCompared K) := by
  refine Ok.of 4 T.f_law_compared sc_law_compared bi_law_compared (by decide) (fun vs H Q E h => ?_) (fun cdv A outer s H vs Q E hr h => ?_)
  · obtain ⟨_, _, _, _, _, _, rfl, _⟩ := h
    rfl
  · obtain ⟨a, b, c, d, xs, ys, rfl, ha, hb, hc, hd, q⟩ := h
    obtain ⟨dx, t, a1, a2⟩ := id ha
    obtain ⟨dy, u, b1, b2⟩ := id hb
    refine ⟨_, pss_cons (ps_if (pt_not (pt_val (pc (ok_law_same T 0) (hr.mono (by decide)) T.g_law_same pass0 (pa_cons (pe_cmpR (oCmp (fun _ _ => rfl) (ok_Telling_eq T) T.qTelling_eq_Telling (hr.mono (by decide)) pass0) (pv 0) (pv 1) (nomark _)) (pa_cons (pe_cmpR (op_eqRow hr.units) (pv 2) (pv 3) (nomark _)) pa_nil))))) (pss_one (ps_ret pe_bl)) pss_nil)
      (pss_one (ps_ret (pc (ok_law_same T 0) (hr.mono (by decide)) T.g_law_same pass0 (pa_cons (pe_cmpR (oCmp (fun _ _ => rfl) (ok_Telling_lt T) T.qTelling_lt_Telling (hr.mono (by decide)) pass0) (pv 0) (pv 1) (nomark _))
        (pa_cons (pe_cmpR (op_ltT hr.units0) (pe_callTy call_tuple_of (by rfl) T.m_tuple (by decide +kernel) (pa_cons (pv 2) pa_nil)) (pe_callTy call_tuple_of (by rfl) T.m_tuple (by decide +kernel) (pa_cons (pv 3) pa_nil)) (nomark _)) pa_nil))))), ?_⟩
    refine ⟨_, rfl, _, rfl, a, dx, _, rfl, a1, .own b1, a, xs, .ref b, rfl, ha, .inl ⟨b, ys, rfl, hb, ?_⟩⟩
    refine ⟨_, rfl, _, rfl, c, d, xs, ys, rfl, rfl, .inr ⟨hc, hd⟩, _, _, rfl, ⟨rfl, .bl _⟩, _, rfl, nope rfl ?_⟩
    refine ⟨_, rfl, _, rfl, a, dx, _, rfl, a1, .own b1, a, b, xs, ys, rfl, ha, hb, ?_⟩
    refine ⟨_, rfl, c, _, rfl, .inl ⟨hc, fun m hm => ⟨_, rfl, d, _, rfl, .inl ⟨(Same.new hm).seq hd, fun n hn => ?_⟩⟩⟩⟩
    exact ⟨m, n, xs, ys, rfl, rfl, (Same.new hn).seqT (SqT.of upd_same), SqT.of upd_same, _, _, rfl, ⟨rfl, .bl _⟩, q _ ((Same.new hm).new' hn)⟩
end
end K02

set_option maxRecDepth 100000
set_option maxHeartbeats 8000000
namespace K02
open PySem PySem.Spec PyProof.Rows L2
theorem eqd_row2 {K : PySem.W.Frag} {n : Nat} {H : Hp} {a b : Addr} {ns : List Int} (h : (SqT K H a (ns.map V.int) ∧ SqT K H b (ns.map V.int)) ∨ (SqL K H a (ns.map V.int) ∧ SqL K H b (ns.map V.int))) (l : ns.length ≤ 1000) : Eqd K (n + 1) H (.ref a) (.ref b) := Eqd.row h l
section
variable {w : World} {K : PySem.W.Frag} {mg : Str → Option Value} {base : Heap}
def spReads (K : PySem.W.Frag) : Sp := fun vs H Q _ => ∃ (p r : Addr) (ns : List Int), vs = [.ref p, .ref r] ∧ IsW K H p ns ∧ SqL K H r (ns.map V.int) ∧ ns.length ≤ 30 ∧ ∀ H', Same H H' → Q (.bl true) H'
theorem ok_law_reads (T : Tx K mg) : Ok PG w K mg base CX0 8 (a_law_reads K) p_law_reads (spReads K) := by
  refine Ok.of 7 T.f_law_reads sc_law_reads bi_law_reads (by decide) (fun vs H Q E h => ?_) (fun cdv A outer s H vs Q E hr h => ?_)
  · obtain ⟨_, _, _, rfl, _⟩ := h
    rfl
  · obtain ⟨p, r, ns, rfl, hp, hs, ln, q⟩ := h
    obtain ⟨dx, t, h1, h2⟩ := id hp
    have nd := sc_law_reads.nd
    have hr3 := hr.mono (show 3 ≤ 7 by decide)
    have hr4 := hr.mono (show 4 ≤ 7 by decide)
    refine ⟨_, pss_cons (ps_if (PW.pt (pw_or (pt_not (pt_val (pe_callB call_isi (by rfl) T.m_isinstance (by decide +kernel) (pa_cons (pv 0) (pa_cons (pgC T.gTelling) pa_nil))))) (pw_or1 (pt_not (pt_val (pc (ok_law_same T 1) hr4 T.g_law_same pass0 (pa_cons (pe_fld (pv 0) rfl) (pa_cons (pe_callTy call_tuple_of (by rfl) T.m_tuple (by decide +kernel) (pa_cons (pv 1) pa_nil)) pa_nil)))))))) (pss_one (ps_ret pe_bl)) pss_nil)
      (pss_cons (ps_if (PW.pt (pw_or (pt_not (pt_val (pc (ok_law_same T 0) hr3 T.g_law_same pass0 (pa_cons (pe_callB (cLen (ok_Telling_len T) T.wTelling_len hr3 pass0) (by rfl) T.m_len PySem.boot_len (pa_cons (pv 0) pa_nil)) (pa_cons (pe_callB call_len_seq (by rfl) T.m_len PySem.boot_len (pa_cons (pv 1) pa_nil)) pa_nil)))))
          (pw_or1 (pt_not (pt_val (pc (ok_law_same T 1) hr4 T.g_law_same pass0 (pa_cons (pe_lc (own := [("entry", 2)]) (g := gName 2) (tt := tYes) rfl nd (pi_own (it_Telling T) hr (pv 0)) (blkOk_by (N := n_law_reads) (sc := defScope s_law_reads) (by decide +kernel)) (fun _ _ _ _ _ => pg_name (i := 2) nd rfl (Or.inl rfl)) (fun _ _ _ _ _ => pts_nil) (fun _ _ _ _ _ => pv 2)) (pa_cons (pv 1) pa_nil)))))))) (pss_one (ps_ret pe_bl)) pss_nil)
      (pss_cons (ps_for (passX rfl) rfl (pi_range2 rfl T.m_range (pa_cons (pe_un un_neg pe_int) (pa_cons (pe_op op_add (pe_callB call_len_seq (by rfl) T.m_len PySem.boot_len (pa_cons (pv 1) pa_nil)) pe_int) pa_nil))) (pg_name (i := 3) nd rfl (.inl rfl))
        (pss_cons (ps_set (i := 4) nd rfl (.inl rfl) (pe_tup (pa_cons pe_str (pa_cons (pv 3) (pa_cons pe_bl (pa_cons pe_bl pa_nil))))))
        (pss_cons (ps_if (pt_chain op_le op_lt pe_int (pv 3) (pe_callB call_len_seq (by rfl) T.m_len PySem.boot_len (pa_cons (pv 1) pa_nil))) (pss_one (ps_set (i := 4) nd rfl (.inl rfl) (pe_tup (pa_cons pe_str (pa_cons (pe_ix ix_list (pv 1) (pv 3) (fun _ _ => rfl)) pa_nil))))) pss_nil)
        (pss_one (ps_if (pt_not (pt_val (pc (ok_law_same T 1) hr4 T.g_law_same pass0 (pa_cons (pc (ok_law_try_person T) hr T.g_law_try_person pass0 (pa_cons (pv 0) (pa_cons (pv 3) pa_nil))) (pa_cons (pv 4) pa_nil))))) (pss_one (ps_ret pe_bl)) pss_nil)))))
      (pss_cons (ps_for (passX rfl) rfl (pi_list (pe_lst (pa_cons (pe_callTy call_list_of (by rfl) T.m_list (by decide +kernel) (pa_cons (pv 1) pa_nil)) (pa_cons (pe_callTy call_tuple_of (by rfl) T.m_tuple (by decide +kernel) (pa_cons (pv 1) pa_nil)) (pa_cons (pe_callB (cr_sum rfl) (by rfl) T.m_sum (by decide +kernel) (pa_cons (pv 1) pa_nil)) pa_nil))))) (pg_name (i := 5) nd rfl (.inl rfl))
        (pss_one (ps_if (pt_not (pt_val (pc (ok_law_same T 0) hr3 T.g_law_same pass0 (pa_cons (pe_cmpR (opr_or (oCmp (fun _ _ => rfl) (ok_Telling_eq T) T.qTelling_eq_list (hr.mono (by decide)) pass0) (opr_or (oCmp (fun _ _ => rfl) (ok_Telling_eq T) T.qTelling_eq_tuple (hr.mono (by decide)) pass0) (oCmp (fun _ _ => rfl) (ok_Telling_eq T) T.qTelling_eq_int (hr.mono (by decide)) pass0))) (pv 0) (pv 5) (nomark _)) (pa_cons pe_bl pa_nil))))) (pss_one (ps_ret pe_bl)) pss_nil)))
      (pss_one (ps_ret (pc (ok_law_same T 0) hr3 T.g_law_same pass0 (pa_cons (pe_callB (cAbs (ok_Telling_abs T) T.wTelling_abs hr3 pass0) (by rfl) T.m_abs (by decide +kernel) (pa_cons (pv 0) pa_nil)) (pa_cons (pe_callB (cr_sum rfl) (by rfl) T.m_sum (by decide +kernel) (pa_cons (pv 1) pa_nil)) pa_nil)))))))), ?_⟩
    have two : 2 ≤ sizeLine := by decide
    have four : 4 ≤ sizeLine := by decide
    refine ⟨_, rfl, _, _, _, _, true, rfl, .own _, tyW T hp, T.kTelling_Telling, _, rfl, nope rfl ?_⟩
    refine ⟨_, rfl, p, _, dx, _, _, rfl, h1, T.cTelling, T.nTelling_entries, rfl, _, rfl, r, _, rfl, .inl ⟨hs, fun m hm => ?_⟩⟩
    refine ⟨_, _, rfl, Eqd.row (.inl ⟨(Same.new hm).seqT h2, SqT.of upd_same⟩) (by omega), _, rfl, nope rfl ?_⟩
    have sG : Same H (upd H m (.tup (ns.map V.int))) := .new hm
    generalize upd H m (.tup (ns.map V.int)) = G at sG ⊢
    have hpG := hp.same sG
    have hsG := sG.seq hs
    have h2G := sG.seqT h2
    refine ⟨_, rfl, p, dx, _, rfl, sG _ _ h1, p, ns, rfl, hpG, ns.length, rfl, by omega, _, rfl, r, _, rfl, .inl hsG, _, _, rfl, ⟨by rw [List.length_map], .int _⟩, _, rfl, nope rfl ?_⟩
    refine ⟨_, rfl, p, dx, _, t, _, rfl, sG _ _ h1, rfl, h2G, fun D hD => ?_⟩
    refine lc_it (walk_tup (xs := ns.map V.int)) (fun i H' => Same G H' ∧ H' D = some (.lst ((ns.take i).map V.int))) ⟨.new hD, upd_same⟩ (fun i H' _ z => z.1.seqT h2G) (fun i x H' H2 hi z y => ?_) (fun H' z => ?_)
    · obtain ⟨rfl, hx⟩ := y
      obtain ⟨n, hn, rfl⟩ := map_get hx
      refine ⟨rfl, yesT ⟨_, rfl, _, z.2, by rw [List.length_map, List.length_take, sizeLine_eq]; omega, fun b o e => ?_, ?_⟩⟩
      · rw [upd_ne (fun y => by rw [y, hD] at e; cases e)]
        exact z.1 b o e
      · rw [upd_same, List.take_succ, hn, List.map_append]
        rfl
    obtain ⟨s1, hD1⟩ := z
    rw [List.length_map, List.take_length] at hD1
    refine ⟨_, rfl, _, _, rfl, Eqd.row (.inr ⟨SqL.of hD1, s1.seq hsG⟩) (by omega), _, rfl, nope rfl ?_⟩
    have s2 := sG.trans s1
    have hp2 := hp.same s2
    have hs2 := s2.seq hs
    refine ⟨1, rfl, _, rfl, r, _, rfl, .inl hs2, _, _, rfl, rfl, _, _, rfl, ⟨by omega, by omega, by omega, by rw [List.length_map]; omega⟩, ?_⟩
    refine for_range (lo := -1) (n := (((ns.map V.int).length : Int) + 1 - -1).toNat) (fun i σ H2 => ∃ x2 x3 x4 x5, σ = [some (.ref p), some (.ref r), x2, x3, x4, x5] ∧ Same H' H2) ⟨none, none, none, none, rfl, .refl _⟩ ?_ ?_
    · rintro i σ H2 hi ⟨x2, x3, x4, x5, rfl, sm⟩
      generalize (-1 : Int) + (i : Nat) = k
      have hpA := hp2.same sm
      have hsA := sm.seq hs2
      refine ⟨_, rfl, four, fun d1 hd1 => ?_⟩
      have s3 : Same H2 (upd H2 d1 (.tup [.str "NoPerson", .int k, .bl true, .bl false])) := .new hd1
      -- outside
      have out : ¬ (0 ≤ k ∧ k < ns.length) → ∀ H3 z, Same (upd H2 d1 (.tup [.str "NoPerson", .int k, .bl true, .bl false])) H3 → SqT K H3 z [.str "NoPerson", .int k, .bl true, .bl false] → Eqd K 1 H3 (.ref z) (.ref d1) := fun _ H3 z s hz => eqd_atoms hz (s.seqT (SqT.of upd_same)) (by show 4 ≤ 1000; decide) (fun x hx => by
        simp only [List.mem_cons, List.not_mem_nil, or_false] at hx
        rcases hx with rfl | rfl | rfl | rfl <;> constructor)
      refine ⟨_, rfl, _, _, rfl, rfl, _, rfl, ite2 (fun c => ?_) (fun c => ?_)⟩
      · refine ⟨_, rfl, r, _, rfl, .inl (s3.seq hsA), _, _, rfl, rfl, _, rfl, ite2 (fun c1 => ?_) (fun c1 => ?_)⟩
        · have k0 := of_decide_eq_true c
          have k1 := of_decide_eq_true c1
          rw [List.length_map] at k1
          obtain ⟨j, rfl⟩ : ∃ j : Nat, k = (j : Nat) := ⟨k.toNat, by omega⟩
          have hj : j < ns.length := by omega
          refine ⟨_, rfl, _, rfl, r, _, _, .int ns[j], rfl, rfl, s3.seq hsA, atI_nat (get_map hj), two, fun d2 hd2 => ?_⟩
          have s4 := s3.new' (o := .tup [.str "entry", .int ns[j]]) hd2
          refine ⟨_, rfl, _, rfl, p, ns, _, rfl, hpA.same s4, fun z => absurd ⟨k0, k1⟩ z, fun j' n e hn H3 z s hz => ?_⟩
          obtain rfl : j' = j := by omega
          rw [List.getElem?_eq_getElem hj] at hn
          cases hn
          refine ⟨_, rfl, _, _, rfl, eqd_atoms hz (s.seqT (SqT.of upd_same)) (by show 2 ≤ 1000; decide) (fun x hx => by
            simp only [List.mem_cons, List.not_mem_nil, or_false] at hx
            rcases hx with rfl | rfl <;> constructor), _, rfl, nope rfl ⟨_, _, _, _, rfl, (sm.trans s4).trans s⟩⟩
        · have nk : ¬ (0 ≤ k ∧ k < ns.length) := fun z => c1 (decide_eq_true (by rw [List.length_map]; exact z.2))
          refine ⟨_, rfl, _, rfl, p, ns, k, rfl, hpA.same s3, fun _ H3 z s hz => ?_, fun j n e hn => absurd ⟨by omega, by have := (List.getElem?_eq_some_iff.mp hn).1; omega⟩ nk⟩
          exact ⟨_, rfl, _, _, rfl, out nk H3 z s hz, _, rfl, nope rfl ⟨_, _, _, _, rfl, (sm.trans s3).trans s⟩⟩
      · have nk : ¬ (0 ≤ k ∧ k < ns.length) := fun z => c (decide_eq_true z.1)
        refine ⟨_, rfl, iteF ?_⟩
        refine ⟨_, rfl, _, rfl, p, ns, k, rfl, hpA.same s3, fun _ H3 z s hz => ?_, fun j n e hn => absurd ⟨by omega, by have := (List.getElem?_eq_some_iff.mp hn).1; omega⟩ nk⟩
        exact ⟨_, rfl, _, _, rfl, out nk H3 z s hz, _, rfl, nope rfl ⟨_, _, _, _, rfl, (sm.trans s3).trans s⟩⟩
    · rintro σ H2 ⟨x2, x3, x4, x5, rfl, sm⟩
      have hsA := sm.seq hs2
      refine ⟨_, rfl, r, _, rfl, .inl hsA, fun la hla => ?_⟩
      have sa : Same H2 (upd H2 la (.lst (ns.map V.int))) := .new hla
      refine ⟨_, rfl, r, _, rfl, .inl ⟨sa.seq hsA, fun lb hlb => ?_⟩⟩
      have sb := sa.new' (o := .tup (ns.map V.int)) hlb
      have hlaB : SqL K (upd (upd H2 la (.lst (ns.map V.int))) lb (.tup (ns.map V.int))) la (ns.map V.int) := (Same.new hlb).seq (SqL.of upd_same)
      refine ⟨_, rfl, r, ns, rfl, sb.seq hsA, by show 3 ≤ sizeLine; decide, fun L hL => ?_⟩
      have sc := sb.new' (o := .lst [.ref la, .ref lb, .int ns.sum]) hL
      have hlaC := (Same.new (o := .lst [V.ref la, .ref lb, .int ns.sum]) hL).seq hlaB
      have hlbC : SqT K (upd (upd (upd H2 la (.lst (ns.map V.int))) lb (.tup (ns.map V.int))) L (.lst [.ref la, .ref lb, .int ns.sum])) lb (ns.map V.int) := (Same.new hL).seqT (SqT.of upd_same)
      generalize hC : upd (upd (upd H2 la (.lst (ns.map V.int))) lb (.tup (ns.map V.int))) L (.lst [.ref la, .ref lb, .int ns.sum]) = C at sc hlaC hlbC ⊢
      have hLC : SqL K C L [.ref la, .ref lb, .int ns.sum] := by rw [← hC]; exact SqL.of upd_same
      have s4 := (s2.trans sm).trans sc
      have hpC := hp.same s4
      refine ⟨L, rfl, ⟨_, hLC⟩, ?_⟩
      refine for_list (K := K) (a := L) (xs := [.ref la, .ref lb, .int ns.sum]) (fun i σ H' => ∃ x2 x3 x4 x5, σ = [some (.ref p), some (.ref r), x2, x3, x4, x5] ∧ H' = C) ⟨_, _, _, _, rfl, rfl⟩ (fun i σ H' _ z => by obtain ⟨_, _, _, _, _, rfl⟩ := z; exact hLC) ?_ ?_
      · rintro i x σ H' hx ⟨x2, x3, x4, x5, rfl, rfl⟩
        have hi : x = .ref la ∨ x = .ref lb ∨ x = .int ns.sum := by
          match i with
          | 0 => cases hx; exact .inl rfl
          | 1 => cases hx; exact .inr (.inl rfl)
          | 2 => cases hx; exact .inr (.inr rfl)
          | i + 3 => cases hx
        rcases hi with rfl | rfl | rfl
        · exact ⟨_, rfl, _, rfl, .inl ⟨p, dx, _, rfl, s4 _ _ h1, .lst hlaC, p, ns, _, rfl, hpC, .inr ⟨"list", hlaC.ty, T.k_list_Telling, _, _, rfl, ⟨rfl, .bl _⟩, _, rfl, nope rfl ⟨_, _, _, _, rfl, rfl⟩⟩⟩⟩
        · exact ⟨_, rfl, _, rfl, .inr (.inl ⟨p, dx, _, rfl, s4 _ _ h1, .tup hlbC, p, ns, _, rfl, hpC, .inr ⟨"tuple", hlbC.ty, T.k_tuple_Telling, _, _, rfl, ⟨rfl, .bl _⟩, _, rfl, nope rfl ⟨_, _, _, _, rfl, rfl⟩⟩⟩)⟩
        · exact ⟨_, rfl, _, rfl, .inr (.inr ⟨p, dx, _, rfl, s4 _ _ h1, .int _, p, ns, _, rfl, hpC, .inr ⟨"int", .base (.int _), T.k_int_Telling, _, _, rfl, ⟨rfl, .bl _⟩, _, rfl, nope rfl ⟨_, _, _, _, rfl, rfl⟩⟩⟩)⟩
      · rintro σ H' ⟨x2, x3, x4, x5, rfl, rfl⟩
        exact ⟨_, rfl, p, dx, _, rfl, s4 _ _ h1, p, ns, rfl, hpC, _, rfl, r, ns, rfl, s4.seq hs, _, _, rfl, ⟨rfl, .int _⟩, q _ s4⟩
end
end K02

set_option maxRecDepth 100000
set_option maxHeartbeats 16000000
namespace K02
open PySem PySem.Spec PyProof.Rows L2
def forBodyL : Stmt → List Stmt
  | .For _ _ b _ _ => b
  | _ => []
abbrev pairB : List Stmt := forBodyL ((defBody s_law).getD 8 (.Pass ⟨0, 0, 0, 0⟩))
section
variable {w : World} {K : PySem.W.Frag} {mg : Str → Option Value} {base : Heap}
theorem IsW.but {p t : Addr} {H H' : Hp} {ns : List Int} {ps : List V} (h : IsW K H t ns) (b : But p H H') (hp : H p = some (.lst ps)) : IsW K H' t ns := by
  obtain ⟨dx, u, h1, h2⟩ := h
  exact ⟨dx, u, b _ _ (fun z => by rw [z, hp] at h1; cases h1) h1, b.seqT hp h2⟩
/-- what stands while the law runs: lists, the two tellings, the pool -/
structure LawSt (K : PySem.W.Frag) (p : Addr) (Ls : List (Addr × List V)) (sc : Addr × List V) (t0 t1 : Addr) (xs ys : List Int) (H : Hp) : Prop where
  ls : ∀ e ∈ Ls, H e.1 = some (.lst e.2)
  away : ∀ e ∈ Ls, e.1 ≠ p
  T0 : IsW K H t0 xs
  T1 : IsW K H t1 ys
  pool : ∃ st, H p = some (.lst st) ∧ PoolOk st
  scr : (SqL K H sc.1 sc.2 ∧ sc.1 ≠ p) ∨ ∀ H2, SqL K H2 sc.1 sc.2
theorem LawSt.same {p : Addr} {Ls : List (Addr × List V)} {sc : Addr × List V} {t0 t1 : Addr} {xs ys : List Int} {H H' : Hp} (S : LawSt K p Ls sc t0 t1 xs ys H) (s : Same H H') : LawSt K p Ls sc t0 t1 xs ys H' :=
  ⟨fun e he => s _ _ (S.ls e he), S.away, S.T0.same s, S.T1.same s, (let ⟨st, a, b⟩ := S.pool; ⟨st, s _ _ a, b⟩), S.scr.imp (fun z => ⟨s.seq z.1, z.2⟩) id⟩
theorem LawSt.but {p : Addr} {Ls : List (Addr × List V)} {sc : Addr × List V} {t0 t1 : Addr} {xs ys : List Int} {H H' : Hp} {st : List V} (S : LawSt K p Ls sc t0 t1 xs ys H) (b : But p H H') (h : H' p = some (.lst st)) (ok : PoolOk st) : LawSt K p Ls sc t0 t1 xs ys H' := by
  obtain ⟨st0, h0, _⟩ := S.pool
  exact ⟨fun e he => b _ _ (S.away e he) (S.ls e he), S.away, S.T0.but b h0, S.T1.but b h0, ⟨st, h, ok⟩, S.scr.imp (fun z => ⟨b.sqL z.2 z.1, z.2⟩) id⟩
theorem inC_none {ns : List Int} (h : InC ns) : bad top 0 ns = none := bad_none.2 h
theorem mk_ok {H : Hp} {a : Addr} {ns : List Int} (ha : SqA K H a (ns.map V.int)) (l : ns.length ≤ 30) (b : InC ns) (x dx : Addr) (hx : H x = none) (hdx : H dx = none) (hne : dx ≠ x) (Q : VK) (q : ∀ H', Same H H' → IsW K H' x ns → Q .non H') :
    spInit K ([.ref x, .ref a]) (upd (upd H dx (.own x)) x (.ins (c_Telling K) dx [])) Q (fun _ _ _ => False) := by
  obtain ⟨x', a', dx', ns', e, h1, h2, h3, h4, h5⟩ := mk_tell (Q := fun y H' => ∃ p, y = .ref p ∧ Same H H' ∧ IsW K H' p ns) (E := fun _ _ _ => False) ha ⟨fun c => absurd c (by omega), fun _ i n e => (by rw [inC_none b] at e; cases e), fun _ _ H' p s g => ⟨p, rfl, s, g⟩⟩ x dx hx hdx hne
  refine ⟨x', a', dx', ns', e, h1, h2, h3, h4, fun c1 c2 H' t s ht => ?_⟩
  obtain ⟨_, p, e', s', g⟩ := h5 c1 c2 H' t s ht
  cases e
  cases e'
  exact q _ s' g

theorem LawSt.script {p : Addr} {Ls : List (Addr × List V)} {sc : Addr × List V} {t0 t1 : Addr} {xs ys : List Int} {H : Hp} (S : LawSt K p Ls sc t0 t1 xs ys H) : SqL K H sc.1 sc.2 := S.scr.elim (fun z => z.1) (fun z => z H)
theorem scr_of {p a : Addr} {H : Hp} {xs : List V} (h : SqL K H a xs) (hp : H p = none) : (SqL K H a xs ∧ a ≠ p) ∨ ∀ H2, SqL K H2 a xs := by
  rcases h with (h | ⟨o, h⟩) | h
  · exact .inl ⟨.inl (.inl h), fun z => by rw [z, hp] at h; cases h⟩
  · exact .inl ⟨.inl (.inr ⟨o, h⟩), fun z => by rw [z, hp] at h; cases h⟩
  · exact .inr fun _ => .inr h
structure Side (K : PySem.W.Frag) (p : Addr) (Ls : List (Addr × List V)) (sc : Addr × List V) (t0 t1 : Addr) (xs ys : List Int) (tt uu rr ss : Addr) (xa ya : List Int) : Prop where
  st : ∀ H, LawSt K p Ls sc t0 t1 xs ys H → IsW K H tt xa ∧ IsW K H uu ya ∧ H rr = some (.lst (xa.map V.int)) ∧ H ss = some (.lst (ya.map V.int))
  np : rr ≠ p
  la : xa.length ≤ 30
  lb : ya.length ≤ 30
  ca : InC xa
theorem wide_of {ns : List Int} (h : InC ns) : ∀ n ∈ ns, n.natAbs < 2 ^ 200 := fun n hn => by
  have := h n hn
  have h2 : n ≤ 1000000000000000000000000000000 := this.2
  have : n.natAbs < 2 ^ 120 := by omega
  exact Nat.lt_trans this (by decide)
theorem pair_rest (T : Tx K mg) (cdv : Value) (A : Around) (outer : List Env) (s : Shared) (H : Hp) (E : XK) (hr : Room 12 (A.deeper (envOfC "law" (defScope s_law) s.heap.objs.size (a_law K) cdv))) :
    ∃ t, PSs (cxOf CX0 PG w K mg base n_law "law" (defScope s_law) (a_law K) cdv A outer s H E) (pairB.drop 4) t ∧ ∀ (D : Ends) (p t0 t1 tt uu rr ss : Addr) (Ls : List (Addr × List V)) (sc : Addr × List V) (xs ys xa ya : List Int) (s0 s1 s2 s3 s4 s6 s11 s12 s13 s14 s15 : Option V) (H' : Hp),
      Side K p Ls sc t0 t1 xs ys tt uu rr ss xa ya → LawSt K p Ls sc t0 t1 xs ys H' →
      (∀ s6 s7 s8 s9 s10 s11 s12 s13 s14 s15 H2, LawSt K p Ls sc t0 t1 xs ys H2 → D.nx [s0, s1, s2, s3, s4, some (.ref p), s6, s7, s8, s9, s10, s11, s12, s13, s14, s15] H2) →
      t D [s0, s1, s2, s3, s4, some (.ref p), s6, some (.ref tt), some (.ref uu), some (.ref rr), some (.ref ss), s11, s12, s13, s14, s15] H' := by
  have nd := sc_law.nd
  have hr5 := hr.mono (show 5 ≤ 12 by decide)
  refine ⟨_, pss_cons (ps_set (i := 11) nd rfl (.inl rfl) (pc (ok_law_numbers T) (hr.mono (by decide)) T.g_law_numbers pass0 (pa_cons (pv 5) (pa_cons (pv 9) pa_nil))))
    (pss_cons (ps_for (passX rfl) rfl (pi_range1 rfl T.m_range (pa_cons pe_int pa_nil)) (pg_name (i := 12) nd rfl (.inl rfl))
      (pss_cons (ps_set (i := 13) nd rfl (.inl rfl) (pc (ok_law_due T) hr5 T.g_law_due pass0 (pa_cons (pv 12) (pa_cons (pv 9) (pa_cons (pv 10) (pa_cons (pv 11) pa_nil))))))
      (pss_one (ps_if (pt_not (pt_val (pc (ok_law_same T 2) hr5 T.g_law_same pass0 (pa_cons (pc (ok_law_try T) hr T.g_law_try pass0 (pa_cons (pv 12) (pa_cons (pv 7) (pa_cons (pv 8) (pa_cons (pe_callTy call_list_of (by rfl) T.m_list (by decide +kernel) (pa_cons (pv 11) pa_nil)) pa_nil))))) (pa_cons (pv 13) pa_nil))))) (pss_one (ps_ret pe_bl)) pss_nil))))
    (pss_cons (ps_set (i := 14) nd rfl (.inl rfl) (pmk (ok_Telling_init T) T.kTelling hr5 T.gTelling passF (pa_cons (pe_callTy call_tuple_of (by rfl) T.m_tuple (by decide +kernel) (pa_cons (pv 9) pa_nil)) pa_nil)))
    (pss_one (ps_if (PW.pt (pw_or (pt_not (pt_val (pc (ok_law_compared T) hr5 T.g_law_compared pass0 (pa_cons (pv 7) (pa_cons (pv 8) (pa_cons (pv 9) (pa_cons (pv 10) pa_nil)))))))
      (pw_or1 (pt_not (pt_val (pc (ok_law_compared T) hr5 T.g_law_compared pass0 (pa_cons (pv 7) (pa_cons (pv 14) (pa_cons (pv 9) (pa_cons (pv 9) pa_nil)))))))))) (pss_one (ps_ret pe_bl)) pss_nil)))), ?_⟩
  intro D p t0 t1 tt uu rr ss Ls sc xs ys xa ya s0 s1 s2 s3 s4 s6 s11 s12 s13 s14 s15 H' W S nx
  obtain ⟨st, p0, pok⟩ := S.pool
  obtain ⟨f1, f2, f3, f4⟩ := W.st _ S
  refine ⟨_, rfl, _, rfl, p, rr, st, xa, rfl, p0, pok, W.np, SqL.of f3, W.la, fun H1 c st1 n0 n1 n2 n3 b1 h1 ok1 hc0 hc w3 => ?_⟩
  have S1 := S.but b1 h1 ok1
  refine ⟨8, rfl, by decide, by decide, ?_⟩
  refine for_range (lo := 0) (n := 8) (fun i σ H2 => ∃ s12 s13, σ = [s0, s1, s2, s3, s4, some (.ref p), s6, some (.ref tt), some (.ref uu), some (.ref rr), some (.ref ss), some (.ref c), s12, s13, s14, s15] ∧ Same H1 H2) ⟨_, _, rfl, .refl _⟩ ?_ ?_
  · rintro i σ H2 hi ⟨s12, s13, rfl, sm⟩
    rw [Int.zero_add]
    have S2 := S1.same sm
    obtain ⟨g1, g2, g3, g4⟩ := W.st _ S2
    have hc2 : H2 c = some (.lst [.int n0, .int n1, .int n2, .int n3]) := sm _ _ hc
    refine ⟨_, rfl, _, rfl, _, rfl, _, rfl, i, rr, ss, c, xa, ya, n0, n1, n2, n3, rfl, SqL.of g3, SqL.of g4, SqL.of hc2, W.la, W.lb, wide_of W.ca, w3, fun H3 z sm3 hz => ?_⟩
    have S3 := S2.same sm3
    obtain ⟨k1, k2, _, _⟩ := W.st _ S3
    refine ⟨_, rfl, _, rfl, _, rfl, _, rfl, c, _, rfl, .inl (SqL.of (sm3 _ _ hc2)), fun l hl => ?_⟩
    have s4' : Same H3 (upd H3 l (.lst [.int n0, .int n1, .int n2, .int n3])) := .new hl
    refine ⟨i, tt, uu, l, xa, ya, rfl, k1.same s4', k2.same s4', W.la, W.lb, wide_of W.ca, .inl ⟨hi, n0, n1, n2, n3, SqL.of upd_same, w3, fun H4 z4 sm4 hz4 => ?_⟩⟩
    exact ⟨_, rfl, _, _, rfl, hz4.eqd (hz.same (s4'.trans sm4)) (dueOf_small ..), _, rfl, nope rfl ⟨_, _, rfl, (sm.trans sm3).trans (s4'.trans sm4)⟩⟩
  · rintro σ H2 ⟨s12, s13, rfl, sm⟩
    have S2 := S1.same sm
    obtain ⟨g1, g2, g3, g4⟩ := W.st _ S2
    refine ⟨_, rfl, rr, _, rfl, .inl ⟨SqL.of g3, fun m hm => ?_⟩⟩
    refine fun q dq hq0 hdq hne => mk_ok (.inr (SqT.of upd_same)) W.la W.ca q dq hq0 hdq hne _ fun H3 sm3 hq => ⟨rfl, ?_⟩
    have sm4 := (Same.new hm).trans sm3
    have S3 := S2.same sm4
    obtain ⟨k1, k2, k3, k4⟩ := W.st _ S3
    refine ⟨_, rfl, _, rfl, _, rfl, _, rfl, tt, uu, rr, ss, xa, ya, rfl, k1, k2, SqL.of k3, SqL.of k4, fun H4 sm5 => ⟨_, rfl, nope rfl ?_⟩⟩
    obtain ⟨l1, l2, l3, l4⟩ := W.st _ (S3.same sm5)
    refine ⟨_, rfl, _, rfl, _, rfl, _, rfl, tt, q, rr, rr, xa, xa, rfl, l1, hq.same sm5, SqL.of l3, SqL.of l3, fun H5 sm6 => ⟨_, rfl, nope rfl ?_⟩⟩
    exact nx _ _ _ _ _ _ _ _ _ _ H5 ((S3.same sm5).same sm6)
end
end K02

set_option maxRecDepth 100000
set_option maxHeartbeats 16000000
namespace K02
open PySem PySem.Spec PyProof.Rows L2
section
variable {w : World} {K : PySem.W.Frag} {mg : Str → Option Value} {base : Heap}
theorem pair_all (T : Tx K mg) (cdv : Value) (A : Around) (outer : List Env) (s : Shared) (H : Hp) (E : XK) (hr : Room 12 (A.deeper (envOfC "law" (defScope s_law) s.heap.objs.size (a_law K) cdv))) :
    ∃ t, PSs (cxOf CX0 PG w K mg base n_law "law" (defScope s_law) (a_law K) cdv A outer s H E) pairB t ∧ ∀ (D : Ends) (p t0 t1 tt uu rr ss qq R L : Addr) (Ls : List (Addr × List V)) (sc : Addr × List V) (xs ys xa ya : List Int) (ia ib : Int) (rl tl : List V) (s0 s1 s3 s7 s8 s9 s10 s11 s12 s13 s14 s15 : Option V) (H' : Hp),
      Side K p Ls sc t0 t1 xs ys tt uu rr ss xa ya → LawSt K p Ls sc t0 t1 xs ys H' → (qq, [.int ia, .int ib]) ∈ Ls → (R, rl) ∈ Ls → (L, tl) ∈ Ls → atI tl ia = some (.ref tt) → atI tl ib = some (.ref uu) → atI rl ia = some (.ref rr) → atI rl ib = some (.ref ss) →
      (∀ s6 s7 s8 s9 s10 s11 s12 s13 s14 s15 H2, LawSt K p Ls sc t0 t1 xs ys H2 → D.nx [s0, s1, some (.ref R), s3, some (.ref L), some (.ref p), s6, s7, s8, s9, s10, s11, s12, s13, s14, s15] H2) →
      t D [s0, s1, some (.ref R), s3, some (.ref L), some (.ref p), some (.ref qq), s7, s8, s9, s10, s11, s12, s13, s14, s15] H' := by
  have nd := sc_law.nd
  obtain ⟨te, de, re⟩ := pair_rest (w := w) (base := base) T cdv A outer s H E hr
  refine ⟨_, pss_cons (ps_set (i := 7) nd rfl (.inl rfl) (pe_ix ix_list (pv 4) (pe_ix ix_list (pv 6) pe_int (fun _ _ => rfl)) (fun _ _ => rfl)))
    (pss_cons (ps_set (i := 8) nd rfl (.inl rfl) (pe_ix ix_list (pv 4) (pe_ix ix_list (pv 6) pe_int (fun _ _ => rfl)) (fun _ _ => rfl)))
    (pss_cons (ps_set (i := 9) nd rfl (.inl rfl) (pe_ix ix_list (pv 2) (pe_ix ix_list (pv 6) pe_int (fun _ _ => rfl)) (fun _ _ => rfl)))
    (pss_cons (ps_set (i := 10) nd rfl (.inl rfl) (pe_ix ix_list (pv 2) (pe_ix ix_list (pv 6) pe_int (fun _ _ => rfl)) (fun _ _ => rfl))) de))), ?_⟩
  intro D p t0 t1 tt uu rr ss qq R L Ls sc xs ys xa ya ia ib rl tl s0 s1 s3 s7 s8 s9 s10 s11 s12 s13 s14 s15 H' W S mq mR mL e1 e2 e3 e4 nx
  have hq := SqL.of (K := K) (S.ls _ mq)
  have hR := SqL.of (K := K) (S.ls _ mR)
  have hL := SqL.of (K := K) (S.ls _ mL)
  refine ⟨_, rfl, _, rfl, qq, _, 0, .int ia, rfl, rfl, hq, rfl, L, _, ia, .ref tt, rfl, rfl, hL, e1, ?_⟩
  refine ⟨_, rfl, _, rfl, qq, _, 1, .int ib, rfl, rfl, hq, rfl, L, _, ib, .ref uu, rfl, rfl, hL, e2, ?_⟩
  refine ⟨_, rfl, _, rfl, qq, _, 0, .int ia, rfl, rfl, hq, rfl, R, _, ia, .ref rr, rfl, rfl, hR, e3, ?_⟩
  refine ⟨_, rfl, _, rfl, qq, _, 1, .int ib, rfl, rfl, hq, rfl, R, _, ib, .ref ss, rfl, rfl, hR, e4, ?_⟩
  exact re D p t0 t1 tt uu rr ss Ls sc xs ys xa ya _ _ _ _ _ _ _ _ _ _ _ H' W S nx
theorem law_tail (T : Tx K mg) (cdv : Value) (A : Around) (outer : List Env) (s : Shared) (H : Hp) (E : XK) (hr : Room 12 (A.deeper (envOfC "law" (defScope s_law) s.heap.objs.size (a_law K) cdv))) :
    ∃ t, PSs (cxOf CX0 PG w K mg base n_law "law" (defScope s_law) (a_law K) cdv A outer s H E) ((defBody s_law).drop 7) t ∧ ∀ (D : Ends) (a f g R L t0 t1 : Addr) (cs xs ys : List Int) (s1 s3 : Option V) (H' : Hp),
      SqL K H' a (cs.map V.int) → H' f = some (.lst (xs.map V.int)) → H' g = some (.lst (ys.map V.int)) → H' R = some (.lst [.ref f, .ref g]) → H' L = some (.lst [.ref t0, .ref t1]) → IsW K H' t0 xs → IsW K H' t1 ys → xs.length ≤ 30 → ys.length ≤ 30 → InC xs → InC ys → (∀ H2, D.rt (.bl true) H2) →
      t D [some (.ref a), s1, some (.ref R), s3, some (.ref L), none, none, none, none, none, none, none, none, none, none, none] H' := by
  have nd := sc_law.nd
  have hr2 := hr.mono (show 2 ≤ 12 by decide)
  have hr5 := hr.mono (show 5 ≤ 12 by decide)
  have hr8 := hr.mono (show 8 ≤ 12 by decide)
  obtain ⟨te, de, re⟩ := pair_all (w := w) (base := base) T cdv A outer s H E hr
  refine ⟨_, pss_cons (ps_set (i := 5) nd rfl (.inl rfl) (pc (ok_law_pool T) hr2 T.g_law_pool pass0 (pa_cons (pv 0) (pa_cons pe_int pa_nil))))
    (pss_cons (ps_for (passX rfl) rfl (pi_list (pe_lst (pa_cons (pe_lst (pa_cons pe_int (pa_cons pe_int pa_nil))) (pa_cons (pe_lst (pa_cons pe_int (pa_cons pe_int pa_nil))) (pa_cons (pe_lst (pa_cons pe_int (pa_cons pe_int pa_nil))) pa_nil))))) (pg_name (i := 6) nd rfl (.inl rfl)) de)
    (pss_cons (ps_set (i := 15) nd rfl (.inl rfl) (pc (ok_law_loose T) hr8 T.g_law_loose pass0 (pa_cons (pc (ok_law_pool T) hr2 T.g_law_pool pass0 (pa_cons (pv 0) (pa_cons pe_int pa_nil))) pa_nil)))
    (pss_cons (ps_if (pt_not (pt_val (pc (ok_law_same T 2) hr5 T.g_law_same pass0 (pa_cons (pc (ok_law_try T) hr T.g_law_try pass0 (pa_cons pe_int (pa_cons (pe_ix ix_list (pv 4) pe_int (fun _ _ => rfl)) (pa_cons (pe_ix ix_list (pv 4) pe_int (fun _ _ => rfl)) (pa_cons (pe_callTy call_list_of (by rfl) T.m_list (by decide +kernel) (pa_cons (pv 15) pa_nil)) pa_nil)))))
        (pa_cons (pc (ok_law_due_made T) hr2 T.g_law_due_made pass0 (pa_cons (pv 15) pa_nil)) pa_nil))))) (pss_one (ps_ret pe_bl)) pss_nil)
    (pss_one (ps_ret (pe_and (pc (ok_law_reads T) hr8 T.g_law_reads pass0 (pa_cons (pe_ix ix_list (pv 4) pe_int (fun _ _ => rfl)) (pa_cons (pe_ix ix_list (pv 2) pe_int (fun _ _ => rfl)) pa_nil))) (pe_one (pc (ok_law_reads T) hr8 T.g_law_reads pass0 (pa_cons (pe_ix ix_list (pv 4) pe_int (fun _ _ => rfl)) (pa_cons (pe_ix ix_list (pv 2) pe_int (fun _ _ => rfl)) pa_nil)))))))))), ?_⟩
  intro D a f g R L t0 t1 cs xs ys s1 s3 H0 ha hf hg hR hL h0 h1 l0 l1 c0 c1 q
  refine ⟨_, rfl, a, cs, 2, rfl, ha, fun p st hp ok => ?_⟩
  have sP : Same H0 (upd H0 p (.lst st)) := .new hp
  have two : 2 ≤ sizeLine := by decide
  refine ⟨two, fun q1 h1' => ⟨two, fun q2 h2' => ⟨two, fun q3 h3' => ⟨by show 3 ≤ sizeLine; decide, fun Q hQ => ?_⟩⟩⟩⟩
  have sA := Same.new (o := .lst [V.int 0, .int 1]) h1'
  have sB := Same.new (o := .lst [V.int 1, .int 0]) h2'
  have sC := Same.new (o := .lst [V.int 1, .int 1]) h3'
  have sD := Same.new (o := .lst [V.ref q1, .ref q2, .ref q3]) hQ
  generalize hG1 : upd (upd H0 p (.lst st)) q1 (.lst [V.int 0, .int 1]) = G1 at h2' h3' hQ sA sB sC sD ⊢
  have g1 : G1 q1 = some (.lst [.int 0, .int 1]) := by rw [← hG1, upd_same]
  have p1 : G1 p = some (.lst st) := sA _ _ upd_same
  generalize hG2 : upd G1 q2 (.lst [V.int 1, .int 0]) = G2 at h3' hQ sB sC sD ⊢
  have g2 : G2 q2 = some (.lst [.int 1, .int 0]) := by rw [← hG2, upd_same]
  generalize hG3 : upd G2 q3 (.lst [V.int 1, .int 1]) = G3 at hQ sC sD ⊢
  have g3 : G3 q3 = some (.lst [.int 1, .int 1]) := by rw [← hG3, upd_same]
  generalize hG4 : upd G3 Q (.lst [V.ref q1, .ref q2, .ref q3]) = G4 at sD ⊢
  have g4 : G4 Q = some (.lst [.ref q1, .ref q2, .ref q3]) := by rw [← hG4, upd_same]
  have s4 : Same H0 G4 := (((sP.trans sA).trans sB).trans sC).trans sD
  have pn : ∀ {b : Addr} {G : Hp}, G p = some (.lst st) → G b = none → b ≠ p := fun {b G} e1 e2 z => by rw [z, e1] at e2; cases e2
  have p2 := sB _ _ p1
  have p3 := sC _ _ p2
  have p4 := sD _ _ p3
  have old : ∀ {b : Addr} {o : HO}, H0 b = some o → b ≠ p := fun {b o} e z => by rw [z, hp] at e; cases e
  have S : LawSt K p [(f, xs.map V.int), (g, ys.map V.int), (R, [.ref f, .ref g]), (L, [.ref t0, .ref t1]), (Q, [.ref q1, .ref q2, .ref q3]), (q1, [.int 0, .int 1]), (q2, [.int 1, .int 0]), (q3, [.int 1, .int 1])] (a, cs.map V.int) t0 t1 xs ys G4 := by
    refine ⟨?_, ?_, h0.same s4, h1.same s4, ⟨st, p4, ok⟩, (scr_of ha hp).imp (fun z => ⟨s4.seq z.1, z.2⟩) id⟩
    · intro e he
      simp only [List.mem_cons, List.not_mem_nil, or_false] at he
      rcases he with rfl | rfl | rfl | rfl | rfl | rfl | rfl | rfl
      · exact s4 _ _ hf
      · exact s4 _ _ hg
      · exact s4 _ _ hR
      · exact s4 _ _ hL
      · exact g4
      · exact ((sB.trans sC).trans sD) _ _ g1
      · exact (sC.trans sD) _ _ g2
      · exact sD _ _ g3
    · intro e he
      simp only [List.mem_cons, List.not_mem_nil, or_false] at he
      rcases he with rfl | rfl | rfl | rfl | rfl | rfl | rfl | rfl
      · exact old hf
      · exact old hg
      · exact old hR
      · exact old hL
      · exact pn p3 hQ
      · exact pn upd_same h1'
      · exact pn p1 h2'
      · exact pn p2 h3'
  generalize hLs : [(f, xs.map V.int), (g, ys.map V.int), (R, [V.ref f, .ref g]), (L, [.ref t0, .ref t1]), (Q, [.ref q1, .ref q2, .ref q3]), (q1, [.int 0, .int 1]), (q2, [.int 1, .int 0]), (q3, [.int 1, .int 1])] = Ls at S
  have mf : (f, xs.map V.int) ∈ Ls := by rw [← hLs]; simp
  have mg' : (g, ys.map V.int) ∈ Ls := by rw [← hLs]; simp
  have mR : (R, [V.ref f, .ref g]) ∈ Ls := by rw [← hLs]; simp
  have mL : (L, [V.ref t0, .ref t1]) ∈ Ls := by rw [← hLs]; simp
  have mQ : (Q, [V.ref q1, .ref q2, .ref q3]) ∈ Ls := by rw [← hLs]; simp
  have m1 : (q1, [V.int 0, .int 1]) ∈ Ls := by rw [← hLs]; simp
  have m2 : (q2, [V.int 1, .int 0]) ∈ Ls := by rw [← hLs]; simp
  have m3 : (q3, [V.int 1, .int 1]) ∈ Ls := by rw [← hLs]; simp
  have w01 : Side K p Ls (a, cs.map V.int) t0 t1 xs ys t0 t1 f g xs ys := ⟨fun H S => ⟨S.T0, S.T1, S.ls _ mf, S.ls _ mg'⟩, old hf, l0, l1, c0⟩
  have w10 : Side K p Ls (a, cs.map V.int) t0 t1 xs ys t1 t0 g f ys xs := ⟨fun H S => ⟨S.T1, S.T0, S.ls _ mg', S.ls _ mf⟩, old hg, l1, l0, c1⟩
  have w11 : Side K p Ls (a, cs.map V.int) t0 t1 xs ys t1 t1 g g ys ys := ⟨fun H S => ⟨S.T1, S.T1, S.ls _ mg', S.ls _ mg'⟩, old hg, l1, l1, c1⟩
  refine ⟨Q, rfl, ⟨_, SqL.of g4⟩, ?_⟩
  refine for_list (K := K) (a := Q) (xs := [.ref q1, .ref q2, .ref q3]) (fun i σ H2 => (∃ s6 s7 s8 s9 s10 s11 s12 s13 s14 s15, σ = [some (.ref a), s1, some (.ref R), s3, some (.ref L), some (.ref p), s6, s7, s8, s9, s10, s11, s12, s13, s14, s15]) ∧ LawSt K p Ls (a, cs.map V.int) t0 t1 xs ys H2)
    ⟨⟨_, _, _, _, _, _, _, _, _, _, rfl⟩, S⟩ (fun i σ H2 _ z => SqL.of (z.2.ls _ mQ)) ?_ ?_
  · rintro i x σ H2 hx ⟨⟨s6, s7, s8, s9, s10, s11, s12, s13, s14, s15, rfl⟩, S2⟩
    have nx : ∀ s6 s7 s8 s9 s10 s11 s12 s13 s14 s15 H3, LawSt K p Ls (a, cs.map V.int) t0 t1 xs ys H3 → (∃ z6 z7 z8 z9 z10 z11 z12 z13 z14 z15, [some (V.ref a), s1, some (.ref R), s3, some (.ref L), some (.ref p), s6, s7, s8, s9, s10, s11, s12, s13, s14, s15] = [some (.ref a), s1, some (.ref R), s3, some (.ref L), some (.ref p), z6, z7, z8, z9, z10, z11, z12, z13, z14, z15]) ∧ LawSt K p Ls (a, cs.map V.int) t0 t1 xs ys H3 :=
      fun _ _ _ _ _ _ _ _ _ _ H3 S3 => ⟨⟨_, _, _, _, _, _, _, _, _, _, rfl⟩, S3⟩
    match i with
    | 0 => cases hx; exact re _ p t0 t1 t0 t1 f g q1 R L Ls _ xs ys xs ys 0 1 _ _ _ _ _ _ _ _ _ _ _ _ _ _ H2 w01 S2 m1 mR mL rfl rfl rfl rfl nx
    | 1 => cases hx; exact re _ p t0 t1 t1 t0 g f q2 R L Ls _ xs ys ys xs 1 0 _ _ _ _ _ _ _ _ _ _ _ _ _ _ H2 w10 S2 m2 mR mL rfl rfl rfl rfl nx
    | 2 => cases hx; exact re _ p t0 t1 t1 t1 g g q3 R L Ls _ xs ys ys ys 1 1 _ _ _ _ _ _ _ _ _ _ _ _ _ _ H2 w11 S2 m3 mR mL rfl rfl rfl rfl nx
    | i + 3 => cases hx
  · rintro σ H2 ⟨⟨s6, s7, s8, s9, s10, s11, s12, s13, s14, s15, rfl⟩, S2⟩
    refine ⟨_, rfl, a, cs, 3, rfl, S2.script, fun z st2 hz ok2 => ?_⟩
    refine ⟨z, st2, rfl, upd_same, ok2, fun H3 l ms st3 b3 hz3 ok3 hl0 hl3 lm _ => ?_⟩
    have s3' : Same H2 H3 := b3.fresh hz
    have S3 := S2.same s3'
    have hL3 := SqL.of (K := K) (S3.ls _ mL)
    have hR3 := SqL.of (K := K) (S3.ls _ mR)
    refine ⟨_, rfl, L, _, 0, .ref t0, rfl, rfl, hL3, rfl, _, rfl, L, _, 1, .ref t1, rfl, rfl, hL3, rfl, _, rfl, l, _, rfl, .inl (SqL.of hl3), fun m hm => ?_⟩
    have sm := Same.new (o := .lst (ms.map V.int)) hm
    have S4 := S3.same sm
    refine ⟨8, t0, t1, m, xs, ys, rfl, S4.T0, S4.T1, l0, l1, wide_of c0, .inr ⟨rfl, ms, SqL.of upd_same, fun H5 z5 s5 hz5 => ?_⟩⟩
    refine ⟨_, rfl, l, ms, rfl, SqL.of ((sm.trans s5) _ _ hl3), by omega, fun H6 z6 s6 hz6 => ?_⟩
    have S6 := (S4.same s5).same s6
    refine ⟨_, _, rfl, (hz5.same s6).eqd hz6 (dueMade_small _), _, rfl, nope rfl ?_⟩
    have hL6 := SqL.of (K := K) (S6.ls _ mL)
    have hR6 := SqL.of (K := K) (S6.ls _ mR)
    refine ⟨_, rfl, L, _, 0, .ref t0, rfl, rfl, hL6, rfl, _, rfl, R, _, 0, .ref f, rfl, rfl, hR6, rfl, t0, f, xs, rfl, S6.T0, SqL.of (S6.ls _ mf), l0, fun H7 s7 => ⟨_, rfl, yep rfl ?_⟩⟩
    have S7 := S6.same s7
    exact ⟨_, rfl, L, _, 1, .ref t1, rfl, rfl, SqL.of (S7.ls _ mL), rfl, _, rfl, R, _, 1, .ref g, rfl, rfl, SqL.of (S7.ls _ mR), rfl, t1, g, ys, rfl, S7.T1, SqL.of (S7.ls _ mg'), l1, fun H8 _ => q H8⟩
end
end K02

set_option maxRecDepth 100000
set_option maxHeartbeats 16000000
namespace K02
open PySem PySem.Spec PyProof.Rows L2
section
variable {w : World} {K : PySem.W.Frag} {mg : Str → Option Value} {base : Heap}
/-- a list of numbers was changed: what isn't it stands -/
theorem keep_lst {H : Hp} {l b : Addr} {o : HO} {xs : List V} {n : HO} (hl : H l = some (.lst xs)) (hb : H b = some o) (ne : o ≠ .lst xs) : upd H l n b = some o := by
  rw [upd_ne (fun z => ne (by rw [z, hl] at hb; cases hb; rfl))]
  exact hb
theorem IsW.upd {H : Hp} {l t : Addr} {ns : List Int} {xs : List V} {n : HO} (h : IsW K H t ns) (hl : H l = some (.lst xs)) : IsW K (upd H l n) t ns := by
  obtain ⟨dx, u, h1, h2⟩ := h
  refine ⟨dx, u, by rw [upd_ne (fun z => by rw [z, hl] at h1; cases h1)]; exact h1, ?_⟩
  rcases h2 with (h | ⟨o, h⟩) | h
  · exact .inl (.inl (by rw [upd_ne (fun z => by rw [z, hl] at h; cases h)]; exact h))
  · exact .inl (.inr ⟨o, by rw [upd_ne (fun z => by rw [z, hl] at h; cases h)]; exact h⟩)
  · exact .inr h
def spLaw (K : PySem.W.Frag) : Sp := fun vs H Q _ => ∃ (a : Addr) (ns : List Int), vs = [.ref a] ∧ SqL K H a (ns.map V.int) ∧ ∀ H', Q (.bl true) H'
theorem fn_law (T : Tx K mg) {fd : FuncData} (F : FunD K "law" "law" (defArgs s_law) (defBody s_law) (defScope s_law) [] [] (a_law K) fd) : FnOk PG w K mg base CX0 13 (a_law K) fd p_law (spLaw K) := by
  refine F.ok (k := 12) sc_law (fun vs H Q E h => ?_) (fun cdv A outer s H vs Q E hr h => ?_)
  · obtain ⟨_, _, rfl, _⟩ := h
    rfl
  · obtain ⟨a, ns, rfl, hs, q⟩ := h
    have nd := sc_law.nd
    have hr2 := hr.mono (show 2 ≤ 12 by decide)
    have hr5 := hr.mono (show 5 ≤ 12 by decide)
    have hr8 := hr.mono (show 8 ≤ 12 by decide)
    obtain ⟨u2, cv2⟩ := T.v_LIMIT
    obtain ⟨te, de, re⟩ := law_tail (w := w) (base := base) T cdv A outer s H E hr
    refine ⟨_, pss_cons (ps_set (i := 1) nd rfl (.inl rfl) (pc (ok_law_entries T) (hr.mono (by decide)) T.g_law_entries pass0 (pa_cons (pc (ok_law_pool T) hr2 T.g_law_pool pass0 (pa_cons (pv 0) (pa_cons pe_int pa_nil))) pa_nil)))
      (pss_cons (ps_set (i := 2) nd rfl (.inl rfl) (pe_lst (pa_cons (pv 1) (pa_cons (pc (ok_law_second T) hr8 T.g_law_second pass0 (pa_cons (pc (ok_law_pool T) hr2 T.g_law_pool pass0 (pa_cons (pv 0) (pa_cons pe_int pa_nil))) (pa_cons (pv 1) pa_nil))) pa_nil))))
      (pss_cons (ps_set (i := 3) nd rfl (.inl rfl) (pe_lst (pa_cons (pe_callTy call_list_of (by rfl) T.m_list (by decide +kernel) (pa_cons (pe_ix ix_list (pv 2) pe_int (fun _ _ => rfl)) pa_nil)) (pa_cons (pe_callTy call_list_of (by rfl) T.m_list (by decide +kernel) (pa_cons (pe_ix ix_list (pv 2) pe_int (fun _ _ => rfl)) pa_nil)) pa_nil))))
      (pss_cons (ps_set (i := 4) nd rfl (.inl rfl) (pe_lst (pa_cons (pmk (ok_Telling_init T) T.kTelling hr5 T.gTelling passF (pa_cons (pe_ix ix_list (pv 3) pe_int (fun _ _ => rfl)) pa_nil)) (pa_cons (pmk (ok_Telling_init T) T.kTelling hr5 T.gTelling passF (pa_cons (pe_ix ix_list (pv 3) pe_int (fun _ _ => rfl)) pa_nil)) pa_nil))))
      (pss_cons (ps_if (PW.pt (pw_or (pt_not (pt_val (pc (ok_law_same T 2) hr5 T.g_law_same pass0 (pa_cons (pv 3) (pa_cons (pv 2) pa_nil))))) (pw_or1 (pt_not (pt_val (pc (ok_law_same T 0) (hr.mono (by decide)) T.g_law_same pass0 (pa_cons (pe_glob (v := .int top) rfl cv2 ⟨_, rfl⟩) (pa_cons (pe_op op_pow pe_int pe_int) pa_nil)))))))) (pss_one (ps_ret pe_bl)) pss_nil)
      (pss_cons (ps_expr (pe_bm PySem.F.plainAttrs_list PySem.F.slot_list_append PySem.F.type_list_append mt_append (pe_ix ix_list (pv 3) pe_int (fun _ _ => rfl)) (pa_cons pe_int pa_nil)))
      (pss_cons (ps_expr (pe_bm PySem.F.plainAttrs_list PySem.F.slot_list_insert PySem.F.type_list_insert mt_insert (pe_ix ix_list (pv 3) pe_int (fun _ _ => rfl)) (pa_cons pe_int (pa_cons pe_int pa_nil)))) de)))))), ?_⟩
    have two : 2 ≤ sizeLine := by decide
    refine ⟨_, rfl, a, ns, 0, rfl, hs, fun p0 st0 hp0 ok0 => ?_⟩
    refine ⟨p0, st0, rfl, upd_same, ok0, fun H1 f xs st1 b1 hp1 ok1 hf0 hf lx cx => ?_⟩
    have s1 : Same H H1 := b1.fresh hp0
    refine ⟨_, rfl, _, rfl, a, ns, 1, rfl, s1.seq hs, fun p2 st2 hp2 ok2 => ?_⟩
    have fp2 : f ≠ p2 := fun z => by rw [← z, hf] at hp2; cases hp2
    refine ⟨_, rfl, p2, f, st2, xs, rfl, upd_same, ok2, fp2, by rw [upd_ne fp2]; exact hf, lx, cx, fun H2 g ys st3 b2 hp3 ok3 hg0 hg ly cy => ?_⟩
    have s2 : Same H1 H2 := b2.fresh hp2
    have hf2 := s2 _ _ hf
    refine ⟨two, fun R hR => ?_⟩
    have s3 : Same H2 (upd H2 R (.lst [.ref f, .ref g])) := .new hR
    have s03 := (s1.trans s2).trans s3
    generalize hG3 : upd H2 R (.lst [V.ref f, .ref g]) = H3 at s3 s03 ⊢
    have hR3 : H3 R = some (.lst [.ref f, .ref g]) := by rw [← hG3, upd_same]
    have hf3 := s3 _ _ hf2
    have hg3 := s3 _ _ hg
    refine ⟨_, rfl, R, _, 0, .ref f, rfl, rfl, SqL.of hR3, rfl, f, _, rfl, .inl (SqL.of hf3), fun l0 hl0 => ?_⟩
    have s4 : Same H3 (upd H3 l0 (.lst (xs.map V.int))) := .new hl0
    refine ⟨_, rfl, R, _, 1, .ref g, rfl, rfl, SqL.of (s4 _ _ hR3), rfl, g, _, rfl, .inl (SqL.of (s4 _ _ hg3)), fun l1 hl1 => ?_⟩
    have s5 := Same.new (o := .lst (ys.map V.int)) hl1
    have hl0b := s5 _ _ (show upd H3 l0 (.lst (xs.map V.int)) l0 = _ from upd_same)
    have hl1n : H3 l1 = none := by
      cases e : H3 l1 with
      | none => rfl
      | some o => rw [s4 _ _ e] at hl1; cases hl1
    refine ⟨two, fun G hG => ?_⟩
    have s6 := Same.new (o := .lst [V.ref l0, .ref l1]) hG
    generalize hG6 : upd (upd (upd H3 l0 (.lst (xs.map V.int))) l1 (.lst (ys.map V.int))) G (.lst [V.ref l0, .ref l1]) = H6 at s6 ⊢
    have h60 : H6 l0 = some (.lst (xs.map V.int)) := s6 _ _ hl0b
    have h61 : H6 l1 = some (.lst (ys.map V.int)) := s6 _ _ upd_same
    have h6G : H6 G = some (.lst [.ref l0, .ref l1]) := by rw [← hG6, upd_same]
    have s36 := (s4.trans s5).trans s6
    refine ⟨_, rfl, G, _, 0, .ref l0, rfl, rfl, SqL.of h6G, rfl, fun x dx hx hdx hne => mk_ok (.inl (SqL.of h60)) lx cx x dx hx hdx hne _ fun H7 s7 ht0 => ⟨rfl, ?_⟩⟩
    refine ⟨_, rfl, G, _, 1, .ref l1, rfl, rfl, SqL.of (s7 _ _ h6G), rfl, fun y dy hy hdy hne' => mk_ok (.inl (SqL.of (s7 _ _ h61))) ly cy y dy hy hdy hne' _ fun H8 s8 ht1 => ⟨rfl, ?_⟩⟩
    have ht0' := ht0.same s8
    refine ⟨two, fun L hL => ?_⟩
    have s9 := Same.new (o := .lst [V.ref x, .ref y]) hL
    generalize hG9 : upd H8 L (.lst [V.ref x, .ref y]) = H9 at s9 ⊢
    have h9L : H9 L = some (.lst [.ref x, .ref y]) := by rw [← hG9, upd_same]
    have s69 := (s7.trans s8).trans s9
    have h90 := s69 _ _ h60
    have h91 := s69 _ _ h61
    have h9G := s69 _ _ h6G
    have s39 := s36.trans s69
    have h9R := s39 _ _ hR3
    have h9f := s39 _ _ hf3
    have h9g := s39 _ _ hg3
    refine ⟨_, rfl, _, rfl, _, _, rfl, .inr ⟨G, R, _, _, rfl, rfl, .inr ⟨SqL.of h9G, SqL.of h9R⟩, rfl, two, fun i u v e1 e2 => ?_⟩, _, rfl, nope rfl ?_⟩
    · match i with
      | 0 => cases e1; cases e2; exact Eqd.row (.inr ⟨SqL.of h90, SqL.of h9f⟩) (by omega)
      | 1 => cases e1; cases e2; exact Eqd.row (.inr ⟨SqL.of h91, SqL.of h9g⟩) (by omega)
      | i + 2 => cases e1
    refine ⟨_, _, rfl, rfl, ⟨by decide, by decide, by decide⟩, _, _, rfl, ⟨by decide +kernel, .int _⟩, _, rfl, nope rfl ?_⟩
    refine ⟨_, rfl, G, _, 0, .ref l0, rfl, rfl, SqL.of h9G, rfl, .inl ⟨rfl, _, SqL.of h90⟩, l0, _, _, rfl, rfl, h90, by rw [List.length_map, sizeLine_eq]; omega, ?_⟩
    have n01 : l0 ≠ l1 := fun z => by rw [← z, upd_same] at hl1; cases hl1
    have nG0 : G ≠ l0 := fun z => by rw [z, hl0b] at hG; cases hG
    have nG1 : G ≠ l1 := fun z => by rw [z, upd_same] at hG; cases hG
    have hA1 : upd H9 l0 (.lst (xs.map V.int ++ [V.int 5])) l1 = some (.lst (ys.map V.int)) := by rw [upd_ne (Ne.symm n01)]; exact h91
    have hAG : upd H9 l0 (.lst (xs.map V.int ++ [V.int 5])) G = some (.lst [.ref l0, .ref l1]) := by rw [upd_ne nG0]; exact h9G
    refine ⟨_, rfl, G, _, 1, .ref l1, rfl, rfl, SqL.of hAG, rfl, .inl ⟨rfl, _, SqL.of hA1⟩, l1, _, 0, _, rfl, rfl, hA1, by rw [List.length_map, sizeLine_eq]; omega, by decide, by decide, ?_⟩
    generalize hI : (List.map V.int ys).take (0 : Int).toNat ++ [V.int 7] ++ (List.map V.int ys).drop (0 : Int).toNat = new1
    -- what stood before l0 and l1 stands
    have keep : ∀ b o, H3 b = some o → upd (upd H9 l0 (.lst (xs.map V.int ++ [V.int 5]))) l1 (.lst new1) b = some o := fun b o e => by
      have b0 : b ≠ l0 := fun z => by rw [z, hl0] at e; cases e
      have b1 : b ≠ l1 := fun z => by rw [z, hl1n] at e; cases e
      rw [upd_ne b1, upd_ne b0]
      exact s39 _ _ e
    have hL0 : L ≠ l0 := fun z => by rw [z, (s7.trans s8) _ _ h60] at hL; cases hL
    have hL1 : L ≠ l1 := fun z => by rw [z, (s7.trans s8) _ _ h61] at hL; cases hL
    have kL : upd (upd H9 l0 (.lst (xs.map V.int ++ [V.int 5]))) l1 (.lst new1) L = some (.lst [.ref x, .ref y]) := by rw [upd_ne hL1, upd_ne hL0]; exact h9L
    have k0 : IsW K (upd (upd H9 l0 (.lst (xs.map V.int ++ [V.int 5]))) l1 (.lst new1)) x xs := ((ht0'.same s9).upd h90).upd hA1
    have k1 : IsW K (upd (upd H9 l0 (.lst (xs.map V.int ++ [V.int 5]))) l1 (.lst new1)) y ys := ((ht1.same s9).upd h90).upd hA1
    exact re _ a f g R L x y ns xs ys _ _ _ (Same.seq keep (s03.seq hs)) (keep _ _ hf3) (keep _ _ hg3) (keep _ _ hR3) kL k0 k1 lx ly cx cy q
end
end K02

set_option maxRecDepth 100000
set_option maxHeartbeats 0
namespace K02
open PySem PySem.W PySem.Spec PySem.Calls PyProof.Rows L2 He He5 HX
theorem facts {w : World} {K : Frag} {h : Heap} {mg : Str → Option Value} {f : Addr} (X : K.In h) (G : h.Ns mainGlobals mg) (hfa : mg ("law" : Str) = some (.ref f)) (c : SaysX bx fn er "/claim/cut.py" K) :
    ∃ fd : FuncData, (∀ (s : Shared) (v : Value), BindsTo s fd ⟨[v], []⟩ [("script", v)]) ∧ ∀ base : Heap, K.In base → base.Ns mainGlobals mg → FnOk PG w K mg base CX0 13 f fd ["script"] (spLaw K) := by
  have T := tx_of c X G
  obtain ⟨fd, F⟩ := T.f_law
  have e := hfa.symm.trans T.g_law
  cases e
  exact ⟨fd, fun s v => FunD.bindsA (ps := ["script"]) F (fun _ _ _ _ _ _ us hl => match us, hl with | [_], _ => rfl) s [v] rfl, fun base _ _ => fn_law T F⟩
end K02
open PySem PySem.W PySem.Calls PyProof.Rows
theorem PySem.Challenge.cw_nightsoff_k02_tellings_holds : PySem.Challenge.rw_nightsoff_k02_tellings.Holds := by
  w_on; o_law
  refine HandSHeadRun.head_any (r := OpenLaw.row PySem.Challenge.rw_nightsoff_k02_tellings) (q := view (OpenLaw.row PySem.Challenge.rw_nightsoff_k02_tellings).prog [37]) (H := K02.hk) (ob := K02.ob) (M := 20000) (loose := K02.names) (d := HandSHeadRun.topDef (OpenLaw.row PySem.Challenge.rw_nightsoff_k02_tellings).prog 37) (kwd := []) K02.ob_eq
    (by kernel_rfl) (fun s => by kernel_rfl) K02.run (by kernel_rfl) (by kernel_rfl) (by kernel_rfl) (by rfl) (by first | assumption | decide +kernel) (by decide +kernel) ⟨rfl, rfl, rfl, rfl, rfl, by decide +kernel⟩ ?hw ?hc
  case hw => w_witness2
  case hc =>
    refine L2.walk_ofX (l := PySem.Challenge.rw_nightsoff_k02_tellings) (n := 63) (k := 13) (x := "script") (CX := fun _ => L2.CX0) rfl (by decide) (by kernel_rfl) ⟨rfl, by decide, by decide⟩ ?F (fun _ _ _ _ _ z => z)
    intro w mg fa h Y G hmg0
    obtain ⟨K, KX, c⟩ := Y
    have hmg : mg ("law" : PySem.Str) = some (.ref fa) := by
      have e : (HandSHeadRun.topDef (OpenLaw.row PySem.Challenge.rw_nightsoff_k02_tellings).prog 37).name = ("law" : PySem.Str) := by kernel_rfl
      rw [← e]
      exact hmg0
    obtain ⟨fd, hb, hF⟩ := K02.facts (w := w) KX G hmg c
    exact ⟨K, fd, K02.spLaw K, KX, hb, fun H a ns hl _ _ hS => ⟨a, ns, rfl, hS, fun _ => rfl⟩, hF⟩
