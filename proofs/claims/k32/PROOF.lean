import PyProof.Rows.All
import Wide.All
import OpenK.AllK
import Wide.FinOn
import KE.KExcSuper
import HandS.ForExc
import HandS.ExcInit
import HandS.TryMany
import HandS.ExcField
import HandS.ExcIs
import HandS.ExcSuper
import HandS.ForMost
import HandS.ClsMeth
import HandS.Star
import HandS.IsInst
import HandS.TupAny
import HandS.TupMul
import HandS.Style
import HandS.Wide
import HandS.Codes
import KE.KOpsOwn
import KE.GoesNew
import KE.GoesMore
import HandS.Iter
import HandS.Walk
import KE.KOwnIter
import KE.KSuperObj
import KE.KTupSum
import KE.KRevSl
import HandS.HeadNt
import HandS.HeadHook3
import HandS.Head2
import HandS.EndBits
import HandS.CallLocal
import HandS.ExcOwn
import HandS.WordsExc
import HandS.Strs
import HandS.SortKw
import KE.DataMinMax
import KE.KEqSeq
import PySem.Challenge.RW_nightsoff_k32_turned_rows
set_option Elab.async false
set_option linter.all false
set_option maxRecDepth 100000
set_option maxHeartbeats 4000000
/-! # Exceptions of the program: every class over NightsError whose __init__ says super().__init__(text) and then stores its parameters. -/
namespace NX
open PySem PySem.W PySem.Calls PyProof.Rows PySem.HandSPX

/-- the stores behind super().__init__: field and parameter -/
inductive Sto : List Stmt → List (Str × Str) → Prop
  | nil : Sto [] []
  | cons {f x : Str} {p1 p2 p3 p4 : Pos} {r : List Stmt} {l : List (Str × Str)} (h : Sto r l) : Sto (.Assign [.Attribute (.Name "self" p1) f p2] (.Name x p3) p4 :: r) ((f, x) :: l)

/-- an exception that is made: its fields, the newest first -/
def Half (h : Heap) (C e : Addr) (d : Option Addr) (fs : List (Str × Value)) : Prop :=
  ∃ t : Addr, h.get? e = some { cls := .ref C, dict := d, data := .fields #[.ref t, .none, .none, .none, .bool false, .none] } ∧
    match d with
    | none => fs = []
    | some dx => dx ≠ e ∧ ∃ m, h.Ns1 dx m ∧ ∀ f, m f = fs.lookup f

structure ClsX (K : Frag) (C : Addr) : Prop where
  cls : ∃ nm q N bs bm sn sub ab col dd k0 k1 k2 k3 k5, K.lookup C = some (excClassObj nm q C N bs bm true sn sub ab col dd k0 k1 k2 k3 k5 "ValueError.__new__") ∧ refsVE bm = true ∧ alongIn K "__init__" bm = some (some (.builtin "ValueError.__init__"))
  sa : findIn K (.ref C) "__setattr__" = some (some (.builtin "object.__setattr__"))
  ve : subIn K (.ref C) (.type "ValueError") = some true

theorem lookup_cons (f g : Str) (y : Value) (fs : List (Str × Value)) : ((f, y) :: fs).lookup g = if g = f then some y else fs.lookup g := by
  by_cases h : g = f
  · subst h
    simp [List.lookup]
  · have e : (g == f) = false := by simpa using h
    rw [if_neg h]
    simp [List.lookup, e]
theorem lookup_mem_keys : ∀ {l : List (Str × Value)} {x : Str} {v : Value}, l.lookup x = some v → x ∈ l.map (·.1)
  | [], _, _, h => by cases h
  | (f, y) :: r, x, v, h => by
    rw [lookup_cons] at h
    by_cases e : x = f
    · rw [e]
      exact List.mem_cons_self ..
    · rw [if_neg e] at h
      exact List.mem_cons_of_mem _ (lookup_mem_keys h)
theorem within_map {fs : List (Str × Value)} {m : Str → Option Value} (r : ∀ f, m f = fs.lookup f) : Within m (fs.map (·.1)) := fun y hy => by
  rw [r y] at hy
  clear r
  induction fs with
  | nil => exact absurd rfl hy
  | cons p l ih =>
    obtain ⟨f, z⟩ := p
    rw [lookup_cons] at hy
    by_cases e : y = f
    · rw [e]
      exact List.mem_cons_self ..
    · rw [if_neg e] at hy
      exact List.mem_cons_of_mem _ (ih hy)

section
variable {prog : Program} {w : World} {A : Around} {E : Value → Shared → Prop} {K : Frag} {C e L : Addr}
/-- one store -/
theorem put_field (T : ClsX K C) {h : Heap} {g : Array GenState} {dr : Drawn} {tk : Nat} {os : OsState} {d : Option Addr} {fs : List (Str × Value)} {f : Str} {v : Value} {Q : Unit → Shared → Prop} (X : K.In h) (I : Half h C e d fs) (hl : fs.length ≤ 900)
    (hno : findIn K (.ref C) f = some none)
    (hq : ∀ h' tk' d', Half h' C e (some d') ((f, v) :: fs) → (∀ b o, b ≠ e → (∀ dx, d = some dx → b ≠ dx) → h.get? b = some o → h'.get? b = some o) → (∀ dx, d = some dx → d' = dx) → (d = none → h.objs.size ≤ d') → Q () ⟨h', g, dr, tk', os⟩) :
    wpAny (model prog w) A (setAttr (.ref e) f v) Q E ⟨h, g, dr, tk, os⟩ := by
  obtain ⟨nm, q, N, bs, bm, sn, sub, ab, col, dd, k0, k1, k2, k3, k5, hC, hbm, _⟩ := T.cls
  have hcl : clsIn K C = some { name := nm, bases := bs, mro := .ref C :: bm, ns := N, qualname := q, hasDict := true, slotNames := sn, subclasses := sub, abstract := ab, collection := col, hasDel := false } := by unfold clsIn; rw [hC] <;> rfl
  obtain ⟨t, ho, hd⟩ := I
  cases d with
  | none =>
    have hfs : fs = [] := hd
    subst hfs
    refine set_plain X (ox := { cls := .ref C, dict := none, data := .fields #[.ref t, .none, .none, .none, .bool false, .none] }) (od := none) ⟨ho, rfl, rfl, trivial⟩ T.sa ?_
    refine exc_osa X ho hcl (show refsVE (.ref C :: bm) = true from hbm) rfl hno (fun h' tk' dx k dn dne hx hn => ?_)
    refine hq h' tk' dx ⟨t, hx, dne, _, hn, fun y => ?_⟩ (fun b o hb _ z => k b o hb z) (fun _ z => nomatch z) fun _ => dn
    rw [lookup_cons]
    rfl
  | some dx =>
    obtain ⟨dne, m, hns, rel⟩ := hd
    have hw := within_map rel
    obtain ⟨oD, _, _, hoD, _, _⟩ := hns.count hw
    refine set_plain X (ox := { cls := .ref C, dict := some dx, data := .fields #[.ref t, .none, .none, .none, .bool false, .none] }) (od := some oD) ⟨ho, rfl, rfl, hoD⟩ T.sa ?_
    refine PySem.OEX.osa_old X ho hns hw (by rw [List.length_map]; omega) hcl (show refsVE (.ref C :: bm) = true from hbm) rfl hno (fun h' tk' k hn => ?_)
    refine hq h' tk' dx ⟨t, k _ _ (Ne.symm dne) ho, dne, _, hn, fun y => ?_⟩ (fun b o _ hb z => k b o (hb dx rfl) z) (fun _ z => Option.some.inj z) fun z => nomatch z
    rw [lookup_cons, rel y]
/-- the stores, one after the other -/
theorem sto_run (T : ClsX K C) {env : Env} {m : Str → Option Value} (hLv : env.locals = L) (hk : env.scope.kind = .function) (hs : env.kindOf "self" = some .local) (hm : m "self" = some (.ref e)) :
    ∀ {r : List Stmt} {l : List (Str × Str)}, Sto r l → (∀ p ∈ l, env.kindOf p.2 = some .local ∧ (m p.2).isSome = true ∧ (p.2 == ("__debug__" : Str)) = false ∧ findIn K (.ref C) p.1 = some none) →
    ∀ {h : Heap} {g : Array GenState} {dr : Drawn} {tk : Nat} {os : OsState} {d : Option Addr} {fs : List (Str × Value)} {Q : Flow → Shared → Prop}, K.In h → K.lookup e = none → (∀ dx, d = some dx → K.lookup dx = none) → Half h C e d fs → L ≠ e → (∀ dx, d = some dx → L ≠ dx) → h.Ns L m → fs.length + l.length ≤ 900 →
      (∀ h' tk' d', Half h' C e d' ((l.map fun p => (p.1, (m p.2).getD .none)).reverse ++ fs) → (∀ b o, b ≠ e → (∀ dx, d = some dx → b ≠ dx) → h.get? b = some o → h'.get? b = some o) → (∀ dx, d = some dx → d' = some dx) →
        (d = none → ∀ dx, d' = some dx → h.objs.size ≤ dx) → Q .next ⟨h', g, dr, tk', os⟩) →
      wpAny (model prog w) A (execs r env) Q E ⟨h, g, dr, tk, os⟩ := by
  intro r l S
  induction S with
  | nil =>
    intro _ h g dr tk os d fs Q _ _ _ I _ _ _ _ hq
    exact wpAny_execs_nil (hq h tk d I (fun _ _ _ _ z => z) (fun _ z => z) fun z dx y => by rw [z] at y; cases y)
  | @cons f x p1 p2 p3 p4 r l hS ih =>
    intro hp h g dr tk os d fs Q X he hde I hLe hLd hn hl hq
    obtain ⟨q1, q2, q3, q4⟩ := hp (f, x) (List.mem_cons_self ..)
    obtain ⟨v, hv⟩ := Option.isSome_iff_exists.mp q2
    subst hLv
    refine wpAny_execs_cons (plainObj_wpAny_Assign_Attribute ?_)
    refine PySem.ESX.ldL (v := v) hn hv (PySem.ESX.ldL (v := .ref e) hn hm ?_ hk hs) hk q1 q3
    refine put_field T X I (by simp only [List.length_cons] at hl; omega) q4 fun h' tk' d' I' k' kd kn => ?_
    have nb : ∀ b o, K.lookup b = some o → b ≠ e ∧ ∀ dx, d = some dx → b ≠ dx := fun b o z => ⟨fun y => (by rw [y, he] at z; cases z), fun dx y w => (by rw [w, hde dx y] at z; cases z)⟩
    have X' : K.In h' := fun b o z => k' b o (nb b o z).1 (nb b o z).2 (X b o z)
    have hLn : env.locals < h.objs.size := hn.lt
    have hLd' : env.locals ≠ d' := by
      cases d with
      | none => exact Nat.ne_of_lt (Nat.lt_of_lt_of_le hLn (kn rfl))
      | some dx => rw [kd dx rfl]; exact hLd dx rfl
    have hn' : h'.Ns env.locals m := by
      obtain ⟨oL, es, ep, hL, rr⟩ := hn
      exact ⟨oL, es, ep, k' _ _ hLe hLd hL, rr⟩
    have he' : K.lookup d' = none := by
      cases d with
      | none =>
        cases z : K.lookup d' with
        | none => rfl
        | some o => exact absurd (Nat.lt_of_lt_of_le (Heap.lt_size (X _ _ z)) (kn rfl)) (Nat.lt_irrefl _)
      | some dx => rw [kd dx rfl]; exact hde dx rfl
    refine ih (fun p hp' => hp p (List.mem_cons_of_mem _ hp')) X' he (fun dx z => by cases z; exact he') I' hLe (fun dx z => by cases z; exact hLd') hn' (by simp only [List.length_cons] at hl ⊢; omega) fun h2 tk2 d2 I2 k2 kd2 _ => ?_
    have ed2 : d2 = some d' := kd2 d' rfl
    refine hq h2 tk2 d2 ?_ (fun b o hb hd z => k2 b o hb (fun dx y => ?_) (k' b o hb hd z)) (fun dx z => ?_) fun z dx y => ?_
    · rw [List.map_cons, List.reverse_cons, List.append_assoc]
      rw [hv]
      exact I2
    · cases y
      cases d with
      | none => exact Nat.ne_of_lt (Nat.lt_of_lt_of_le (Heap.lt_size z) (kn rfl))
      | some dx => rw [kd dx rfl]; exact hd dx rfl
    · rw [ed2, kd dx z]
    · rw [ed2] at y
      cases y
      exact kn z
end

/-- the statement super().__init__(text) -/
def supS (msg : Str) (k : Nat) (q1 q2 q3 q4 q5 q6 : Pos) : Stmt := .Expr (.Call (.Attribute (.Call (.Name "super" q1) [] [] q2) "__init__" q3) [.Constant (.str msg) k q4] [] q5) q6
structure InitX (prog : Program) (K : Frag) (C fI : Addr) (qual : Str) (params : Arguments) (scope : Scope) (body : List Stmt) (ar : Arg) (l : List (Str × Str)) : Prop where
  txt : ∃ msg k q1 q2 q3 q4 q5 q6 r, body = supS msg k q1 q2 q3 q4 q5 q6 :: r ∧ Sto r l ∧ (∀ env : Env, env.scope = scope → interactive env = false) ∧
    ∀ env : Env, env.scope = scope → ∃ pl : Sem Bool, eval (.Call (.Attribute (.Call (.Name "super" q1) [] [] q2) "__init__" q3) [.Constant (.str msg) k q4] [] q5) env = (do
      let ov ← attributeBase (.Call (.Name "super" q1) [] [] q2) "__init__" env (eval (.Call (.Name "super" q1) [] [] q2) env)
      standAt q3.atName
      let (f, first) ← holding [ov] (getMethod ov "__init__" pl)
      callWith q5 f first (backTo q5 (starEach [.Constant (.str msg) k q4] env)) [])
  iC : findIn K (.ref C) "__init__" = some (some (.ref fI))
  tC : typeIn K (.ref fI) = some (.type "function")
  fn : ∃ (oc : Value) (od : Option Addr) (kV doc pm : Value) (an : Option Addr) (cda : Addr) (ct : Value) (osl : Array (Option Value)) (cc : Addr) (cl : Value) (cld : Option Addr) (csl : Array (Option Value)) (ccl : Value) (cdd : Option Addr) (vs : Array Value) (ccs : Array (Option Value)) (file : Str) (tf : Tok),
    K.lookup fI = some ⟨oc, od, .func (ksFn "__init__" qual params body scope .none kV doc pm an (.ref cda) ct cc), osl⟩ ∧ codeIn K (.ref cda) qual = true ∧
    K.lookup cc = some ⟨cl, cld, .cell (some (.ref C)), csl⟩ ∧ K.lookup cda = some ⟨ccl, cdd, .fields vs, ccs⟩ ∧ vs[2]? = some (.str file tf) ∧ ((prog.main.file : Str) == file) = true
  par : (params.posonlyargs ++ params.args).head? = some ar
  arN : ar.arg = "self"
  sup : scope.names.lookup ("super" : Str) = some .globalImplicit
  cls : scope.names.lookup ("__class__" : Str) = some .free
  slf : scope.names.lookup ("self" : Str) = some .local
  loc : ∀ p ∈ l, scope.names.lookup p.2 = some .local ∧ (p.2 == ("__debug__" : Str)) = false ∧ findIn K (.ref C) p.1 = some none
  cell : ∀ x ∈ scope.names, x.2 ≠ .cell
  kind : scope.kind = .function
  co : scope.isCoroutine = false
  gen : scope.isGenerator = false
  top : (prog.main.scope.names.lookup ("super" : Str)).isSome = false
  few : l.length ≤ 900

/-- what stands behind the making of an exception -/
structure Made (h h' : Heap) (C e : Addr) (d : Option Addr) (fs : List (Str × Value)) : Prop where
  keep : ∀ b o, h.get? b = some o → h'.get? b = some o
  new : h.objs.size ≤ e
  obj : Half h' C e d fs
  dct : ∀ dx, d = some dx → h.objs.size ≤ dx

/-- a bound wrapper called with one written text -/
theorem mw_call {M : Model} {A : Around} {E : Value → Shared → Prop} {s : Shared} {u x : Addr} {i : String} {pos : Pos} {env : Env} {msg : Str} {kk : Nat} {q4 : Pos} {Q : Value → Shared → Prop} (hu : s.heap.get? u = some (kxs_mw i x))
    (h : ∀ t, wpAny M A (call (.ref u) [.str msg t]) Q E { s with toks := s.toks + 1 }) :
    wpAny M A (callWith pos (.ref u) [] (backTo pos (starEach [.Constant (.str msg) kk q4] env)) []) Q E s := by
  have he : starEach [.Constant (.str msg) kk q4] env = (false, eval (.Constant (.str msg) kk q4) env) :: starEach [] env := by rfl
  have hpl : (backTo pos (starEach [] env)).any (·.1) = false := by rfl
  rw [he]
  refine kxs_callWith (i := i) (x := x) (by show (false || (backTo pos (starEach [] env)).any (·.1)) = false; rw [hpl]; rfl) (evalArgs_plain ?_)
  show wpAny M A (spliced (backTo pos (starEach [.Constant (.str msg) kk q4] env))) _ E s
  exact spliced_more (Calls.Constant_str (spliced_none ⟨hu, h _⟩))

section
variable {prog : Program} {w : World} {A : Around} {R : Result → Shared → Prop} {K : Frag} {C fI : Addr} {qual : Str} {params : Arguments} {scope : Scope} {body : List Stmt} {ar : Arg} {l : List (Str × Str)} {mg mb : Str → Option Value}
theorem exn_made (T : ClsX K C) (I : InitX prog K C fI qual params scope body ar l) {s : Shared} {us : List Value} {binds : List (Str × Value)} (X : K.In s.heap) (hlim : s.heap.NoLimit) (hG : s.heap.Ns mainGlobals mg) (hB : s.heap.Ns builtinsNs mb) (hsup : mg "super" = none) (hmb : mb "super" = some (.type "super"))
    (ho : nsIn K cStatics "thirdparty.any" = some none)
    (hroom : A.depth + 1 < recursionLimit) (hlen : us.length ≤ sizeLine)
    (hbind : ∀ (s' : Shared) (e : Addr) (fd : FuncData), fd.params = params → fd.scope = scope → fd.defaults = .none → BindsTo s' fd ⟨.ref e :: us, []⟩ (("self", .ref e) :: binds))
    (hin : ∀ p ∈ l, (binds.lookup p.2).isSome = true) (hbl : ∀ y ∈ binds, scope.names.lookup y.1 = some .local) (hnd : (binds.map (·.1)).Nodup ∧ ("self" : Str) ∉ binds.map (·.1))
    (hq : ∀ h' tk e d, Made s.heap h' C e d (l.map fun p => (p.1, (binds.lookup p.2).getD .none)).reverse → R (.ok (.ret (.ref e))) { s with heap := h', toks := tk }) :
    codeAny (model prog w) A (.call (.ref C) ⟨us, []⟩) R s := by
  obtain ⟨nm, q, N, bs, bm, sn, sub, ab, col, dd, k0, k1, k2, k3, k5, hC, hbm, hal⟩ := T.cls
  obtain ⟨msg, kk, q1, q2, q3, q4, q5, q6, r, eb, hS, hint, hev⟩ := I.txt
  obtain ⟨oc, od, kV, doc, pm, an, cda, ct, osl, cc, cl, cld, csl, ccl, cdd, vs, ccs, file, tf, hfn, hcd, hcell, hcda, hvs, hfile⟩ := I.fn
  have hcl : clsIn K C = some { name := nm, bases := bs, mro := .ref C :: bm, ns := N, qualname := q, hasDict := true, slotNames := sn, subclasses := sub, abstract := ab, collection := col, hasDel := false } := by unfold clsIn; rw [hC] <;> rfl
  obtain ⟨hp, g, dr, tk, os⟩ := s
  have k : ∀ b o, hp.get? b = some o → ((hp.push (kdv_tup us)).push (excO C hp.objs.size)).get? b = some o := fun b o e => Heap.get?_push_of_some _ (Heap.get?_push_of_some _ e)
  have hget : ((hp.push (kdv_tup us)).push (excO C hp.objs.size)).get? (hp.objs.size + 1) = some (excO C hp.objs.size) := by heap_get
  have hnx : K.lookup (hp.objs.size + 1) = none := by
    cases e : K.lookup (hp.objs.size + 1) with
    | none => rfl
    | some o =>
      have z : hp.get? (hp.objs.size + 1) = some o := X _ _ e
      exact absurd (Nat.lt_of_succ_lt (Heap.lt_size z)) (Nat.lt_irrefl _)
  refine call_own F.excBase_ValueError (fun X => refsVE_contains X bm hbm) (X _ _ hC) (looks_findIn X I.iC) (fun self => bind_fn X self I.tC) hlen ?_
  refine ks_codeAny_call_defAt (binds := ("self", .ref (hp.objs.size + 1)) :: binds) (body := body) (show A.depth + 1 < recursionLimit from hroom) (k _ _ (X _ _ hfn)) rfl (hlim.keeps k) (codeRec_of (X.keeps k) hcd) rfl (hbind _ _ _ rfl rfl rfl) I.cell ?_ (fun h₀ hns hk₀ => ?_) I.co I.gen I.kind
  · intro x hx
    rcases List.mem_cons.mp hx with rfl | hx
    · exact I.slf
    · exact hbl x hx
  · subst eb
    let env : Env := callEnv (ksFn "__init__" qual params (supS msg kk q1 q2 q3 q4 q5 q6 :: r) scope .none kV doc pm an (.ref cda) ct cc) ((hp.push (kdv_tup us)).push (excO C hp.objs.size)).objs.size fI
    have k₀ : ∀ b o, hp.get? b = some o → h₀.get? b = some o := fun b o z => hk₀ b o (k b o z)
    have X₀ : K.In h₀ := X.keeps k₀
    have hx₀ := hk₀ _ _ hget
    obtain ⟨pl, hpl⟩ := hev env rfl
    refine ks_wpAt_execs_cons (ks_wpAt_Expr_any (ks_wpAt_MethodCall (pl := pl) ?_ hpl) (hint env rfl))
    refine ks_wpAt_super_base (f := fI) (cc := cda) I.sup I.cls (by decide) rfl (X₀ _ _ hfn) rfl I.par rfl (X₀ _ _ hcda) rfl hvs hfile I.top ?_
    refine ks_loadName_global I.kind I.sup (loadGlobal_builtin (hG.keeps k₀) hsup (hB.keeps k₀) hmb ⟨rfl, ?_⟩)
    refine wpAny_loadName_free I.kind I.cls rfl ⟨_, X₀ _ _ hcell, rfl⟩ ?_
    refine wpAny_loadName_local I.kind (show env.kindOf ar.arg = some .local by rw [I.arN]; exact I.slf) hns (v := .ref (hp.objs.size + 1)) (by rw [I.arN, lookup_reverse_of_nodup _ (by rw [List.map_cons]; exact List.nodup_cons.mpr ⟨hnd.2, hnd.1⟩)]; simp [List.lookup]) ?_
    refine ks_wpAny_isType_cls (X₀ _ _ hC) rfl ⟨rfl, ?_⟩
    refine ks_wpAny_call_super (X₀ _ _ hC) rfl hx₀ rfl (fun c z => nomatch z) (looks_mroIn X₀ ?_) (fun h1 e1 k1 => ?_)
    · unfold mroIn
      rw [hcl, Option.bind_some, if_neg (show ¬ (List.isEmpty (Value.ref C :: bm) = true) from Bool.false_ne_true)]
      simp
    · have X₁ : K.In h1 := X₀.keeps k1
      have hx₁ := k1 _ _ hx₀
      have Ity : Looks (model prog w) h1 (typeOf (.ref (hp.objs.size + 1))) (.ref C) := (show InstAt h1 (hp.objs.size + 1) (excO C hp.objs.size) C none from ⟨hx₁, rfl, rfl, trivial⟩).type
      have hxC : hp.objs.size + 1 ≠ C := fun z => by
        have y := X _ _ hC
        rw [← z] at y
        exact absurd (Nat.lt_of_succ_lt (Heap.lt_size y)) (Nat.lt_irrefl _)
      refine kxs_getMethod kxs_ValueError e1 (looks_opaque X₁ ho) ((looks_clsIn X₁ hcl).andThen .now) (l := bm) (by simp [List.dropWhile_cons]) X₁ hal (Ity.andThen (looks_subIn X₁ T.ve)) hxC (by decide) ?_
      refine mw_call (u := h1.objs.size) (x := hp.objs.size + 1) (Heap.get?_push_at rfl rfl) fun t => ?_
      have hw : (h1.push (kxs_mw "ValueError.__init__" (hp.objs.size + 1))).get? h1.objs.size = some (kxs_mw "ValueError.__init__" (hp.objs.size + 1)) := Heap.get?_push_at rfl rfl
      have k2 : ∀ b o, h1.get? b = some o → (h1.push (kxs_mw "ValueError.__init__" (hp.objs.size + 1))).get? b = some o := fun b o z => Heap.get?_push_of_some _ z
      have X₂ : K.In _ := X₁.keeps k2
      refine wpAny_call (codeAny_of_tree ?_)
      show wpAny _ _ (callAny (.ref h1.objs.size) ⟨[.str msg t], []⟩) _ _ _
      simp only [callAny]
      refine wpAny_bind (wpAny_load hw ?_)
      simp only [kxs_mw, show (Value.type "method-wrapper" == Value.type "method" || Value.type "method-wrapper" == Value.type "builtin_function_or_method" || Value.type "method-wrapper" == Value.type "method-wrapper") = true by decide, if_true]
      refine KFB.if_so (by decide) ?_
      refine wpAny_bind (check_bound_init F.excBase_ValueError.toExcCallFacts (X₂ _ _ hC) (k2 _ _ hx₁) rfl ?_)
      refine wpAny_bind (wpAny_pure (wpAny_pure ?_))
      refine ⟨plainId_quiet F.excBase_ValueError.init.plain _, codeAny_builtin F.excBase_ValueError.initEntry ?_⟩
      refine exc_init_tree (cls := .ref C) (t0 := hp.objs.size) (dv := none) (c2 := .none) (c3 := .none) (b4 := .bool false) (k2 _ _ hx₁) (by show 1 ≤ sizeLine; decide) fun h3 k3 e3 _ => ?_
      have kk3 : ∀ b o, b ≠ hp.objs.size + 1 → h₀.get? b = some o → h3.get? b = some o := fun b o hb z => k3 b o hb (k2 b o (k1 b o z))
      have notE : ∀ b o, hp.get? b = some o → b ≠ hp.objs.size + 1 := fun b o z => Nat.ne_of_lt (Nat.lt_of_lt_of_le (Heap.lt_size z) (Nat.le_succ _))
      have k4 : ∀ b o, hp.get? b = some o → h3.get? b = some o := fun b o z => kk3 b o (notE b o z) (k₀ b o z)
      have hL : env.locals ≠ hp.objs.size + 1 := by
        show ((hp.push (kdv_tup us)).push (excO C hp.objs.size)).objs.size ≠ hp.objs.size + 1
        rw [Heap.size_push, Heap.size_push]
        omega
      have hn3 : h3.Ns env.locals fun x => List.lookup x ((("self" : Str), Value.ref (hp.objs.size + 1)) :: binds).reverse := by
        obtain ⟨oL, es, ep, hoL, rr⟩ := hns
        exact ⟨oL, es, ep, kk3 _ _ hL hoL, rr⟩
      have nd : (((("self" : Str), Value.ref (hp.objs.size + 1)) :: binds).map (·.1)).Nodup := by
        rw [List.map_cons]
        exact List.nodup_cons.mpr ⟨hnd.2, hnd.1⟩
      have lk : ∀ x : Str, x ≠ "self" → List.lookup x ((("self" : Str), Value.ref (hp.objs.size + 1)) :: binds).reverse = binds.lookup x := fun x hx => by
        rw [lookup_reverse_of_nodup _ nd, lookup_cons, if_neg hx]
      have pne : ∀ p ∈ l, p.2 ≠ ("self" : Str) := fun p hp' e => by
        have q := hin p hp'
        rw [e] at q
        obtain ⟨v, hv⟩ := Option.isSome_iff_exists.mp q
        have : ("self" : Str) ∈ binds.map (·.1) := by
          exact lookup_mem_keys hv
        exact hnd.2 this
      refine wpAt_of_wpAny (sto_run T (env := env) (d := none) rfl I.kind I.slf (by rw [lookup_reverse_of_nodup _ nd, lookup_cons, if_pos rfl]) hS (fun p hp' => ?_) (X.keeps k4) hnx (fun _ z => nomatch z) ⟨_, e3, rfl⟩ hL (fun _ z => nomatch z) hn3 (by have := I.few; simpa using this) fun h4 tk4 d4 I4 k5 _ kn => ?_)
      · obtain ⟨a1, a2, a3⟩ := I.loc p hp'
        exact ⟨a1, by rw [lk _ (pne p hp')]; exact hin p hp', a2, a3⟩
      · refine ⟨rfl, hq h4 tk4 _ d4 ⟨fun b o z => k5 b o (notE b o z) (fun _ y => nomatch y) (k4 b o z), Nat.le_succ _, ?_, fun dx y => ?_⟩⟩
        · have e5 : (l.map fun p => (p.1, (List.lookup p.2 ((("self" : Str), Value.ref (hp.objs.size + 1)) :: binds).reverse).getD Value.none)) = l.map fun p => (p.1, (binds.lookup p.2).getD Value.none) :=
            List.map_congr_left fun p hp' => by rw [lk _ (pne p hp')]
          rw [e5, List.append_nil] at I4
          exact I4
        · have b : hp.objs.size ≤ h3.objs.size := Nat.le_trans (Nat.le_succ _) (Nat.le_of_lt (Heap.lt_size e3))
          exact Nat.le_trans b (kn rfl dx y)
end
end NX

set_option maxRecDepth 100000
set_option maxHeartbeats 4000000
/-! # Raising them, over the layer -/
namespace L2
open PySem PySem.Spec PyProof.Rows

/-- a class of the program's errors: its parameters ps, what it stores (field, parameter) -/
structure Exn (prog : Program) (K : PySem.W.Frag) (mg : Str → Option Value) (x : Str) (C fI : Addr) (ps : List Str) (l : List (Str × Str)) : Prop where
  cls : NX.ClsX K C
  ini : ∃ qual params scope body ar, NX.InitX prog K C fI qual params scope body ar l ∧ (∀ (s' : Shared) (e : Addr) (fd : FuncData) (us : List Value), us.length = ps.length → fd.params = params → fd.scope = scope → fd.defaults = .none → BindsTo s' fd ⟨.ref e :: us, []⟩ (("self", .ref e) :: ps.zip us)) ∧
    ∀ p ∈ ps, scope.names.lookup p = some .local
  loc : ∀ p ∈ l, p.2 ∈ ps
  nod : ps.Nodup ∧ ("self" : Str) ∉ ps
  gC : mg x = some (.ref C)
  sup : mg "super" = none
  any : PySem.W.nsIn K cStatics "thirdparty.any" = some none
  kC : PySem.W.keepIn K (.ref C) = true
  exC : PySem.W.subIn K (.ref C) (.type "BaseException") = some true
  tyC : PySem.W.typeIn K (.ref C) = some (.type "type")

/-- the fields of an error made with vs -/
def fieldsX (ps : List Str) (l : List (Str × Str)) (vs : List V) : List (Str × V) := (l.map fun p => (p.1, ((ps.zip vs).lookup p.2).getD .non)).reverse

theorem look_zip : ∀ {ps : List Str} {vs : List V} {us : List Value} {x : Str}, Vals vs us → RelO ((ps.zip vs).lookup x) ((ps.zip us).lookup x)
  | [], _, _, _, _ => by simp [RelO]
  | _ :: _, [], _, _, .nil => by simp [RelO]
  | p :: ps, v :: vs, _, x, .cons (b := u) r t => by
    rw [List.zip_cons_cons, List.zip_cons_cons]
    by_cases e : x = p
    · subst e
      simpa [List.lookup, RelO] using r
    · have q : (x == p) = false := by simpa using e
      simp only [List.lookup, q]
      exact look_zip t
theorem look_some : ∀ {ps : List Str} {us : List Value} {x : Str}, x ∈ ps → us.length = ps.length → ((ps.zip us).lookup x).isSome = true
  | [], _, _, h, _ => by cases h
  | p :: ps, [], _, _, h => by cases h
  | p :: ps, u :: us, x, h, hl => by
    rw [List.zip_cons_cons, NX.lookup_cons]
    by_cases e : x = p
    · rw [if_pos e]
      rfl
    · rw [if_neg e]
      exact look_some ((List.mem_cons.mp h).resolve_left e) (by simpa using hl)
theorem map_fst_zip : ∀ {ps : List Str} {us : List Value}, us.length = ps.length → (ps.zip us).map (·.1) = ps
  | [], _, _ => rfl
  | p :: ps, [], h => by cases h
  | p :: ps, u :: us, h => by
    rw [List.zip_cons_cons, List.map_cons, map_fst_zip (by simpa using h)]
theorem relO_fields {ps : List Str} {vs : List V} {us : List Value} (r : Vals vs us) (hl : us.length = ps.length) : ∀ {l : List (Str × Str)}, (∀ p ∈ l, p.2 ∈ ps) → ∀ f, RelO ((fieldsX ps l vs).lookup f) (((l.map fun p => (p.1, ((ps.zip us).lookup p.2).getD Value.none)).reverse).lookup f) := by
  intro l hp f
  have key : ∀ {l : List (Str × Str)}, (∀ p ∈ l, p.2 ∈ ps) → RelO ((l.map fun p => (p.1, ((ps.zip vs).lookup p.2).getD V.non)).lookup f) ((l.map fun p => (p.1, ((ps.zip us).lookup p.2).getD Value.none)).lookup f) := by
    intro l
    induction l with
    | nil => intro _; simp [RelO]
    | cons p r' ih =>
      intro hp
      rw [List.map_cons, List.map_cons]
      by_cases e : f = p.1
      · have q : (f == p.1) = true := by simpa using e
        simp only [List.lookup, q]
        have z := look_zip (ps := ps) (x := p.2) r
        obtain ⟨u, hu⟩ := Option.isSome_iff_exists.mp (look_some (us := us) (hp p (List.mem_cons_self ..)) hl)
        rw [hu] at z ⊢
        cases y : List.lookup p.2 (ps.zip vs) with
        | none => rw [y] at z; exact z.elim
        | some v => rw [y] at z; exact z
      · have q : (f == p.1) = false := by simpa using e
        simp only [List.lookup, q]
        exact ih fun p' h' => hp p' (List.mem_cons_of_mem _ h')
  unfold fieldsX
  rw [← List.map_reverse, ← List.map_reverse]
  exact key fun p h => hp p (List.mem_reverse.mp h)

/-- X(e, ..) -/
def tMkX (C : Addr) (ps : List Str) (l : List (Str × Str)) (ta : TA) : St → Hp → XK → Prop := fun σ H Q => ta σ H fun vs H1 => vs.length = ps.length ∧ ∀ d, H1 d = none → Q (.ref C) (some d) (upd H1 d (.xd (fieldsX ps l vs)))
section
variable {X : Cx} {C fI : Addr} {x : Str} {ps : List Str} {l : List (Str × Str)}
theorem mk_made (T : Exn X.prog X.K X.mg x C fI ps l) (hl0 : l ≠ []) {k : Nat} (hr : Room k X.A) {pins : List (Addr × Obj)} {σ : St} {H1 : Hp} {Q : XK} {s1 : Shared} {vs : List V} {us : List Value} (I1 : Inv X pins σ H1 s1) (r1 : Vals vs us) (hlen : vs.length = ps.length) (hps : ps.length ≤ 900)
    (q1 : ∀ d, H1 d = none → Q (.ref C) (some d) (upd H1 d (.xd (fieldsX ps l vs)))) : wpAny (model X.prog X.w) X.A (call (.ref C) us) (MkP X pins σ Q) X.xe s1 := by
  obtain ⟨qual, params, scope, body, ar, hI, hb, hloc⟩ := T.ini
  have hus : us.length = ps.length := by rw [← r1.length]; exact hlen
  obtain ⟨hG, mb, hB, hbb⟩ : s1.heap.Ns mainGlobals X.mg ∧ ∃ mb : Str → Option Value, s1.heap.Ns builtinsNs mb ∧ ∀ x : Str, x ≠ "__name__" → mb x = bootBuiltins x := by
    obtain ⟨_, h1, ⟨mb, h2, h3⟩, _⟩ := I1.mod
    exact ⟨h1.keeps I1.bk, mb, h2.keeps I1.bk, h3⟩
  refine wpAny_call (NX.exn_made (binds := ps.zip us) T.cls hI I1.kIn I1.nolimit hG hB T.sup ((hbb _ (by decide)).trans (by decide +kernel)) T.any (by have := hr.dp; omega) (by rw [hus]; exact Nat.le_trans hps (by decide)) (fun s' e fd h1 h2 h3 => hb s' e fd us hus h1 h2 h3)
    (fun p hp => look_some (T.loc p hp) hus) (fun y hy => hloc _ (by rw [← map_fst_zip hus]; exact List.mem_map_of_mem hy)) (by rw [map_fst_zip hus]; exact T.nod) fun h' tk' e d M => ?_)
  obtain ⟨hp, g, dr, tk, os⟩ := s1
  obtain ⟨t0, hoe, hdd⟩ := M.obj
  cases d with
  | none => exact absurd (by simpa using hdd) hl0
  | some d =>
    obtain ⟨dne, m, hns, hm⟩ := hdd
    show MkP X pins σ Q (.ref e) ⟨h', g, dr, tk', os⟩
    obtain ⟨G', g1, g2⟩ := restrict h' fun b => decide (b ≠ e)
    have gk : ∀ b, b ≠ e → G'.get? b = h'.get? b := fun b hb => g1 b (decide_eq_true hb)
    have ge : G'.get? e = none := g2 e (by simp)
    have old : ∀ b o, hp.get? b = some o → G'.get? b = some o := fun b o q => (gk b (Nat.ne_of_lt (Nat.lt_of_lt_of_le (Heap.lt_size q) M.new))).trans (M.keep b o q)
    have dbig : hp.objs.size ≤ d := M.dct d rfl
    have ob : ObjOk X.prog X.w (upd H1 d (.xd (fieldsX ps l vs))) G' d (.xd (fieldsX ps l vs)) :=
      ⟨m, hns.at (fun o q => (gk d dne).trans q), fun f => by rw [hm f]; exact relO_fields r1 hus T.loc f⟩
    have J : Inv X pins σ (upd H1 d (.xd (fieldsX ps l vs))) ⟨G', g, dr, tk', os⟩ := I1.laid (t' := tk') old dbig ob
    refine ⟨e, _, _, ⟨G', g, dr, tk', os⟩, _, .ref C, some d, rfl, J, fun b o q => ?_, ge, hoe, ⟨rfl, rfl⟩, rfl, rfl, ?_, rfl, I1.bare, raises_own T.exC T.tyC, q1 d (I1.hok.fresh dbig)⟩
    · by_cases hb : b = e
      · have q' : G'.get? b = some o := q
        rw [hb, ge] at q'; cases q'
      · exact (gk b hb).symm.trans q
    · rw [upd_ne (Ne.symm dne)]
      exact I1.hok.fresh M.new
variable {e : Expr} {es : List Expr} {ta : TA} {p pos pos2 : Pos} {W : WX} {k : Nat}
theorem pmk_x (T : Exn X.prog X.K X.mg x C fI ps l) (hl0 : l ≠ []) (hps : ps.length ≤ 900) (hr : Room k X.A) (hg : Gl X x) (ha : PA X (e :: es) ta) (hdb : (x == ("__debug__" : Str)) = false := by decide)
    (he : starEach (e :: es) X.env = (false, eval e X.env) :: starEach es X.env := by rfl) (hpl : (backTo pos (starEach es X.env)).any (·.1) = false := by rfl) :
    PMk X (.Call (.Name x p) (e :: es) [] pos) (tMkX C ps l ta) := by
  intro pins s σ H Q I h
  refine wpAny_Call_Name_kw (ld_glob I hg T.gC ?_ hdb)
  refine PySem.W.callWith_K (h₀ := X.base) I.ok.mod.kin T.kC (thn (ha.run pos pins s σ H _ I h) fun us s1 hh => ?_) he hpl
  obtain ⟨vs, H1, I1, r1, hlen, q1⟩ := hh
  exact ⟨I1.kIn, mk_made T hl0 hr I1 r1 hlen hps q1⟩
/-- raise X(e, ..) -/
def tRaiseX (C : Addr) (ps : List Str) (l : List (Str × Str)) (W : WX) (ta : TA) : TS := fun _ σ H => tMkX C ps l ta σ H fun cls d H' => W cls d σ H'
theorem ps_raiseX (hc : X.calm = true) (T : Exn X.prog X.K X.mg x C fI ps l) (hl0 : l ≠ []) (hps : ps.length ≤ 900) (hr : Room k X.A) (tk : Takes X W) (hg : Gl X x) (ha : PA X (e :: es) ta) (hdb : (x == ("__debug__" : Str)) = false := by decide)
    (he : starEach (e :: es) X.env = (false, eval e X.env) :: starEach es X.env := by rfl) (hpl : (backTo pos (starEach es X.env)).any (·.1) = false := by rfl) :
    PS X (.Raise (some (.Call (.Name x p) (e :: es) [] pos)) none pos2) (tRaiseX C ps l W ta) := ps_raise hc tk (pmk_x T hl0 hps hr hg ha hdb he hpl)
end
end L2

set_option maxRecDepth 100000
set_option maxHeartbeats 4000000
/-! # Further rules over the layer -/
namespace L2
open PySem PySem.Spec PyProof.Rows
/-- x is True, x is False -/
def rIsTF : R2 := fun x y H Q => ∃ b : Bool, y = .bl b ∧ Q (.bl (decide (x = .bl b))) H
theorem op_isTF {X : Cx} : OpR X (compareOp .Is) rIsTF := by
  intro pins s σ H x y v u Q I rx ry h
  obtain ⟨b, rfl, q⟩ := h
  cases ry
  cases x with
  | non => cases rx; exact wpAny_pure (fin_bl I q (by simp))
  | bl c => cases rx; exact wpAny_pure (fin_bl I q (by cases b <;> cases c <;> rfl))
  | int i => obtain ⟨t, rfl⟩ := rx; exact wpAny_pure (fin_bl I q (by simp))
  | str i => obtain ⟨t, rfl⟩ := rx; exact wpAny_pure (fin_bl I q (by simp))
  | byt i => obtain ⟨t, rfl⟩ := rx; exact wpAny_pure (fin_bl I q (by simp))
  | flt i => obtain ⟨t, rfl⟩ := rx; exact wpAny_pure (fin_bl I q (by simp))
  | ref a => cases rx; exact wpAny_pure (fin_bl I q (by simp))
  | ty n => cases rx; exact wpAny_pure (fin_bl I q (by simp))

/-! ### operators that an own class defines -/
/-- what a class says of its own method for the operator op (forward) -/
structure OwnOp (K : PySem.W.Frag) (C : Addr) (op : Operator) (f : Addr) : Prop where
  first : PySem.W.selfFirst K C = true
  at_ : PySem.W.findIn K (.ref C) (PySem.dunder op.info.2) = some (some (.ref f))
  fn : PySem.W.isFn K (.ref f) = true
/-- .. against a value of the built-in class T -/
structure OwnOpT (K : PySem.W.Frag) (C : Addr) (op : Operator) (f : Addr) (T : String) : Prop extends OwnOp K C op f where
  rev : ∃ rc, PySem.W.findIn K (.ref C) (dunderR op.info.2) = some rc ∧ (rc = none ∨ ∃ g : Addr, rc = some (.ref g))
  tf : ∃ fo, PySem.W.findIn K (.type T) (PySem.dunder op.info.2) = some fo
  tr : ∃ ro, PySem.W.findIn K (.type T) (dunderR op.info.2) = some ro
  sub : PySem.W.subIn K (.type T) (.ref C) = some false
theorem inst_of {P : Program} {w : World} {H : Hp} {h : Heap} {a C dx : Addr} {fs : List (Str × V)} (hok : HOk P w H h) (ha : H a = some (.ins C dx fs)) : ∃ od, PySem.W.InstAt h a (PySem.W.instObj C dx) C (some od) := by
  obtain ⟨mA, J, _⟩ := ins_get hok ha
  obtain ⟨od, J, _⟩ := J.look
  exact ⟨od, J⟩
theorem back_of {X : Cx} {pins : List (Addr × Obj)} {σ : St} {Q : VK} {v : Value} {s' : Shared} (h : EP X pins σ Q v s') : PySem.W.CmpBack (fun v s' => EP X pins σ Q v s') v s' := by
  obtain ⟨x, H, I, r, q⟩ := id h
  cases v <;> first
    | exact h
    | (cases x <;> first | (obtain ⟨t, z⟩ := r; cases z; done) | (cases r; done))
/-- a op b, b of the same class -/
def rOwnOp (C : Addr) (sp : Sp) (E : XK) : R2 := fun x y H Q => ∃ a dx fs b dy gs, x = .ref a ∧ y = .ref b ∧ H a = some (.ins C dx fs) ∧ H b = some (.ins C dy gs) ∧ sp [.ref a, .ref b] H Q E
theorem op_own {X : Cx} {CX : CXT} {op : Operator} {C f : Addr} {fd : FuncData} {ps : List Str} {sp : Sp} {E : XK} {k : Nat} (O : OwnOp X.K C op f) (F : FnOk X.prog X.w X.K X.mg X.base CX k f fd ps sp) (hb : Binds X.K fd ps []) (hr : Room k X.A) (hx : Passes CX X E) :
    OpR X (binaryOp op) (rOwnOp C sp E) := by
  intro pins s σ H x y v u Q I rx ry h
  obtain ⟨a, dx, fs, b, dy, gs, rfl, rfl, ha, hb', hsp⟩ := h
  cases rx
  cases ry
  obtain ⟨od, J⟩ := inst_of I.hok ha
  obtain ⟨od', J'⟩ := inst_of I.hok hb'
  obtain ⟨m, hF⟩ := I.fr
  refine PySem.W.binop_K hF I.ok.mod.kin J J'.type O.first O.at_ O.fn (wpAny_mono (run_fn F hr hb .nil hx I (us := [.ref a, .ref b]) (vs := [.ref a, .ref b]) (.cons rfl (.cons rfl .nil)) hsp) (fun r s' q => back_of q) fun _ _ z => z)
/-- a op n, n a number -/
def rOwnOpI (C : Addr) (sp : Sp) (E : XK) : R2 := fun x y H Q => ∃ a dx fs n, x = .ref a ∧ y = .int n ∧ H a = some (.ins C dx fs) ∧ sp [.ref a, .int n] H Q E
theorem op_ownI {X : Cx} {CX : CXT} {op : Operator} {C f : Addr} {fd : FuncData} {ps : List Str} {sp : Sp} {E : XK} {k : Nat} (O : OwnOpT X.K C op f "int") (F : FnOk X.prog X.w X.K X.mg X.base CX k f fd ps sp) (hb : Binds X.K fd ps []) (hr : Room k X.A) (hx : Passes CX X E) :
    OpR X (binaryOp op) (rOwnOpI C sp E) := by
  intro pins s σ H x y v u Q I rx ry h
  obtain ⟨a, dx, fs, n, rfl, rfl, ha, hsp⟩ := h
  cases rx
  obtain ⟨t, rfl⟩ := ry
  obtain ⟨od, J⟩ := inst_of I.hok ha
  obtain ⟨m, hF⟩ := I.fr
  obtain ⟨rc, h1, h2⟩ := O.rev
  obtain ⟨fo, h3⟩ := O.tf
  obtain ⟨ro, h4⟩ := O.tr
  refine PySem.W.ksp_binT (T := "int") hF I.ok.mod.kin J rfl O.first O.at_ O.fn h1 h2 h3 h4 O.sub (wpAny_mono (run_fn F hr hb .nil hx I (us := [.ref a, .int n t]) (vs := [.ref a, .int n]) (.cons rfl (.cons ⟨t, rfl⟩ .nil)) hsp) (fun r s' q => back_of q) fun _ _ z => z)

/-- -a -/
def rOwnNeg (C : Addr) (sp : Sp) (E : XK) : V → Hp → VK → Prop := fun x H Q => ∃ a dx fs, x = .ref a ∧ H a = some (.ins C dx fs) ∧ sp [.ref a] H Q E
theorem un_own {X : Cx} {CX : CXT} {C f : Addr} {fd : FuncData} {ps : List Str} {sp : Sp} {E : XK} {k : Nat} (hs : PySem.W.findIn X.K (.ref C) "__neg__" = some (some (.ref f))) (hf : PySem.W.isFn X.K (.ref f) = true) (F : FnOk X.prog X.w X.K X.mg X.base CX k f fd ps sp) (hb : Binds X.K fd ps []) (hr : Room k X.A) (hx : Passes CX X E) :
    UnR X (unaryOp .USub) (rOwnNeg C sp E) := by
  intro pins s σ H x v Q I rx h
  obtain ⟨a, dx, fs, rfl, ha, hsp⟩ := h
  cases rx
  obtain ⟨od, J⟩ := inst_of I.hok ha
  obtain ⟨m, hF⟩ := I.fr
  exact PySem.W.ksp_neg hF I.ok.mod.kin J hs hf (run_fn F hr hb .nil hx I (us := [.ref a]) (vs := [.ref a]) (.cons rfl .nil) hsp)
end L2

set_option maxRecDepth 100000
set_option maxHeartbeats 4000000
/-! # enumerate(x), x a list or a tuple -/
namespace EN
open PySem PySem.Builtin
set_option maxHeartbeats 1000000 in
theorem meets1 {v : Value} {o : Obj} {H : Heap → Prop} (B : Begins v o H) :
    Meets (Builtin.«enumerate.__new__» ⟨[.type "enumerate", v], []⟩) (fun _ R s => H s.heap ∧
      R (.ok (.ret (.ref (s.heap.push o).objs.size))) { s with heap := (s.heap.push o).push { cls := .type "enumerate", data := .fields #[.none, .bool false, .ref s.heap.objs.size, rawInt 0, .none, .none] } }) :=
  .of_wp fun prog w A R s h => by
    obtain ⟨hp, g, d, tk, os⟩ := s; obtain ⟨h1, h⟩ := h
    have hsub := sub_enumerate
    have q1 : ∀ {A' : Around} {E : Value → Shared → Prop} {Q : Value → Shared → Prop}, Q (.ref hp.objs.size) ⟨hp.push o, g, d, tk, os⟩ → wpAny (model prog w) A' (pyIter v) Q E ⟨hp, g, d, tk, os⟩ :=
      fun q => B.iter prog w _ _ ⟨hp, g, d, tk, os⟩ _ h1 q
    wp_walk using q1
    refine wpAny_stack_any fun st => wpAny_pure ?_
    split
    · rename_i c _ _ _ _ _
      cases (c == Value.type "enumerate")
      · wp_walk using q1
        exact ⟨_, rfl, h⟩
      · wp_walk using q1
        exact ⟨_, rfl, h⟩
    · wp_walk using q1
      exact ⟨_, rfl, h⟩
section
variable {prog : Program} {w : World} {A : Around} {E : Value → Shared → Prop} {s : Shared}
theorem begins1 {v : Value} {o : Obj} {H : Heap → Prop} {Q : Value → Shared → Prop} (B : Begins v o H) (h1 : H s.heap)
    (h : ∀ h', IsEnum h' (s.heap.objs.size + 1) s.heap.objs.size 0 .none → h'.get? s.heap.objs.size = some o → h'.objs.size = s.heap.objs.size + 2 →
      (∀ b o, s.heap.get? b = some o → h'.get? b = some o) → Q (.ref (s.heap.objs.size + 1)) { s with heap := h' })
    (ht : checkTypeCall "enumerate" ⟨[v], []⟩ = pure ()) (hn : checkBuiltinCall "enumerate.__new__" ⟨[.type "enumerate", v], []⟩ = pure ()) (ha : ∀ obj, argsOk "object.__init__" ⟨[obj, v], []⟩) :
    wpAny (model prog w) A (call (.type "enumerate") [v]) Q E s := by
  refine callType_new F.called_enumerate (by decide) ht hn ha F.entry_enumerate_new (meets1 B) ⟨h1, ?_⟩
  have hz : (s.heap.push o).objs.size = s.heap.objs.size + 1 := Heap.size_push ..
  show _ ∧ _
  rw [hz]
  have he : IsEnum ((s.heap.push o).push { cls := .type "enumerate", data := .fields #[.none, .bool false, .ref s.heap.objs.size, rawInt 0, .none, .none] }) (s.heap.objs.size + 1) s.heap.objs.size 0 .none := by
    have := Heap.get?_push_size (s.heap.push o) (o := { cls := .type "enumerate", data := .fields #[.none, .bool false, .ref s.heap.objs.size, rawInt 0, .none, .none] }) rfl
    rw [hz] at this; exact this
  refine ⟨⟨_, he, rfl⟩, h _ he (Heap.get?_push_of_some _ (Heap.get?_push_size _ B.free)) (by rw [Heap.size_push, hz]) fun b o x => Heap.get?_push_of_some _ (Heap.get?_push_of_some _ x)⟩
end
end EN

namespace L2
open PySem PySem.Spec PyProof.Rows
/-- enumerate over the tuple at a, from k on -/
def IteT (K : PySem.W.Frag) (k : Int) (a : Addr) : It :=
  ⟨fun i H => ∃ (xs : List V) (x : V), SqT K H a xs ∧ xs[i]? = some x, fun i H v H' => ∃ T x, v = .ref T ∧ H T = none ∧ H' = upd H T (.tup [.int (k + (i : Int)), x]) ∧ ∀ xs, SqT K H a xs → xs[i]? = some x, fun i H => ∃ xs : List V, SqT K H a xs ∧ xs.length = i⟩
theorem turn_enumT {P : Program} {w : World} {K : PySem.W.Frag} {elts : List Expr} {kk : Nat} {tpos : Pos} (k : Int) (a e it : Addr) (hei : e ≠ it) :
    Turn P w K (.Tuple elts kk tpos) (IteT K k a) [e, it] e (fun i h => (∃ old, IsEnum h e it (k + ((i : Nat) : Int)) old) ∧ h.IsTupleIter it a i) where
  mem := by simp
  obj := fun i h st b hb => by
    obtain ⟨⟨old, he⟩, ⟨o, ho, hc, hd⟩⟩ := st
    have e' : b = e ∨ b = it := by simpa using hb
    rcases e' with z | z
    · rw [z]; exact ⟨_, he, fun v q => nomatch q⟩
    · rw [z]; exact ⟨o, ho, fun v q => by rw [hd] at q; cases q⟩
  keep := fun i h h' st k => let ⟨⟨old, he⟩, hi⟩ := st; ⟨⟨old, k e (by simp) _ he⟩, hi.at fun o q => k it (by simp) o q⟩
  item := by
    intro X hP hw hK hc i pins s σ H E I hf st hg
    subst hP hw hK
    obtain ⟨⟨old, he⟩, hit⟩ := st
    obtain ⟨xs, x, hq, hx⟩ := hg
    obtain ⟨its, rv, p, hz⟩ := I.tuple hq
    obtain ⟨u, hu, ru⟩ := rv.get hx
    have hel : e < s.heap.objs.size := Heap.lt_size he
    have hil : it < s.heap.objs.size := by obtain ⟨_, q, _⟩ := hit; exact Heap.lt_size q
    have hae : e ≠ a := fun z => by
      obtain ⟨o, ho, hcls, _⟩ := p
      rw [← z, he] at ho
      cases ho
      exact absurd (show Value.type "enumerate" = Value.type "tuple" from hcls) (by decide)
    have hai : a ≠ it := fun z => by
      obtain ⟨o, ho, hcls, _⟩ := p
      obtain ⟨o2, ho2, hc2, _⟩ := hit
      rw [z, ho2] at ho
      cases ho
      rw [hc2] at hcls
      exact absurd hcls (by decide)
    have W := GoesN.enumFrom (prog := X.prog) (w := X.w) (A := X.A) (elts := elts) (x1 := kk) (pos := tpos) k (Draws.tuple (prog := X.prog) (w := X.w) (A := X.A.in1) (I.ok.hd hc) it a hai its.toArray) e hei (by simp [hei, hae]) (by simp)
    have hi : i < its.toArray.size := by
      have := (List.getElem?_eq_some_iff.mp hu).1
      simpa using this
    refine wpAny_mono (W.goes i s _ E hi ⟨⟨old, he⟩, hit, p⟩ fun v h' tk hY st' hk htk => ?_) (fun r s1 hr => hr) fun _ _ z => z
    obtain ⟨T, t, y, rfl, hT, hPy, hTup⟩ := hY
    have ey : y = u := by
      have hu' : its.toArray[i]? = some u := by simpa using hu
      rw [hu'] at hPy
      exact (Option.some.inj hPy).symm
    subst ey
    obtain ⟨⟨old2, he2⟩, hit2, _⟩ := st'
    have new : ObjOk X.prog X.w (upd H T (.tup [.int (k + (i : Int)), x])) h' T (.tup [.int (k + (i : Int)), x]) :=
      ⟨by show 2 ≤ sizeLine; decide, [.int (k + (i : Int)) t, y], .cons ⟨_, rfl⟩ (.cons ru .nil), hTup⟩
    have I1 : Inv X pins σ (upd H T (.tup [.int (k + (i : Int)), x])) { s with heap := h', toks := tk } :=
      I.turnedNew (ch := [e, it]) (fun b ob hb q => hk b ob hb q) hf hT new
    refine ⟨.ref T, _, I1, rfl, ⟨_, x, rfl, I.hok.fresh hT, rfl, fun ys hy => by rw [I.tuple_inj hy hq]; exact hx⟩, ⟨⟨old2, he2⟩, hit2⟩, fun b hb => ?_⟩
    have hb' : b < s.heap.objs.size := by
      have e' : b = e ∨ b = it := by simpa using hb
      rcases e' with z | z
      · rw [z]; exact hel
      · rw [z]; exact hil
    rw [upd_ne (Nat.ne_of_lt (Nat.lt_of_lt_of_le hb' hT))]
    exact (hf b hb).1
  done := by
    intro X hP hw hK hc i pins s σ H E I hf st hg
    subst hP hw hK
    obtain ⟨⟨old, he⟩, hit⟩ := st
    obtain ⟨xs, hq, hx⟩ := hg
    obtain ⟨its, rv, p, hz⟩ := I.tuple hq
    have hai : a ≠ it := fun z => by
      obtain ⟨o, ho, hcls, _⟩ := p
      obtain ⟨o2, ho2, hc2, _⟩ := hit
      rw [z, ho2] at ho
      cases ho
      rw [hc2] at hcls
      exact absurd hcls (by decide)
    have hae : e ≠ a := fun z => by
      obtain ⟨o, ho, hcls, _⟩ := p
      rw [← z, he] at ho
      cases ho
      exact absurd (show Value.type "enumerate" = Value.type "tuple" from hcls) (by decide)
    have W := GoesN.enumFrom (prog := X.prog) (w := X.w) (A := X.A) (elts := elts) (x1 := kk) (pos := tpos) k (Draws.tuple (prog := X.prog) (w := X.w) (A := X.A.in1) (I.ok.hd hc) it a hai its.toArray) e hei (by simp [hei, hae]) (by simp)
    have hl := rv.length
    have hn : its.toArray.size = i := by
      rw [List.size_toArray, ← hl, hx]
    refine wpAny_mono (W.stops s (fun s1 => Inv X pins σ H s1) E (by rw [hn]; exact ⟨⟨old, he⟩, hit, p⟩) fun h' tk hk htk => I.turnedL (t' := tk) (ch := [e, it]) (fun b o hb q => hk b o hb q) hf) (fun r s1 hr => hr) fun _ _ z => z
  self := fun A i s Q E st h => let ⟨⟨_, he⟩, _⟩ := st; wpAny_pyIter_enum he h

theorem walk_enumT {K : PySem.W.Frag} {k : Int} {a : Addr} {xs : List V} : Walk (IteT K k a) xs.length (fun H => SqT K H a xs) (YPair (fun i => some (.int (k + (i : Nat)))) (fun i => xs[i]?)) where
  goes := fun i H hi h => ⟨xs, xs[i], h, List.getElem?_eq_getElem hi⟩
  stops := fun H h => ⟨xs, h, rfl⟩
  yields := fun i H v H' hi h y => by
    obtain ⟨T, x, rfl, hT, rfl, hx⟩ := y
    exact ⟨T, .int (k + (i : Nat)), x, rfl, hT, rfl, rfl, hx xs h⟩
/-- enumerate(x), x a list or a tuple -/
def iEnumA (K : PySem.W.Frag) (ta : TA) : TI := fun σ H R => ta σ H fun vs H1 => ∃ a xs, vs = [.ref a] ∧ ((SqL K H1 a xs ∧ R (Ite K a) H1) ∨ (SqT K H1 a xs ∧ R (IteT K 0 a) H1))
theorem pi_enumA {X : Cx} {e : Expr} {ta : TA} {p pos tpos : Pos} {elts : List Expr} {kk : Nat} (hg : Gl X "enumerate") (hm : X.mg "enumerate" = none) (ha : PA X [e] ta) (hs : starEach [e] X.env = [(false, eval e X.env)] := by rfl) :
    PI X (.Tuple elts kk tpos) (.Call (.Name "enumerate" p) [e] [] pos) (iEnumA X.K ta) := by
  refine ⟨fun pins s σ H R I h => ?_⟩
  refine Call_ (ld_blt I hg hm boot_enumerate (PyProof.Rows.callWith_type1 (thn (ha.run pos pins s σ H _ I h) fun us s1 ⟨vs, H1, I1, r1, q1⟩ => ?_) hs rfl))
  obtain ⟨a, xs, ex, q1⟩ := q1
  subst ex
  cases r1 with
  | cons r rr =>
    cases rr
    cases r
    have fresh2 : ∀ b, b ∈ [s1.heap.objs.size + 1, s1.heap.objs.size] → FpOk X pins H1 b := fun b hb => by
      have e' : b = s1.heap.objs.size + 1 ∨ b = s1.heap.objs.size := by simpa using hb
      have hle : s1.heap.objs.size ≤ b := by
        rcases e' with z | z
        · rw [z]; exact Nat.le_add_right _ _
        · rw [z]; exact Nat.le_refl _
      exact I1.fpOk hle (I1.hok.fresh hle)
    rcases q1 with ⟨hq, q⟩ | ⟨hq, q⟩
    · obtain ⟨its, rv, p', hz⟩ := I1.list hq
      refine call_enumerate_list p'.isList fun h' he hit hsz hk => wpAny_pyIter_enum he ?_
      have I2 : Inv X pins σ H1 { s1 with heap := h' } := I1.kept (t' := s1.toks) hk
      exact ⟨s1.heap.objs.size + 1, [s1.heap.objs.size + 1, s1.heap.objs.size], _, _, H1, rfl, I2, turn_enum a (s1.heap.objs.size + 1) s1.heap.objs.size, ⟨⟨.none, he⟩, hit, Nat.succ_ne_self _⟩, fresh2, q⟩
    · obtain ⟨its, rv, p', hz⟩ := I1.tuple hq
      refine EN.begins1 (begins_tuple a its.toArray) p' (fun h' he hit hsz hk => wpAny_pyIter_enum he ?_) (F.typeCall_enumerate_1 _) (F.newCall_enumerate_1 _) (fun obj => F.args_object_init_2 obj _)
      have I2 : Inv X pins σ H1 { s1 with heap := h' } := I1.kept (t' := s1.toks) hk
      exact ⟨s1.heap.objs.size + 1, [s1.heap.objs.size + 1, s1.heap.objs.size], _, _, H1, rfl, I2, turn_enumT 0 a (s1.heap.objs.size + 1) s1.heap.objs.size (Nat.succ_ne_self _), ⟨⟨.none, he⟩, ⟨_, hit, rfl, rfl⟩⟩, fresh2, q⟩
end L2

set_option maxRecDepth 100000
set_option maxHeartbeats 4000000
/-! # for x in an instance whose __iter__ says: return iter(self.field), the field a tuple -/
namespace L2
open PySem PySem.Spec PyProof.Rows PySem.W
structure OwnIt (K : Frag) (mg : Str → Option Value) (C f : Addr) (fld : Str) : Prop where
  cls : Cls K C
  noA : NoAttr K C fld
  at_ : findIn K (.ref C) "__iter__" = some (some (.ref f))
  fn : isFn K (.ref f) = true
  free : mg "iter" = none
  txt : ∃ qual params scope p1 p2 p3 p4 p5, (∃ (oc : Value) (od : Option Addr) (kV doc pm : Value) (an : Option Addr) (cdv ct : Value) (osl : Array (Option Value)),
      K.lookup f = some ⟨oc, od, .func (fnOf "__iter__" qual params [.Return (some (.Call (.Name "iter" p1) [.Attribute (.Name "self" p2) fld p3] [] p4)) p5] scope .none kV doc pm an cdv ct), osl⟩ ∧ codeIn K cdv qual = true) ∧
    scope.names.lookup ("self" : Str) = some .local ∧ scope.names.lookup ("iter" : Str) = some .globalImplicit ∧ (∀ x ∈ scope.names, x.2 ≠ .cell) ∧ scope.kind = .function ∧ scope.isCoroutine = false ∧ scope.isGenerator = false ∧
    (∀ (s : Shared) (fd : FuncData) (v : Value), fd.params = params → fd.scope = scope → fd.defaults = .none → BindsTo s fd ⟨[v], []⟩ [("self", v)]) ∧
    ∀ env : Env, env.scope = scope → attributeBase (.Name "self" p2) fld env (eval (.Name "self" p2) env) = eval (.Name "self" p2) env
abbrev tupIt (t : Addr) : Obj := { cls := .type "tuple_iterator", data := .fields #[.ref t, .int 0 0] }
theorem call_iter_tup {prog : Program} {w : World} {A : Around} {E : Value → Shared → Prop} {s : Shared} {t : Addr} {items : Array Value} {Q : Value → Shared → Prop} (ht : s.heap.IsTuple t items) (h : Q (.ref s.heap.objs.size) { s with heap := s.heap.push (tupIt t) }) :
    wpAny (model prog w) A (call (.builtin "iter") [.ref t]) Q E s := by
  refine Calls.call_function_entry (by decide +kernel) (by decide +kernel) kdk_entry_iter (kdk_args_iter _) ?_
  unfold Builtin.«iter»
  refine wpAny_bind (m := someArgs "iter" 1 2 _) (wpAny_of_eq (a := [Value.ref t]) (by first | rfl | kernel_rfl!) ?_)
  show wpAny _ _ (pyIter (.ref t) >>= _) _ _ _
  refine wpAny_bind (wpAny_pyIter_tuple ht ?_)
  exact wpAny_pure ⟨_, rfl, h⟩
section
variable {X : Cx} {pins : List (Addr × Obj)} {σ : St} {H : Hp} {s : Shared} {a C dx f t : Addr} {fs : List (Str × V)} {fld : Str} {xs : List V} {k : Nat}
theorem own_iter (O : OwnIt X.K X.mg C f fld) (hr : Room k X.A) (I : Inv X pins σ H s) (ha : H a = some (.ins C dx fs)) (hv : fs.lookup fld = some (.ref t)) (hT : SqT X.K H t xs) {Q : Value → Shared → Prop}
    (hq : ∀ h' tk it, (∀ b o, s.heap.get? b = some o → h'.get? b = some o) → s.heap.objs.size ≤ it → h'.get? it = some (tupIt t) → Q (.ref it) { s with heap := h', toks := tk }) :
    wpAny (model X.prog X.w) X.A (pyIter (.ref a)) Q X.xe s := by
  obtain ⟨qual, params, scope, p1, p2, p3, p4, p5, ⟨oc, od, kV, doc, pm, an, cdv, ct, osl, hfn, hcd⟩, sc1, sc2, sc3, sc4, sc5, sc6, hb, hbase⟩ := O.txt
  obtain ⟨mA, J0, rel, _⟩ := ins_get I.hok ha
  obtain ⟨oda, J, _⟩ := J0.look
  obtain ⟨m, hF⟩ := I.fr
  obtain ⟨its, rv, hTup, _⟩ := I.tuple hT
  obtain ⟨u, hu, ru⟩ := RelO.some_of (v := V.ref t) (o := mA fld) (by rw [← hv]; exact rel fld)
  cases ru
  have hG : s.heap.Ns mainGlobals X.mg := I.mod.glob.keeps I.bk
  obtain ⟨mb, hB, hbb⟩ := I.mod.blt
  have X0 := I.kIn
  have hlim := I.nolimit
  obtain ⟨hp, g, dr, tk, os⟩ := s
  refine owit_iter hF I.ok.mod.kin J O.at_ O.fn (wpAny_call ?_)
  refine ks_codeAny_call_defAt (binds := [("self", .ref a)]) (by have := hr.dp; omega) (X0 _ _ hfn) rfl hlim (codeRec_of X0 hcd) rfl (hb _ _ _ rfl rfl rfl) sc3 (fun y hy => ?_) (fun h₀ hns hk₀ => ?_) sc5 sc6 sc4
  · have e : y = (("self" : Str), Value.ref a) := by simpa using hy
    rw [e]
    exact sc1
  · have X1 : X.K.In h₀ := X0.keeps hk₀
    have J1 : ObjM h₀ a dx C mA := ⟨hk₀ _ _ J0.obj, J0.ns.at fun o q => hk₀ _ o q, J0.ne⟩
    refine wpAt_of_wpAny (wpAny_execs_cons (wpAny_Return_some ?_))
    refine wpAny_Call_Name_kw (Calls.Name_function_global sc4 sc2 (Calls.loadGlobal_builtin (hG.keeps hk₀) O.free ((hB.keeps I.bk).keeps hk₀) ((hbb _ (by decide)).trans (by decide +kernel : bootBuiltins "iter" = some (.builtin "iter"))) ?_) (by decide))
    refine PyProof.Rows.callWith_builtin1 (spliced_more (attr_of (hbase _ rfl) (PySem.ESX.ldL (v := .ref a) hns (by simp [List.lookup]) ?_ sc4 sc1))) (by rfl) (by rfl)
    refine get_map X1 J1 (O.cls.get _) O.cls.hd O.noA hu rfl (spliced_none ?_)
    refine call_iter_tup (show h₀.IsTuple t its.toArray from let ⟨o, h1, h2⟩ := hTup; ⟨o, hk₀ _ o h1, h2⟩) ?_
    have hT1 : (⟨h₀.push (tupIt t), g, dr, tk + 1 + 1, os⟩ : Shared).TypeIs (.ref h₀.objs.size) "tuple_iterator" := ⟨_, Heap.get?_push_at rfl rfl, rfl⟩
    refine wpAny_specialOf (hT1) F.slot_tuple_iterator_next.lookup ?_
    exact hq _ _ _ (fun b o q => Heap.get?_push_of_some _ (hk₀ b o q)) (by
      have := hns.lt
      exact Nat.le_of_lt this) (Heap.get?_push_at rfl rfl)
end
end L2

set_option maxRecDepth 100000
set_option maxHeartbeats 4000000
/-! # Words for lists or tuples, heaps that only grow -/
namespace L2
open PySem PySem.Spec PyProof.Rows
/-- a list or a tuple -/
def SqA (K : PySem.W.Frag) (H : Hp) (a : Addr) (xs : List V) : Prop := SqL K H a xs ∨ SqT K H a xs
theorem Same.seqT {K : PySem.W.Frag} {H H' : Hp} {a : Addr} {xs : List V} (e : Same H H') (h : SqT K H a xs) : SqT K H' a xs := by
  rcases h with (h | ⟨o, h⟩) | h
  · exact .inl (.inl (e _ _ h))
  · exact .inl (.inr ⟨o, e _ _ h⟩)
  · exact .inr h
theorem Same.seqA {K : PySem.W.Frag} {H H' : Hp} {a : Addr} {xs : List V} (e : Same H H') (h : SqA K H a xs) : SqA K H' a xs := h.imp e.seq e.seqT
theorem Same.new {H : Hp} {p : Addr} {o : HO} (h : H p = none) : Same H (upd H p o) := fun b u e => by
  rw [upd_ne (fun z => by rw [z, h] at e; cases e)]
  exact e
theorem Same.new' {H H' : Hp} {p : Addr} {o : HO} (s : Same H H') (h : H' p = none) : Same H (upd H' p o) := s.trans (.new h)
theorem passX {X : Cx} {K : Value → Shared → Prop} {E₁ : Value → Shared → Prop} (hx : X.xe = fun e s' => wpAny (model X.prog X.w) X.A (leaving X.env e) (fun _ s'' => K e s'') E₁ s') : PassesOwn (model X.prog X.w) X.A X.env X.xe := passes_of hx
theorem map_get {α : Type} {f : α → V} {ns : List α} {i : Nat} {y : V} (e : (ns.map f)[i]? = some y) : ∃ n, ns[i]? = some n ∧ y = f n := by
  rw [List.getElem?_map] at e
  cases q : ns[i]? with
  | none => rw [q] at e; cases e
  | some n => rw [q] at e; exact ⟨n, rfl, (Option.some.inj e).symm⟩
theorem enumA_of {K : PySem.W.Frag} {H : Hp} {a : Addr} {xs : List V} {R : It → Hp → Prop} (h : SqA K H a xs) (hR : ∀ (J : It) (G : Hp → Prop), (∀ H', Same H H' → G H') → Walk J xs.length G (YPair (fun i => some (.int (i : Nat))) (fun i => xs[i]?)) → R J H) :
    (SqL K H a xs ∧ R (Ite K a) H) ∨ (SqT K H a xs ∧ R (IteT K 0 a) H) := by
  rcases h with h | h
  · exact .inl ⟨h, hR _ _ (fun _ s => s.seq h) walk_enum⟩
  · exact .inr ⟨h, hR _ _ (fun _ s => s.seqT h) ((walk_enumT (k := 0)).mono (fun _ h => h) fun i H x H' _ _ y => by
      obtain ⟨T', x', y', z⟩ := y
      exact ⟨T', x', y', by simpa using z⟩)⟩
/-- enumerate(x), x a list or a tuple, told by its Walk -/
def iEnumW (K : PySem.W.Frag) (ta : TA) : TI := fun σ H R => ta σ H fun vs H1 => ∃ a xs, vs = [.ref a] ∧ SqA K H1 a xs ∧ ∀ (J : It) (G : Hp → Prop), (∀ H', Same H1 H' → G H') → Walk J xs.length G (YPair (fun i => some (.int (i : Nat))) (fun i => xs[i]?)) → R J H1
theorem pi_enumW {X : Cx} {e : Expr} {ta : TA} {p pos tpos : Pos} {elts : List Expr} {kk : Nat} (hg : Gl X "enumerate") (hm : X.mg "enumerate" = none) (ha : PA X [e] ta) (hs : starEach [e] X.env = [(false, eval e X.env)] := by rfl) :
    PI X (.Tuple elts kk tpos) (.Call (.Name "enumerate" p) [e] [] pos) (iEnumW X.K ta) := by
  refine ⟨fun pins s σ H R I h => ?_⟩
  refine Call_ (ld_blt I hg hm boot_enumerate (PyProof.Rows.callWith_type1 (thn (ha.run pos pins s σ H _ I h) fun us s1 ⟨vs, H1, I1, r1, q1⟩ => ?_) hs rfl))
  obtain ⟨a, xs, ex, q1⟩ := q1
  subst ex
  have q1 := enumA_of q1.1 q1.2
  cases r1 with
  | cons r rr =>
    cases rr
    cases r
    have fresh2 : ∀ b, b ∈ [s1.heap.objs.size + 1, s1.heap.objs.size] → FpOk X pins H1 b := fun b hb => by
      have e' : b = s1.heap.objs.size + 1 ∨ b = s1.heap.objs.size := by simpa using hb
      have hle : s1.heap.objs.size ≤ b := by
        rcases e' with z | z
        · rw [z]; exact Nat.le_add_right _ _
        · rw [z]; exact Nat.le_refl _
      exact I1.fpOk hle (I1.hok.fresh hle)
    rcases q1 with ⟨hq, q⟩ | ⟨hq, q⟩
    · obtain ⟨its, rv, p', hz⟩ := I1.list hq
      refine call_enumerate_list p'.isList fun h' he hit hsz hk => wpAny_pyIter_enum he ?_
      have I2 : Inv X pins σ H1 { s1 with heap := h' } := I1.kept (t' := s1.toks) hk
      exact ⟨s1.heap.objs.size + 1, [s1.heap.objs.size + 1, s1.heap.objs.size], _, _, H1, rfl, I2, turn_enum a (s1.heap.objs.size + 1) s1.heap.objs.size, ⟨⟨.none, he⟩, hit, Nat.succ_ne_self _⟩, fresh2, q⟩
    · obtain ⟨its, rv, p', hz⟩ := I1.tuple hq
      refine EN.begins1 (begins_tuple a its.toArray) p' (fun h' he hit hsz hk => wpAny_pyIter_enum he ?_) (F.typeCall_enumerate_1 _) (F.newCall_enumerate_1 _) (fun obj => F.args_object_init_2 obj _)
      have I2 : Inv X pins σ H1 { s1 with heap := h' } := I1.kept (t' := s1.toks) hk
      exact ⟨s1.heap.objs.size + 1, [s1.heap.objs.size + 1, s1.heap.objs.size], _, _, H1, rfl, I2, turn_enumT 0 a (s1.heap.objs.size + 1) s1.heap.objs.size (Nat.succ_ne_self _), ⟨⟨.none, he⟩, ⟨_, hit, rfl, rfl⟩⟩, fresh2, q⟩
end L2

set_option maxRecDepth 100000
set_option maxHeartbeats 4000000
/-! # Tuples: t * 0, t * 1, t[::-1], sum(t) -/
namespace L2
open PySem PySem.Spec PyProof.Rows
theorem tuple_mulS (l : Addr) (items : Array Value) (n : Nat) (dd : Option Addr) (sl : Array (Option Value)) (x : Int) (u : Tok) (c0 : (decide (x < -(2 ^ 63)) || decide (x ≥ 2 ^ 63)) = false) (c1 : (items.isEmpty || x == 1) = true) :
    Meets (Builtin.«tuple.__mul__» ⟨[.ref l, .int x u], []⟩) (fun _ R s => s.heap.get? l = some { cls := .type "tuple", dict := dd, data := .seq items n, slots := sl } ∧
      R (.ok (.ret (Value.ref l))) s) :=
  .of_wp fun prog w A R s h => by
    obtain ⟨hp, g, d, tk, os⟩ := s
    obtain ⟨hl, h⟩ := h
    have f1 := AutoSeq1.idx_int
    wp_walk using wpAny_loadPart' hl
    repeat (first
      | (refine wpAny_ite_false (decide_eq_false (by rw [c0]; exact Bool.false_ne_true)) ?_; wp_walk using wpAny_loadPart' hl)
      | (refine wpAny_ite_true (decide_eq_true c1) ?_; wp_walk using wpAny_loadPart' hl))
    exact ⟨_, rfl, h⟩
theorem tuple_mul0 (l : Addr) (items : Array Value) (n : Nat) (dd : Option Addr) (sl : Array (Option Value)) (x : Int) (u : Tok) (c0 : (decide (x < -(2 ^ 63)) || decide (x ≥ 2 ^ 63)) = false) (c1 : (items.isEmpty || x == 1) = false) (c2 : (decide (x ≤ 0) || items.isEmpty) = true) :
    Meets (Builtin.«tuple.__mul__» ⟨[.ref l, .int x u], []⟩) (fun _ R s => s.heap.get? l = some { cls := .type "tuple", dict := dd, data := .seq items n, slots := sl } ∧
      R (.ok (.ret (Value.ref s.heap.objs.size))) { s with heap := s.heap.push { cls := Value.type "tuple", data := Data.seq #[] }, toks := s.toks }) :=
  .of_wp fun prog w A R s h => by
    obtain ⟨hp, g, d, tk, os⟩ := s
    obtain ⟨hl, h⟩ := h
    have f1 := AutoSeq1.idx_int
    wp_walk using wpAny_loadPart' hl
    repeat (first
      | (refine wpAny_ite_false (decide_eq_false (by rw [c0]; exact Bool.false_ne_true)) ?_; wp_walk using wpAny_loadPart' hl)
      | (refine wpAny_ite_false (decide_eq_false (by rw [c1]; exact Bool.false_ne_true)) ?_; wp_walk using wpAny_loadPart' hl)
      | (refine wpAny_ite_true (decide_eq_true c2) ?_; wp_walk using wpAny_loadPart' hl))
    exact ⟨_, rfl, h⟩
/-- t * k -/
def rRepW (K : PySem.W.Frag) : R2 := fun x y H Q => ∃ l k xs, x = .ref l ∧ y = .int k ∧ SqT K H l xs ∧ -(2 ^ 62) ≤ k ∧ k ≤ 1000 ∧ xs.length ≤ 1000 ∧ ∀ H' p, Same H H' → SqT K H' p (List.replicate k.toNat xs).flatten → Q (.ref p) H'
theorem rep_one {α : Type} (xs : List α) : (List.replicate (1 : Int).toNat xs).flatten = xs := by simp
theorem rep_nil {α : Type} (k : Nat) : (List.replicate k ([] : List α)).flatten = [] := by simp
section
variable {X : Cx}
theorem op_repW : OpR X (binaryOp .Mult) (rRepW X.K) := by
  intro pins s σ H x y v u Q I rx ry h
  obtain ⟨l, k, xs, rfl, rfl, hT, h1, h2, hz, q⟩ := h
  by_cases h3 : xs ≠ [] ∧ 2 ≤ k
  · exact op_repT pins s σ H _ _ v u Q I rx ry ⟨l, k, xs, rfl, rfl, hT, h3.1, h3.2, h2, hz, fun p hp => q _ p (.new hp) (SqT.of upd_same)⟩
  · cases rx
    obtain ⟨t, rfl⟩ := ry
    obtain ⟨its, r, ⟨⟨cls, dd, data, sl⟩, ho, hc, n, hd⟩, hs⟩ := I.tuple hT
    simp only at hc hd
    subst hc hd
    have hle : its.length = xs.length := r.length.symm
    have c0 : (decide (k < -(2 ^ 63)) || decide (k ≥ 2 ^ 63)) = false := by
      rw [decide_eq_false (by omega), decide_eq_false (by omega)] <;> rfl
    by_cases h4 : xs = [] ∨ k = 1
    · have c1 : (its.toArray.isEmpty || k == 1) = true := by
        rcases h4 with h4 | h4
        · subst h4
          have : its = [] := List.eq_nil_of_length_eq_zero (by simpa using hle)
          subst this
          rfl
        · subst h4
          simp
      refine wpAny_binaryOp_repeat_ref (T := "tuple") (U := "int") (by decide) ⟨_, ho, rfl⟩ (fun s' => typeIs_int s' k t) noFill_tuple_mul F.fills_int_mul F.slot_int_rmul repeat_tuple F.slot_int_index.lookup
        (call_meets F.slot_int_rmul (typeIs_int s k t) F.entry_int_rmul (F.args_int_rmul_2 _ _) (int_rmul_tuple k t l its.toArray n dd sl)
          ⟨ho, rfl, ⟨_, ho, rfl⟩, call_meets F.slot_tuple_mul ⟨_, ho, rfl⟩ F.entry_tuple_mul (F.args_tuple_mul_2 _ _) (tuple_mulS l its.toArray n dd sl k t c0 c1) ⟨ho, ?_⟩⟩)
      refine ⟨.ref l, H, I, rfl, q H l (.refl _) ?_⟩
      rcases h4 with h4 | h4
      · subst h4; rw [rep_nil]; exact hT
      · subst h4; rw [rep_one]; exact hT
    · have h5 : xs ≠ [] ∧ k ≤ 0 := ⟨fun z => h4 (.inl z), by
        have : k ≠ 1 := fun z => h4 (.inr z)
        have : ¬ (2 ≤ k) := fun z => h3 ⟨fun z => h4 (.inl z), z⟩
        omega⟩
      have hi : its.toArray.isEmpty = false := by
        cases its with
        | nil => exact absurd (List.eq_nil_of_length_eq_zero hle.symm) h5.1
        | cons a b => rfl
      have c1 : (its.toArray.isEmpty || k == 1) = false := by
        rw [hi, Bool.false_or]
        exact beq_eq_false_iff_ne.mpr (by omega)
      have c2 : (decide (k ≤ 0) || its.toArray.isEmpty) = true := by rw [decide_eq_true h5.2]; rfl
      have e0 : (List.replicate k.toNat xs).flatten = [] := by
        have : k.toNat = 0 := by omega
        rw [this]; rfl
      refine wpAny_binaryOp_repeat_ref (T := "tuple") (U := "int") (by decide) ⟨_, ho, rfl⟩ (fun s' => typeIs_int s' k t) noFill_tuple_mul F.fills_int_mul F.slot_int_rmul repeat_tuple F.slot_int_index.lookup
        (call_meets F.slot_int_rmul (typeIs_int s k t) F.entry_int_rmul (F.args_int_rmul_2 _ _) (int_rmul_tuple k t l its.toArray n dd sl)
          ⟨ho, rfl, ⟨_, ho, rfl⟩, call_meets F.slot_tuple_mul ⟨_, ho, rfl⟩ F.entry_tuple_mul (F.args_tuple_mul_2 _ _) (tuple_mul0 l its.toArray n dd sl k t c0 c1 c2) ⟨ho, ?_⟩⟩)
      refine ⟨.ref s.heap.objs.size, _, I.laid (t' := s.toks) (o := .tup []) (fun b ob q => Heap.get?_push_of_some _ q) (Nat.le_refl _) ?_, rfl, q _ _ (.new (I.hok.fresh (Nat.le_refl _))) (by rw [e0]; exact SqT.of upd_same)⟩
      exact ⟨Nat.zero_le _, [], .nil, IsTup.new _ _⟩
/-- t + u -/
def rCatW (K : PySem.W.Frag) : R2 := fun x y H Q => ∃ a b xs ys, x = .ref a ∧ y = .ref b ∧ SqT K H a xs ∧ SqT K H b ys ∧ xs.length + ys.length ≤ sizeLine ∧ ∀ H' p, Same H H' → SqT K H' p (xs ++ ys) → Q (.ref p) H'
theorem op_catW : OpR X (binaryOp .Add) (rCatW X.K) := by
  intro pins s σ H x y v u Q I rx ry h
  obtain ⟨a, b, xs, ys, rfl, rfl, ha, hb, hz, q⟩ := h
  exact op_catA pins s σ H _ _ v u Q I rx ry ⟨a, b, xs, ys, rfl, rfl, ha, hb, hz, fun e => q H b (.refl _) (by rw [e]; exact hb), fun _ e => q H a (.refl _) (by rw [e, List.append_nil]; exact ha), fun _ _ p hp => q _ p (.new hp) (SqT.of upd_same)⟩
/-- t[lo:hi] -/
def rSlW (K : PySem.W.Frag) : V → Option Int → Option Int → Hp → VK → Prop := fun x lo hi H Q => ∃ a xs, x = .ref a ∧ SqT K H a xs ∧ ∀ H' p, Same H H' → SqT K H' p (cutV xs lo hi) → Q (.ref p) H'
theorem sl_tupW : SlR X (rSlW X.K) := by
  intro pins s σ H x v vl vu lo hi sl Q I rx hs pl pu h
  obtain ⟨a, xs, rfl, hx, q⟩ := h
  refine sl_tupA pins s σ H _ v vl vu lo hi sl Q I rx hs pl pu ⟨a, xs, rfl, hx, fun e => q H a (.refl _) ?_, fun _ p hp => q _ p (.new hp) (SqT.of upd_same)⟩
  unfold cutV
  rw [e.1, e.2, List.drop_zero, Nat.sub_zero, List.take_length]
  exact hx

/-- sum(t), t a tuple of numbers -/
theorem cr_sumT (hc : X.calm = true) : CallR X (.builtin "sum") (fun vs H Q => ∃ (a : Addr) (ns : List Int), vs = [V.ref a] ∧ SqT X.K H a (ns.map V.int) ∧ Q (.int ns.sum) H) := by
  intro pins s σ H xs us Q I r h
  obtain ⟨a, ns, rfl, hq, q⟩ := h
  cases r with
  | cons r rr =>
  cases rr
  cases r
  obtain ⟨its, rv, hT, hz⟩ := I.tuple hq
  have hi := intsAre_of rv
  obtain ⟨ys, hx⟩ := hi.allInts.items
  have hn : numsOf its.toArray.toList = ns := by rw [show its.toArray.toList = its from rfl, hi.numsOf]
  have hT' : s.heap.IsTuple a its.toArray := let ⟨o, h1, h2, h3⟩ := hT; ⟨o, h1, h2, h3⟩
  rw [hx] at hT' hn
  rw [nums_intItems] at hn
  refine PySem.W.ktm_sumG (I.ok.hd hc) hT' fun h' tk t' hk => ?_
  rw [preSum_eq, List.take_of_length_le (by simp), hn]
  exact ⟨.int ns.sum, H, I.kept (t' := tk) hk, ⟨t', rfl⟩, q⟩
theorem cr_sumA (hc : X.calm = true) : CallR X (.builtin "sum") (fun vs H Q => ∃ (a : Addr) (ns : List Int), vs = [V.ref a] ∧ SqA X.K H a (ns.map V.int) ∧ Q (.int ns.sum) H) := by
  intro pins s σ H xs us Q I r h
  obtain ⟨a, ns, rfl, hq, q⟩ := h
  rcases hq with hq | hq
  · exact cr_sum hc pins s σ H _ us Q I r ⟨a, ns, rfl, hq, q⟩
  · exact cr_sumT hc pins s σ H _ us Q I r ⟨a, ns, rfl, hq, q⟩
/-! ### t[::-1] -/
theorem rev_pick (xs : List Value) : ((List.range xs.length).filterMap fun (m : Nat) => xs.toArray[(((xs.length : Nat) : Int) - 1 + (m : Int) * (-1)).toNat]?) = xs.reverse := by
  have key : ∀ n, n ≤ xs.length → ((List.range n).filterMap fun (m : Nat) => xs.toArray[(((xs.length : Nat) : Int) - 1 + (m : Int) * (-1)).toNat]?) = (xs.reverse).take n := by
    intro n
    induction n with
    | zero => intro _; simp
    | succ n ih =>
      intro hn
      rw [List.range_succ, List.filterMap_append, ih (by omega), List.take_succ]
      congr 1
      have e : (((xs.length : Nat) : Int) - 1 + (n : Int) * (-1)).toNat = xs.length - 1 - n := by omega
      have hlt : n < xs.reverse.length := by rw [List.length_reverse]; omega
      rw [List.filterMap_cons, List.filterMap_nil, e, List.getElem?_reverse (by omega)]
      simp only [List.getElem?_toArray]
      cases q : xs[xs.length - 1 - n]? with
      | none => simp
      | some v => simp
  rw [key xs.length (Nat.le_refl _), List.take_of_length_le (by rw [List.length_reverse]; exact Nat.le_refl _)]
theorem adjust_rev (n : Nat) : Builtin.Slice.sliceAdjust none none (-1) (n : Int) = ((n : Int) - 1, -1) := by
  unfold Builtin.Slice.sliceAdjust
  simp
theorem places_rev (n : Nat) : Builtin.Slice.slicePlaces ((n : Int) - 1) (-1) (-1) = n := by
  unfold Builtin.Slice.slicePlaces
  have h1 : ¬ ((-1 : Int) > 0) := by omega
  simp only [h1, if_false]
  split
  · simp only [Int.neg_neg, Int.ediv_one]; omega
  · simp only [Int.toNat_zero]; omega
theorem sliceApplied_rev {prog : Program} {w : World} {A : Around} {E : Value → Shared → Prop} {s : Shared} {sl : Addr} {vl vu vk : Value} {n : Nat} {Q : Int × Int × Nat → Shared → Prop} (hs : s.heap.IsSliceOf sl vl vu vk) (pl : IsPart vl none) (pu : IsPart vu none) (pk : IsPart vk (some (-1)))
    (h : Q ((n : Int) - 1, -1, n) s) : wpAny (model prog w) A (Builtin.Slice.sliceApplied (.ref sl) (pure (n : Int))) Q E s := by
  obtain ⟨os, hos, hcs, hds⟩ := id hs
  unfold Builtin.Slice.sliceApplied Builtin.Slice.sliceFields
  refine wpAny_bind (wpAny_bind (wpAny_field hos hds (x := vl) rfl (wpAny_bind (wpAny_field hos hds (x := vu) rfl (wpAny_bind (wpAny_field hos hds (x := vk) rfl (wpAny_pure ?_)))))))
  refine wpAny_bind (HT.slicePart_ pk ?_)
  show wpAny _ _ (if ((-1 : Int) == 0) = true then _ else _) _ _ s
  rw [if_neg (by decide)]
  refine wpAny_bind (HT.slicePart_ pl (wpAny_bind (HT.slicePart_ pu (wpAny_bind (wpAny_pure ?_)))))
  show wpAny _ _ (match Builtin.Slice.sliceAdjust none none (-1) (n : Int) with | (lo, hi) => pure (lo, (-1 : Int), Builtin.Slice.slicePlaces lo hi (-1))) _ _ s
  rw [adjust_rev n]
  show wpAny _ _ (pure ((n : Int) - 1, (-1 : Int), Builtin.Slice.slicePlaces ((n : Int) - 1) (-1) (-1))) _ _ s
  rw [places_rev]
  exact wpAny_pure h
theorem getItem_tuple_rev {prog : Program} {w : World} {A : Around} {E : Value → Shared → Prop} {s : Shared} {t sl : Addr} {its : List Value} {vl vu vk : Value} {Q : Value → Shared → Prop} (ht : IsTup s.heap t its.toArray) (hs : s.heap.IsSliceOf sl vl vu vk) (pl : IsPart vl none) (pu : IsPart vu none) (pk : IsPart vk (some (-1)))
    (h : Q (.ref s.heap.objs.size) { s with heap := s.heap.push { cls := .type "tuple", data := .seq its.reverse.toArray } })
    (hsz : its.length ≤ sizeLine) : wpAny (model prog w) A (getItem (.ref t) (.ref sl)) Q E s := by
  have htake : sizeOk (.seq its.reverse.toArray) := by
    show its.reverse.toArray.size ≤ sizeLine
    rw [List.size_toArray, List.length_reverse]
    exact hsz
  obtain ⟨os, hos, hcs, hds⟩ := id hs
  have hTs : s.TypeIs (.ref sl) "slice" := ⟨os, hos, hcs⟩
  unfold getItem
  try with_reducible refine wpAny_holding ?_
  first | refine wpAny_bind (wpAny_pure ?_) | skip
  refine wpAny_bind (wpAny_sequenceKey ht.typeIs (by decide) ?_)
  refine wpAny_bind (wpAny_callSpecial?_slot (name := Str.ofString "__getitem__") ht.typeIs PyProof.Rows.slot_tuple_getitem
    (wpAny_call_entry PyProof.Rows.slot_tuple_getitem ht.typeIs entry_tuple_getitem ?_ (args_tuple_getitem _ _)))
  show wpAny _ _ (Builtin.Tuple.tupleItemsOf (.ref t) >>= _) _ _ s
  refine wpAny_bind (tupleItemsOf_ ht ?_)
  refine wpAny_bind (wpAny_typeOf hTs ?_)
  rw [if_pos (by decide)]
  refine wpAny_bind (sliceApplied_rev hs pl pu pk ?_)
  have hno : ¬ ((((its.toArray.size : Int) - 1) == 0 && (-1 : Int) == 1 && its.toArray.size == its.toArray.size) = true) := by
    intro q
    rw [Bool.and_eq_true, Bool.and_eq_true] at q
    exact absurd q.1.2 (by decide)
  show wpAny _ _ (if (((its.toArray.size : Int) - 1) == 0 && (-1 : Int) == 1 && its.toArray.size == its.toArray.size) = true then _ else _) _ _ s
  rw [if_neg hno]
  have ep := rev_pick its
  rw [← List.size_toArray] at ep
  rw [ep]
  first
    | exact wpAny_bind (m := Builtin.Tuple.tupleExact _) (wpAny_newObj_type (wpAny_pure ⟨_, rfl, wpAny_pure h⟩) htake)
    | exact wpAny_bind (m := Builtin.Tuple.tupleExact _) (wpAny_newObj_type (wpAny_bind (wpAny_pure (wpAny_pure ⟨_, rfl, wpAny_pure h⟩))) htake)
    | exact wpAny_bind (wpAny_bind (m := Builtin.Tuple.tupleExact _) (wpAny_newObj_type (wpAny_pure (wpAny_pure ⟨_, rfl, wpAny_pure h⟩)) htake))
    | exact wpAny_bind (wpAny_bind (m := Builtin.Tuple.tupleExact _) (wpAny_newObj_type (wpAny_pure ⟨_, rfl, wpAny_pure h⟩) htake))
def tRevT (K : PySem.W.Frag) (te : TE) : TE := fun σ H Q => te σ H fun x H1 => ∃ a xs, x = .ref a ∧ SqT K H1 a xs ∧ ∀ p, H1 p = none → Q (.ref p) (upd H1 p (.tup xs.reverse))
theorem pe_revT {e : Expr} {te : TE} {k : Nat} {p1 p2 p3 pos : Pos} (he : PE X e te) : PE X (.Subscript e (.Slice none none (some (.UnaryOp .USub (.Constant (.int 1) k p1) p2)) p3) pos) (tRevT X.K te) := by
  refine ⟨fun pins s σ H Q I h => ?_⟩
  refine Subscript_ (thn (he.run pins s σ H _ I h) fun v s1 ⟨x, H1, I1, r1, q1⟩ => ?_)
  obtain ⟨a, xs, ex, hx, q⟩ := q1
  subst ex
  cases r1
  have hst : PO X (some (.UnaryOp .USub (.Constant (.int 1) k p1) p2)) (tPart (tUn (rU fun i => .int (-i)) (tC (.int 1)))) := po_some (pe_un un_neg pe_int)
  refine wpAny_Slice (thn (po_none.run pins s1 σ H1 (fun o H2 => o = none ∧ H2 = H1) I1 ⟨rfl, rfl⟩) fun vl s2 ⟨l, H2, I2, pl, el, e2⟩ => ?_)
  subst el e2
  refine thn (po_none.run pins s2 σ H2 (fun o H3 => o = none ∧ H3 = H2) I2 ⟨rfl, rfl⟩) fun vu s3 ⟨u, H3, I3, pu, eu, e3⟩ => ?_
  subst eu e3
  refine thn (hst.run pins s3 σ H3 (fun o H4 => o = some (-1) ∧ H4 = H3) I3 ⟨1, rfl, -1, rfl, rfl, rfl⟩) fun vs s4 ⟨o, H4, I4, ps, eo, e4⟩ => ?_
  subst eo e4
  have I5 : Inv X pins σ H4 { s4 with heap := s4.heap.push { cls := .type "slice", data := .fields #[vl, vu, vs] } } := I4.kept (t' := s4.toks) fun b ob q => Heap.get?_push_of_some _ q
  obtain ⟨its, r, ht, hz⟩ := I5.tuple hx
  have hlen := r.length
  show wpAny (model X.prog X.w) X.A (subscriptTail e (.Slice none none (some (.UnaryOp .USub (.Constant (.int 1) k p1) p2)) p3) (.ref a) (.ref s4.heap.objs.size)) (EP X pins σ Q) X.xe { s4 with heap := s4.heap.push { cls := .type "slice", data := .fields #[vl, vu, vs] } }
  refine tail_any (ops := [.ref a, .ref s4.heap.objs.size]) ht.typeIs (PyProof.Rows.slot_tuple_getitem.lookup) ?_ (by with_unfolding_all rfl)
  refine getItem_tuple_rev ht (Heap.IsSliceOf.new _ vl vu vs) pl pu ps ?_ (by omega)
  refine ⟨.ref _, _, I5.laid (t' := s4.toks) (o := .tup xs.reverse) (fun b ob q => Heap.get?_push_of_some _ q) (Nat.le_refl _) ?_, rfl, q _ (I5.hok.fresh (Nat.le_refl _))⟩
  exact ⟨by rw [List.length_reverse]; exact hz, _, r.reverse, IsTup.new _ _⟩
end
end L2

set_option maxRecDepth 100000
set_option maxHeartbeats 4000000
/-! # The head: what the program's top has left, as facts that one kernel run decides; the end of a law -/
namespace HX
open PySem PySem.W PySem.Calls PyProof.Rows He He5
open PySem.HandSPX (refsVE)

def clsXB (K : Frag) (C : Addr) : Bool := (match K.lookup C with
  | some ⟨.type ty, _, .cls cd, sl⟩ => (match cd.mro, sl.toList with
    | .ref C' :: bm, [_, _, _, _, some (.builtin n), _] => decide (ty = "type") && (decide (C' = C) && (decide (n = "ValueError.__new__") && (cd.hasDict && (!cd.hasDel && (refsVE bm && eqO (alongIn K "__init__" bm) (some (some (.builtin "ValueError.__init__"))))))))
    | _, _ => false)
  | _ => false) && (eqO (findIn K (.ref C) "__setattr__") (some (some (.builtin "object.__setattr__"))) && decide (subIn K (.ref C) (.type "ValueError") = some true))
theorem clsXB_ok {K : Frag} {C : Addr} (h : clsXB K C = true) : NX.ClsX K C := by
  obtain ⟨h1, h2⟩ := ba h
  obtain ⟨h2, h3⟩ := ba h2
  refine ⟨?_, eqO_ok h2, of_decide_eq_true h3⟩
  clear h2 h3 h
  split at h1
  · rename_i ty dd cd sl e
    split at h1
    · rename_i C' bm a0 a1 a2 a3 n a5 hm hs
      obtain ⟨k1, h1⟩ := ba h1
      obtain ⟨k2, h1⟩ := ba h1
      obtain ⟨k3, h1⟩ := ba h1
      obtain ⟨k4, h1⟩ := ba h1
      obtain ⟨k5, h1⟩ := ba h1
      obtain ⟨k6, k7⟩ := ba h1
      have e1 := of_decide_eq_true k1
      have e2 := of_decide_eq_true k2
      have e3 := of_decide_eq_true k3
      subst e1 e2 e3
      obtain ⟨nm, bs, mro, ns, qn, hd, sn, sub, ab, col, del⟩ := cd
      dsimp only at hm k4 k5
      subst hm
      have e5 : del = false := by simpa using k5
      subst k4 e5
      have hsl : sl = #[a0, a1, a2, a3, some (.builtin "ValueError.__new__"), a5] := by
        obtain ⟨l⟩ := sl
        simp only at hs
        rw [hs]
      subst hsl
      exact ⟨nm, qn, ns, bs, bm, sn, sub, ab, col, dd, a0, a1, a2, a3, a5, e, k6, eqO_ok k7⟩
    · cases h1
  · cases h1

/-- the text of an error's __init__ -/
structure InitTx (prog : Program) (st : Stmt) (qual : Str) (ps : List Str) (l : List (Str × Str)) : Prop where
  txt : ∃ msg k q1 q2 q3 q4 q5 q6 r, L2.defBody st = NX.supS msg k q1 q2 q3 q4 q5 q6 :: r ∧ NX.Sto r l ∧ (∀ env : Env, env.scope = L2.defScope st → interactive env = false) ∧
    ∀ env : Env, env.scope = L2.defScope st → ∃ pl : Sem Bool, eval (.Call (.Attribute (.Call (.Name "super" q1) [] [] q2) "__init__" q3) [.Constant (.str msg) k q4] [] q5) env = (do
      let ov ← attributeBase (.Call (.Name "super" q1) [] [] q2) "__init__" env (eval (.Call (.Name "super" q1) [] [] q2) env)
      standAt q3.atName
      let (f, first) ← holding [ov] (getMethod ov "__init__" pl)
      callWith q5 f first (backTo q5 (starEach [.Constant (.str msg) k q4] env)) [])
  par : ∃ ar, ((L2.defArgs st).posonlyargs ++ (L2.defArgs st).args).head? = some ar ∧ ar.arg = "self"
  sc : ((L2.defScope st).names.lookup ("super" : Str) = some .globalImplicit ∧ (L2.defScope st).names.lookup ("__class__" : Str) = some .free ∧ (L2.defScope st).names.lookup ("self" : Str) = some .local) ∧ (∀ x ∈ (L2.defScope st).names, x.2 ≠ .cell) ∧
    (L2.defScope st).kind = .function ∧ (L2.defScope st).isCoroutine = false ∧ (L2.defScope st).isGenerator = false
  loc : (∀ p ∈ l, (L2.defScope st).names.lookup p.2 = some .local ∧ (p.2 == ("__debug__" : Str)) = false ∧ p.2 ∈ ps) ∧ ∀ p ∈ ps, (L2.defScope st).names.lookup p = some .local
  nod : ps.Nodup ∧ ("self" : Str) ∉ ps
  bind : ∀ (s' : Shared) (e : Addr) (fd : FuncData) (us : List Value), us.length = ps.length → fd.params = L2.defArgs st → fd.scope = L2.defScope st → fd.defaults = .none → BindsTo s' fd ⟨.ref e :: us, []⟩ (("self", .ref e) :: ps.zip us)
  top : (prog.main.scope.names.lookup ("super" : Str)).isSome = false
  few : l.length ≤ 900

/-- a def with its closure's names -/
abbrev FnQ : Type := Option (Str × Str × Arguments × FuncBody × Scope × Addr × List Str × Addr)
def fnQ (K : Frag) (a : Addr) : FnQ := match K.lookup a with
  | some ⟨_, _, .func fd, _⟩ => some (fd.name, fd.qualname, fd.params, fd.body, fd.scope, fd.globals, fd.closure.map (·.1), fd.builtins)
  | _ => none
/-- an error's class: its name, its __init__'s text, its qualified name -/
structure ErrD where
  x : Str
  st : Stmt
  qual : Str
  fs : List Str
def ErrD.at_ (d : ErrD) (K : Frag) : Addr := ma K (ga K d.x) "__init__"
def ErrD.val (d : ErrD) : FnQ := some (("__init__" : Str), d.qual, L2.defArgs d.st, FuncBody.stmts (L2.defBody d.st), L2.defScope d.st, mainGlobals, [("__class__" : Str)], builtinsNs)
def ErrD.ok (file : Str) (d : ErrD) (K : Frag) : Bool := clsXB K (ga K d.x) && (eqO (findIn K (.ref (ga K d.x)) "__init__") (some (some (.ref (d.at_ K)))) && (decide (typeIn K (.ref (d.at_ K)) = some (.type "function")) && ((match K.lookup (d.at_ K) with
  | some ⟨_, _, .func fd, _⟩ => codeIn K fd.code fd.qualname && ((match fd.closure with
    | [(_, cc)] => (match K.lookup cc with
      | some ⟨_, _, .cell (some (.ref D)), _⟩ => decide (D = ga K d.x)
      | _ => false)
    | _ => false) && ((match fd.code with
    | .ref cda => (match K.lookup cda with
      | some ⟨_, _, .fields vs, _⟩ => (match (vs[2]? : Option Value) with
        | some (.str f _) => f == file
        | _ => false)
      | _ => false)
    | _ => false) && (match fd.defaults with
    | .none => true
    | _ => false)))
  | _ => false) && ((d.fs.all fun f => eqO (findIn K (.ref (ga K d.x)) f) (some none)) && (eqO (nsIn K mainGlobals d.x) (some (some (.ref (ga K d.x)))) && (keepIn K (.ref (ga K d.x)) && (decide (subIn K (.ref (ga K d.x)) (.type "BaseException") = some true) && decide (typeIn K (.ref (ga K d.x)) = some (.type "type")))))))))
theorem errD_ok {prog : Program} {K : Frag} {h : Heap} {mg : Str → Option Value} {d : ErrD} {ps : List Str} {l : List (Str × Str)} (X : K.In h) (G : h.Ns mainGlobals mg) (T : InitTx prog d.st d.qual ps l) (hf : l.map (·.1) = d.fs) (hs : mg "super" = none) (hany : nsIn K cStatics "thirdparty.any" = some none)
    (e : fnQ K (d.at_ K) = d.val) (c : d.ok (prog.main.file : Str) K = true) : L2.Exn prog K mg d.x (ga K d.x) (d.at_ K) ps l := by
  obtain ⟨c1, c⟩ := ba c
  obtain ⟨c2, c⟩ := ba c
  obtain ⟨c3, c⟩ := ba c
  obtain ⟨c4, c⟩ := ba c
  obtain ⟨c5, c⟩ := ba c
  obtain ⟨c6, c⟩ := ba c
  obtain ⟨c7, c⟩ := ba c
  obtain ⟨c8, c9⟩ := ba c
  obtain ⟨ar, hp1, hp2⟩ := T.par
  refine ⟨clsXB_ok c1, ⟨d.qual, L2.defArgs d.st, L2.defScope d.st, L2.defBody d.st, ar, ⟨T.txt, eqO_ok c2, of_decide_eq_true c3, ?_, hp1, hp2, T.sc.1.1, T.sc.1.2.1, T.sc.1.2.2, fun p hp => ⟨(T.loc.1 p hp).1, (T.loc.1 p hp).2.1, ?_⟩, T.sc.2.1, T.sc.2.2.1, T.sc.2.2.2.1, T.sc.2.2.2.2, T.top, T.few⟩, T.bind, T.loc.2⟩,
    fun p hp => (T.loc.1 p hp).2.2, T.nod, mg_of X G (eqO_ok c6), hs, hany, c7, of_decide_eq_true c8, of_decide_eq_true c9⟩
  · unfold fnQ at e
    cases q : K.lookup (d.at_ K) with
    | none =>
      rw [q] at c4
      cases c4
    | some o =>
      obtain ⟨oc, od, dt, osl⟩ := o
      rw [q] at c4 e
      cases dt with
      | func fd =>
        obtain ⟨n1, n2, n3, n4, n5, n6, n7, n8, n9, n10, n11, n12, n13, n14, n15⟩ := fd
        have e2 : (some (n1, n2, n3, n4, n5, n6, n7.map (·.1), n15) : FnQ) = some (("__init__" : Str), d.qual, L2.defArgs d.st, FuncBody.stmts (L2.defBody d.st), L2.defScope d.st, mainGlobals, [("__class__" : Str)], builtinsNs) := e
        simp only [Option.some.injEq, Prod.mk.injEq] at e2
        obtain ⟨h1, h2, h3, h4, h5, h6, h7, h8⟩ := e2
        subst h1 h2 h3 h4 h5 h6 h8
        obtain ⟨k1, k2⟩ := ba c4
        obtain ⟨kA, k3⟩ := ba k2
        obtain ⟨k3, k9⟩ := ba k3
        clear k2 c4
        dsimp only at k1 kA k3 k9
        have ed : n8 = .none := by
          cases n8 <;> first | rfl | cases k9
        subst ed
        split at kA
        · rename_i nn cc
          have en : nn = "__class__" := by simpa using h7
          subst en
          split at kA
          · rename_i cl cld D csl qc
            have eD := of_decide_eq_true kA
            subst eD
            split at k3
            · rename_i cda hcd9
              have hcd8 : n13 = .ref cda := hcd9
              subst hcd8
              split at k3
              · rename_i ccl cdd vs ccs qd
                split at k3
                · rename_i f tf qv
                  have ef : f = prog.main.file := by simpa using k3
                  exact ⟨oc, od, n9, n10, n11, n12, cda, n14, osl, cc, cl, cld, csl, ccl, cdd, vs, ccs, f, tf, rfl, k1, qc, qd, qv, by rw [ef]; simp⟩
                · cases k3
              · cases k3
            · cases k3
          · cases kA
        · cases kA
      | _ => cases c4
  · have := List.all_eq_true.mp c5 p.1 (by rw [← hf]; exact List.mem_map_of_mem hp)
    exact eqO_ok this

/-! ### the Hook -/
abbrev AlX : Type := Bool × List He5.FnW × List FnQ
def obsX (bx : Frag → Bool) (fn : List DefA) (er : List ErrD) (file : Str) (K : Frag) : AlX := (bx K && (fn.all (fun d => d.ok K) && er.all fun d => d.ok file K), fn.map fun d => fnA K (d.at_ K), er.map fun d => fnQ K (d.at_ K))
def valX (fn : List DefA) (er : List ErrD) : AlX := (true, fn.map DefA.val, er.map ErrD.val)
def SaysX (bx : Frag → Bool) (fn : List DefA) (er : List ErrD) (file : Str) (K : Frag) : Prop := obsX bx fn er file K = valX fn er
def obsXG (n : Nat) (bx : Frag → Bool) (fn : List DefA) (er : List ErrD) (file : Str) (g : Addr → Option Obj) : AlX := obsX bx fn er file (frG g (asA g n))
def hookX (n : Nat) (bx : Frag → Bool) (fn : List DefA) (er : List ErrD) (file : Str) : PySem.W.Hook where
  α := AlX
  obs := fun s => obsXG n bx fn er file s.heap.get?
  val := fun _ => valX fn er
  says := fun _ h => ∃ K : Frag, K.In h ∧ SaysX bx fn er file K
  of := fun _ _ e => ⟨_, frG_in, e⟩
  keeps := fun _ _ _ ⟨K, hK, c⟩ k => ⟨K, Frag.In.keeps hK k, c⟩
theorem obsXG_eq {n : Nat} {bx : Frag → Bool} {fn : List DefA} {er : List ErrD} {file : Str} {g : Addr → Option Obj} {s : Shared} (h : ∀ a, g a = s.heap.get? a) : obsXG n bx fn er file g = (hookX n bx fn er file).obs s := by
  have e : g = s.heap.get? := funext h
  rw [e] <;> rfl
section
variable {bx : Frag → Bool} {fn : List DefA} {er : List ErrD} {file : Str} {K : Frag}
theorem SaysX.bool (c : SaysX bx fn er file K) : bx K = true := (ba (show (bx K && (fn.all (fun d => d.ok K) && er.all fun d => d.ok file K)) = true from congrArg (fun z : AlX => z.1) c)).1
theorem SaysX.def_ (c : SaysX bx fn er file K) (i : Nat) {d : DefA} (h : fn[i]? = some d := by rfl) : ∃ fd, L2.FunD K d.name d.qual d.params d.body d.scope (d.dvs K) (d.kws K) (d.at_ K) fd := by
  have c2 := (ba (ba (show (bx K && (fn.all (fun d => d.ok K) && er.all fun d => d.ok file K)) = true from congrArg (fun z : AlX => z.1) c)).2).1
  have e : fn.map (fun d => fnA K (d.at_ K)) = fn.map DefA.val := congrArg (fun z : AlX => z.2.1) c
  have e2 : (fn.map fun d => fnA K (d.at_ K))[i]? = (fn.map DefA.val)[i]? := by rw [e]
  rw [List.getElem?_map, List.getElem?_map, h] at e2
  exact DefA.funD (Option.some.inj e2) (List.all_eq_true.mp c2 d (List.mem_of_getElem? h))
theorem SaysX.err_ (c : SaysX bx fn er file K) (i : Nat) {d : ErrD} (h : er[i]? = some d := by rfl) : fnQ K (d.at_ K) = d.val ∧ d.ok file K = true := by
  have c2 := (ba (ba (show (bx K && (fn.all (fun d => d.ok K) && er.all fun d => d.ok file K)) = true from congrArg (fun z : AlX => z.1) c)).2).2
  have e : er.map (fun d => fnQ K (d.at_ K)) = er.map ErrD.val := congrArg (fun z : AlX => z.2.2) c
  have e2 : (er.map fun d => fnQ K (d.at_ K))[i]? = (er.map ErrD.val)[i]? := by rw [e]
  rw [List.getElem?_map, List.getElem?_map, h] at e2
  exact ⟨Option.some.inj e2, List.all_eq_true.mp c2 d (List.mem_of_getElem? h)⟩
end
end HX

namespace L2
open PySem PySem.Spec PyProof.Rows
/-- the end of a law over a head by facts, the script's bits told -/
theorem walk_ofX {l : PySem.W.OpenLaw} {n k : Nat} {q : Program} {loose : List Str} {XP : (Str → Option Value) → Heap → Prop} {YP : World → Heap → Prop} {d : DefRec} {CX : World → CXT} {x : Str}
    (hn : l.most = some n) (hn2 : n ≤ sizeLine) (hdf : d.params.defaults = []) (hr : Room k callerA)
    (F : ∀ (w : World) (mg : Str → Option Value) (fa : Addr) (h : Heap), YP w h → h.Ns mainGlobals mg → mg d.name = some (.ref fa) →
      ∃ (K : PySem.W.Frag) (fd : FuncData) (sp : Sp), K.In h ∧ (∀ (s : Shared) (u : Value), BindsTo s fd ⟨[u], []⟩ [(x, u)]) ∧
        (∀ (H : Hp) (a : Addr) (ns : List Int), ns.length ≤ n → (∀ z ∈ ns, Builtin.Int.intBits z ≤ 1048576) → Only H → SqL K H a (ns.map V.int) → sp [.ref a] H (fun v _ => v = .bl true) fun _ _ _ => False) ∧
        ∀ base : Heap, K.In base → base.Ns mainGlobals mg → FnOk l.prog w K mg base (CX w) k fa fd [x] sp)
    (hCX : ∀ (w : World) (H : Hp) (s : Shared) (e : Value) (s' : Shared), CX w [] H s (fun _ _ _ => False) e s' → False) :
    PySem.W.WalkO q loose XP YP l.row.toRowW d [] (fun f vs => PySem.call f vs) := by
  refine Att.attach_callB hn hdf fun w s₀ s₁ mg mb fa o pm cd doc a vs ns G Y ho hd hcd hmg hobj hints hlen hbits hg => ?_
  obtain ⟨K, fd, sp, KX, hb, hsp, hF⟩ := F w mg fa _ Y G.T.g hmg
  exact law_call KX G.T.g G.T.b G.T.builtins G.T.nolimit hg hobj hints (Nat.le_trans hlen hn2) hr hF hb (fun H hO hS => hsp H a ns hlen hbits hO hS) fun H e s' => hCX w H s₁ e s'
end L2

set_option maxRecDepth 100000
set_option maxHeartbeats 4000000
/-! # n * obj; facts of classes by one Bool -/
namespace L2
open PySem PySem.Spec PyProof.Rows
theorem int_mul_ins (k : Int) (t : Tok) (l : Addr) (C : Value) (dd : Option Addr) (sl : Array (Option Value)) :
    Meets (Builtin.«int.__mul__» ⟨[.int k t, .ref l], []⟩) (fun _ R s => s.heap.get? l = some { cls := C, dict := dd, data := .plain, slots := sl } ∧ R (.ok (.ret Value.notImplemented)) s) :=
  .of_wp fun prog w A R s h => by obtain ⟨hp, g, d, tk, os⟩ := s; obtain ⟨hl, h⟩ := h; wp_walk using wpAny_loadPart' hl; exact ⟨_, rfl, h⟩
/-- n op a, a of a class with the operator and its reflected one -/
structure OwnR (K : PySem.W.Frag) (C : Addr) (op : Operator) (f : Addr) : Prop where
  first : PySem.W.selfFirst K C = true
  mul : ∃ g, PySem.W.findIn K (.ref C) (PySem.dunder op.info.2) = some (some (.ref g))
  at_ : PySem.W.findIn K (.ref C) (dunderR op.info.2) = some (some (.ref f))
  fn : PySem.W.isFn K (.ref f) = true
  sub : PySem.W.subIn K (.ref C) (.type "int") = some false
def rOwnR (C : Addr) (sp : Sp) (E : XK) : R2 := fun x y H Q => ∃ a dx fs n, x = .int n ∧ y = .ref a ∧ H a = some (.ins C dx fs) ∧ sp [.ref a, .int n] H Q E
section
open PySem.W
theorem ksp_rbin {prog : Program} {w : World} {A : Around} {E : Value → Shared → Prop} {s : Shared} {K : Frag} {x C L f : Addr} {h₀ : Heap} {m : Str → Option Value} {od : Option Obj} {dx : Addr} {k : Int} {t : Tok} {op : Operator} {idl : String} {Q : Value → Shared → Prop}
    (Fr0 : Fr h₀ L s.heap m) (X₀ : K.In h₀) (I : InstAt s.heap x (instObj C dx) C od) (O : OwnR K C op f) (hf : fillsNumberSlot (.type "int") op.info.2 = pure true) (hl : Slot "int" (PySem.dunder op.info.2) idl)
    (hd : ∀ {Q' : Value → Shared → Prop}, Q' .notImplemented s → wpAny (model prog w) A (call (.builtin idl) [.int k t, .ref x]) Q' E s)
    (h : wpAny (model prog w) A (call (.ref f) [.ref x, .int k t]) (PySem.W.CmpBack Q) E s) : wpAny (model prog w) A (binaryOp op (.int k t) (.ref x)) Q E s := by
  have X := X₀.keeps Fr0.keep
  obtain ⟨cd, rest, hcd, hm⟩ := ksp_first O.first
  obtain ⟨g0, hg0⟩ := O.mul
  have one := ksp_try X I O.at_ O.fn h
  have two : ∀ {Q' : Option Value → Shared → Prop}, Q' none s → wpAny (model prog w) A (tryMethod (.int k t) (PySem.dunder op.info.2) (.ref x)) Q' E s := fun {Q'} q =>
    wpAny_tryMethod_declines (typeIs_int s k t) hl (hd ⟨rfl, q⟩)
  have oat := O.at_
  rcases hi : op.info with ⟨sym, nm'⟩
  rw [hi] at hg0 hf two one
  dsimp only at hg0 hf two one
  obtain ⟨hh, gg, d, tt, os⟩ := s
  have L1 : Looks (model prog w) hh (typeOf (.ref x)) (.ref C) := I.type
  have L2 : Looks (model prog w) hh (typeOf (.int k t)) (.type "int") := Looks.of_pure rfl
  have L3 : Looks (model prog w) hh (fillsNumberSlot (.ref C) nm') true := fills_K X hcd hm hg0
  have L4 : Looks (model prog w) hh (fillsNumberSlot (.type "int") nm') true := Looks.of_pure hf
  have L5 : Looks (model prog w) hh (isSubtype (.ref C) (.type "int")) false := looks_subIn X O.sub
  have L7 : Looks (model prog w) hh (numberSlotInPython (.type "int") nm') false := Looks.of_pure rfl
  have hne : (Value.type "int" == Value.ref C) = false := Bool.eq_false_iff.mpr fun q => by cases beq_iff_eq.mp q
  simp only [binaryOp, hi]
  refine wpAny_holding (wpAny_bind ?_)
  unfold binaryOp1
  refine wpAny_bind (L2.at (wpAny_bind (L1.at (wpAny_bind (L4.at ?_)))))
  simp only [hne, Bool.false_eq_true, if_false]
  refine wpAny_bind (L3.at ?_)
  simp only [Bool.and_self, if_true]
  refine wpAny_bind (L5.at ?_)
  simp only [Bool.false_eq_true, if_false, pure_bind, Bool.not_false, Bool.and_self, if_true]
  refine wpAny_bind (L7.at ?_)
  simp only [Bool.false_eq_true, if_false, pure_bind, Bool.not_false, Bool.and_self, if_true]
  refine wpAny_bind (two ?_)
  simp only [Bool.false_eq_true, if_false, pure_bind]
  refine wpAny_bind (wpAny_mono one (fun r s' hr' => ?_) fun _ _ e => e)
  obtain ⟨v, rfl, hq⟩ := hr'
  exact wpAny_bind (wpAny_rule (wpAny_pure (wpAny_pure hq)))
end
section
variable {X : Cx} {CX : CXT} {C f : Addr} {fd : FuncData} {ps : List Str} {sp : Sp} {E : XK} {k : Nat}
theorem op_ownR (O : OwnR X.K C .Mult f) (F0 : FnOk X.prog X.w X.K X.mg X.base CX k f fd ps sp) (hb : Binds X.K fd ps []) (hr : Room k X.A) (hx : Passes CX X E) :
    OpR X (binaryOp .Mult) (rOwnR C sp E) := by
  intro pins s σ H x y v u Q I rx ry h
  obtain ⟨a, dx, fs, n, rfl, rfl, ha, hsp⟩ := h
  obtain ⟨t, rfl⟩ := rx
  cases ry
  obtain ⟨mA, J0, rel, _⟩ := ins_get I.hok ha
  obtain ⟨od, J, _⟩ := J0.look
  obtain ⟨m, hF⟩ := I.fr
  refine ksp_rbin hF I.ok.mod.kin J O F.fills_int_mul F.slot_int_mul (fun q => call_meets F.slot_int_mul (typeIs_int s n t) F.entry_int_mul (F.args_int_mul_2 _ _) (int_mul_ins n t a (.ref C) (some dx) #[]) ⟨J0.obj, q⟩) (wpAny_mono (run_fn F0 hr hb .nil hx I (us := [.ref a, .int n t]) (vs := [.ref a, .int n]) (.cons rfl (.cons ⟨t, rfl⟩ .nil)) hsp) (fun r s' q => back_of q) fun _ _ z => z)
/-- a def called within a built-in's call -/
theorem run_fnA {A : Around} {pins : List (Addr × Obj)} {σ : St} {H : Hp} {s : Shared} {Q : VK} {us : List Value} {vs : List V} (F : FnOk X.prog X.w X.K X.mg X.base CX k f fd ps sp) (hb : Binds X.K fd ps []) (hr : Room k A) (e0 : Env0 X.prog X.w X.K X.mg X.base A X.stack s H) (hx : Passes CX X E)
    (I : Inv X pins σ H s) (r : Vals vs us) (h : sp vs H Q E) : wpAny (model X.prog X.w) A (call (.ref f) us) (EP X pins σ Q) X.xe s := by
  have hl : us.length = ps.length := r.length.symm.trans (F.len _ _ _ _ h)
  have B : BindsTo s fd ⟨us, []⟩ (ps.zip us) := by
    have := hb s us I.kIn (by rw [List.append_nil]; exact hl)
    rwa [List.append_nil] at this
  refine wpAny_call (codeAny_mono (F.run A X.stack s H ⟨us, []⟩ us vs Q E hr e0 B r h) fun r s' hq => ?_)
  cases r with
  | error e => exact hx pins σ H s e s' I hq
  | ok fl =>
    cases fl with
    | ret u => exact I.after hq
    | next => exact False.elim hq
    | brk => exact False.elim hq
    | cont => exact False.elim hq
/-- abs(a), a of a class with __abs__ -/
def rOwnAbs (C : Addr) (sp : Sp) (E : XK) : List V → Hp → VK → Prop := fun xs H Q => ∃ a dx fs, xs = [.ref a] ∧ H a = some (.ins C dx fs) ∧ sp [.ref a] H Q E
theorem call_ownAbs (hs : PySem.W.findIn X.K (.ref C) "__abs__" = some (some (.ref f))) (hf : PySem.W.isFn X.K (.ref f) = true) (F : FnOk X.prog X.w X.K X.mg X.base CX k f fd ps sp) (hb : Binds X.K fd ps []) (hr : Room (k + 1) X.A) (hx : Passes CX X E) :
    CallR X (.builtin "abs") (rOwnAbs C sp E) := by
  intro pins s σ H xs us Q I r h
  obtain ⟨a, dx, fs, rfl, ha, hsp⟩ := h
  cases r with
  | cons r rr =>
  cases rr
  cases r
  obtain ⟨od, J⟩ := inst_of I.hok ha
  refine Calls.call_function_entry kind_abs plain_abs entry_abs (args_abs _) ?_
  unfold Builtin.«abs»
  refine wpAny_bind (m := oneArg "abs" _) (wpAny_of_eq (a := Value.ref a) (by first | rfl | kernel_rfl!) ?_)
  refine wpAny_bind (PySem.W.special_fn I.kIn J hs (beq_iff_eq.mp hf) (wpAny_mono (run_fnA F hb hr.in1 I.env0.in1 hx I (us := [.ref a]) (vs := [.ref a]) (.cons rfl .nil) hsp) (fun v s' q => ?_) fun _ _ z => z))
  exact wpAny_pure ⟨_, rfl, q⟩
/-- len(a), a of a class with __len__ -/
def rOwnLen (C : Addr) (sp : Sp) (E : XK) : List V → Hp → VK → Prop := fun xs H Q => ∃ a dx fs, xs = [.ref a] ∧ H a = some (.ins C dx fs) ∧ sp [.ref a] H (fun v H' => ∃ n : Nat, v = .int n ∧ n ≤ sizeLine ∧ Q v H') E
end
end L2

set_option maxRecDepth 100000
set_option maxHeartbeats 4000000
/-! # Facts of a class by one Bool each; walks over own instances, over lists or tuples -/
namespace FB
open PySem PySem.W PySem.Calls PyProof.Rows He He5 HX
abbrev mT : Value := .type "type"
def creadB (K : Frag) (C : Addr) : Bool := readsIn K C mT && eqO (specialIn K (.ref C) "__getattribute__") (some (some (.builtin "type.__getattribute__")))
theorem cread_ok {K : Frag} {C : Addr} (h : creadB K C = true) : ClX.CRead K C mT := by
  obtain ⟨h1, h2⟩ := ba h
  exact ⟨h1, eqO_ok h2⟩
def cintB (K : Frag) (C : Addr) (f : Str) (i : Int) : Bool := match findCls K (.ref C) mT f with
  | some (.val (.int j _)) => decide (j = i)
  | _ => false
theorem cint_ok {K : Frag} {C : Addr} {f : Str} {i : Int} (h : cintB K C f i = true) : ∃ u, ClX.CVal K C mT f (.int i) u := by
  unfold cintB at h
  split at h
  · rename_i j t e
    have := of_decide_eq_true h
    subst this
    exact ⟨_, e, ⟨t, rfl⟩⟩
  · cases h
def addrO : Option (Option Value) → Bool
  | some none => true
  | some (some (.ref _)) => true
  | _ => false
theorem addrO_ok {o : Option (Option Value)} (h : addrO o = true) : ∃ rc, o = some rc ∧ (rc = none ∨ ∃ g : Addr, rc = some (.ref g)) := by
  cases o with
  | none => cases h
  | some o =>
    cases o with
    | none => exact ⟨_, rfl, .inl rfl⟩
    | some v => cases v <;> first | exact ⟨_, rfl, .inr ⟨_, rfl⟩⟩ | (cases h; done)
def opB (K : Frag) (C : Addr) (op : Operator) (f : Addr) : Bool := selfFirst K C && (eqO (findIn K (.ref C) (PySem.dunder op.info.2)) (some (some (.ref f))) && isFn K (.ref f))
theorem op_ok {K : Frag} {C f : Addr} {op : Operator} (h : opB K C op f = true) : L2.OwnOp K C op f := by
  obtain ⟨h1, h⟩ := ba h
  obtain ⟨h2, h3⟩ := ba h
  exact ⟨h1, eqO_ok h2, h3⟩
def opTB (K : Frag) (C : Addr) (op : Operator) (f : Addr) (T : String) : Bool := opB K C op f && (addrO (findIn K (.ref C) (dunderR op.info.2)) && ((findIn K (.type T) (PySem.dunder op.info.2)).isSome && ((findIn K (.type T) (dunderR op.info.2)).isSome && decide (subIn K (.type T) (.ref C) = some false))))
theorem opT_ok {K : Frag} {C f : Addr} {op : Operator} {T : String} (h : opTB K C op f T = true) : L2.OwnOpT K C op f T := by
  obtain ⟨h1, h⟩ := ba h
  obtain ⟨h2, h⟩ := ba h
  obtain ⟨h3, h⟩ := ba h
  obtain ⟨h4, h5⟩ := ba h
  exact { op_ok h1 with rev := addrO_ok h2, tf := Option.isSome_iff_exists.mp h3, tr := Option.isSome_iff_exists.mp h4, sub := of_decide_eq_true h5 }
def opRB (K : Frag) (C : Addr) (op : Operator) (f : Addr) : Bool := selfFirst K C && ((match findIn K (.ref C) (PySem.dunder op.info.2) with | some (some (.ref _)) => true | _ => false) && (eqO (findIn K (.ref C) (dunderR op.info.2)) (some (some (.ref f))) && (isFn K (.ref f) && decide (subIn K (.ref C) (.type "int") = some false))))
theorem opR_ok {K : Frag} {C f : Addr} {op : Operator} (h : opRB K C op f = true) : L2.OwnR K C op f := by
  obtain ⟨h1, h⟩ := ba h
  obtain ⟨h2, h⟩ := ba h
  obtain ⟨h3, h⟩ := ba h
  obtain ⟨h4, h5⟩ := ba h
  refine ⟨h1, ?_, eqO_ok h3, h4, of_decide_eq_true h5⟩
  split at h2
  · rename_i g e
    exact ⟨g, e⟩
  · cases h2
/-- a special method m of C at f -/
def spB (K : Frag) (C : Addr) (m : Str) (f : Addr) : Bool := eqO (findIn K (.ref C) m) (some (some (.ref f))) && isFn K (.ref f)
theorem sp_ok {K : Frag} {C f : Addr} {m : Str} (h : spB K C m f = true) : findIn K (.ref C) m = some (some (.ref f)) ∧ isFn K (.ref f) = true := by
  obtain ⟨h1, h2⟩ := ba h
  exact ⟨eqO_ok h1, h2⟩
/-- a classmethod m of C, its def at g -/
def cmetB (K : Frag) (C : Addr) (m : Str) (g : Addr) : Bool := match findCls K (.ref C) mT m with
  | some (.get (.builtin n) (.ref p) .none (.ref D)) => decide (n = "classmethod.__get__") && (decide (D = C) && ((match recIn K p "classmethod" with
    | some (.ref g' :: _) => decide (g' = g)
    | _ => false) && fnIn K g))
  | _ => false
theorem cmet_ok {K : Frag} {C g : Addr} {m : Str} (h : cmetB K C m g = true) : ∃ p, ClX.CMet K C mT m p g := by
  unfold cmetB at h
  split at h
  · rename_i n p D e
    obtain ⟨h1, h⟩ := ba h
    obtain ⟨h2, h⟩ := ba h
    obtain ⟨h3, h4⟩ := ba h
    have e1 := of_decide_eq_true h1
    have e2 := of_decide_eq_true h2
    subst e1 e2
    split at h3
    · rename_i g' r er
      have e3 := of_decide_eq_true h3
      subst e3
      exact ⟨p, e, ⟨r, er⟩, h4⟩
    · cases h3
  · cases h
end FB
namespace L2
open PySem PySem.Spec PyProof.Rows PySem.W
/-- the facts of __iter__ from its text -/
theorem ownIt_of {K : Frag} {mg : Str → Option Value} {C f : Addr} {fld qual : Str} {fd : FuncData} {st : Stmt} (c : Cls K C) (n : NoAttr K C fld) (a : findIn K (.ref C) "__iter__" = some (some (.ref f))) (hf : isFn K (.ref f) = true) (hm : mg "iter" = none)
    (F : FunD K "__iter__" qual (defArgs st) (defBody st) (defScope st) [] [] f fd)
    (tx : ∃ p1 p2 p3 p4 p5, defBody st = [.Return (some (.Call (.Name "iter" p1) [.Attribute (.Name "self" p2) fld p3] [] p4)) p5] ∧ ∀ env : Env, env.scope = defScope st → attributeBase (.Name "self" p2) fld env (eval (.Name "self" p2) env) = eval (.Name "self" p2) env)
    (sc : (defScope st).names.lookup ("self" : Str) = some .local ∧ (defScope st).names.lookup ("iter" : Str) = some .globalImplicit ∧ (∀ x ∈ (defScope st).names, x.2 ≠ .cell) ∧ (defScope st).kind = .function ∧ (defScope st).isCoroutine = false ∧ (defScope st).isGenerator = false)
    (hb : ∀ (s : Shared) (fd : FuncData) (v : Value), fd.params = defArgs st → fd.scope = defScope st → fd.defaults = .none → BindsTo s fd ⟨[v], []⟩ [("self", v)]) : OwnIt K mg C f fld := by
  obtain ⟨oc, od, dV, kV, doc, pm, an, cdv, ct, osl, rfl, lk, hcd, hD, _⟩ := F.ex
  obtain ⟨p1, p2, p3, p4, p5, hbody, hbase⟩ := tx
  have e : dV = .none := by
    rcases hD with ⟨_, e⟩ | ⟨e, _⟩
    · exact e
    · exact absurd rfl e
  subst e
  rw [hbody] at lk
  exact ⟨c, n, a, hf, hm, qual, defArgs st, defScope st, p1, p2, p3, p4, p5, ⟨oc, od, kV, doc, pm, an, cdv, ct, osl, lk, hcd⟩, sc.1, sc.2.1, sc.2.2.1, sc.2.2.2.1, sc.2.2.2.2.1, sc.2.2.2.2.2, hb, hbase⟩
section
variable {X : Cx} {tg : Expr}
/-- for x in a, a an own instance whose field is a tuple -/
def iOwn (K : Frag) (C : Addr) (fld : Str) (te : TE) : TI := fun σ H R => te σ H fun x H1 => ∃ a dx fs t xs, x = .ref a ∧ H1 a = some (.ins C dx fs) ∧ fs.lookup fld = some (.ref t) ∧ SqT K H1 t xs ∧ R (Itt K t) H1
theorem pi_own {C f : Addr} {fld : Str} {k : Nat} {e : Expr} {te : TE} (O : OwnIt X.K X.mg C f fld) (hr : Room k X.A) (he : PE X e te) : PI X tg e (iOwn X.K C fld te) := by
  refine ⟨fun pins s σ H R I h => ?_⟩
  refine thn (he.run pins s σ H _ I h) fun v s1 ⟨x, H1, I1, r1, q1⟩ => ?_
  obtain ⟨a, dx, fs, t, xs, ex, ha, hl, hT, q⟩ := q1
  subst ex
  cases r1
  refine own_iter O hr I1 ha hl hT fun h' tk it hk hit ho => ?_
  have I2 : Inv X pins σ H1 { s1 with heap := h', toks := tk } := I1.kept (t' := tk) hk
  refine ⟨it, [it], _, _, H1, rfl, I2, turn_tuple t it, ⟨_, ho, rfl, rfl⟩, fun b hb => ?_, q⟩
  have e : b = it := by simpa using hb
  subst e
  exact I1.fpOk hit (I1.hok.fresh hit)
/-- for x in a, a a list or a tuple -/
def iSeqW (K : Frag) (te : TE) : TI := fun σ H R => te σ H fun x H1 => ∃ a xs, x = .ref a ∧ SqA K H1 a xs ∧ ∀ (J : It) (G : Hp → Prop), (∀ H', Same H1 H' → G H') → Walk J xs.length G (YAt xs) → R J H1
theorem pi_seqW {l : Expr} {tl : TE} (hl : PE X l tl) : PI X tg l (iSeqW X.K tl) := by
  refine ⟨fun pins s σ H R I h => ?_⟩
  refine thn (hl.run pins s σ H _ I h) fun v s1 ⟨x, H1, I1, r1, q1⟩ => ?_
  obtain ⟨a, xs, e, hq, q⟩ := q1
  subst e
  cases r1
  rcases hq with hq | hq
  · obtain ⟨its, rv, p, hz⟩ := I1.list hq
    refine wpAny_pyIter_list p.isList ?_
    refine ⟨s1.heap.objs.size, [s1.heap.objs.size], _, _, H1, rfl, I1.kept (t' := s1.toks) fun b o e => Heap.get?_push_of_some _ e, turn_list a _, ⟨_, Heap.get?_push_size _ rfl, rfl, rfl⟩, fun b hb => ?_, q _ _ (fun _ sm => sm.seq hq) walk_list⟩
    have e : b = s1.heap.objs.size := by simpa using hb
    subst e
    exact I1.fpOk (Nat.le_refl _) (I1.hok.fresh (Nat.le_refl _))
  · obtain ⟨its, rv, p, hz⟩ := I1.tuple hq
    refine wpAny_pyIter_tuple (show s1.heap.IsTuple a its.toArray from p) ?_
    refine ⟨s1.heap.objs.size, [s1.heap.objs.size], _, _, H1, rfl, I1.kept (t' := s1.toks) fun b o e => Heap.get?_push_of_some _ e, turn_tuple a _, ⟨_, Heap.get?_push_size _ rfl, rfl, rfl⟩, fun b hb => ?_, q _ _ (fun _ sm => sm.seqT hq) walk_tup⟩
    have e : b = s1.heap.objs.size := by simpa using hb
    subst e
    exact I1.fpOk (Nat.le_refl _) (I1.hok.fresh (Nat.le_refl _))
end
end L2

set_option maxRecDepth 100000
set_option maxHeartbeats 4000000
/-! # A def that keeps its promise, in one word; calls of it -/
namespace L2
open PySem PySem.Spec PyProof.Rows
structure Ok (P : Program) (w : World) (K : PySem.W.Frag) (mg : Str → Option Value) (base : Heap) (CX : CXT) (k : Nat) (f : Addr) (ps : List Str) (sp : Sp) : Prop where
  ex : ∃ fd, FnOk P w K mg base CX k f fd ps sp ∧ Binds K fd ps [] ∧ PySem.W.keepIn K (.ref f) = true
section
variable {P : Program} {w : World} {K : PySem.W.Frag} {mg : Str → Option Value} {base : Heap} {CX : CXT} {k j : Nat} {f : Addr} {ps : List Str} {sp sp' : Sp}
theorem Ok.mono (O : Ok P w K mg base CX k f ps sp) (h : k ≤ j) : Ok P w K mg base CX j f ps sp := let ⟨fd, a, b, c⟩ := O.ex; ⟨fd, a.mono h, b, c⟩
theorem Ok.imp (O : Ok P w K mg base CX k f ps sp) (h : ∀ vs H Q E, sp' vs H Q E → sp vs H Q E) : Ok P w K mg base CX k f ps sp' := let ⟨fd, a, b, c⟩ := O.ex; ⟨fd, a.imp h, b, c⟩
/-- the proof of a def: its names' number, then its body -/
theorem Ok.of {x qual : Str} {params : Arguments} {body : List Stmt} {scope : Scope} {N : List Str} (n : Nat) (hf : ∃ fd, FunD K x qual params body scope [] [] f fd) (S : FnScope N ps scope) (hb : ∀ {fd : FuncData}, FunD K x qual params body scope [] [] f fd → Binds K fd ps []) (hk : n + 1 ≤ k)
    (len : ∀ vs H Q E, sp vs H Q E → vs.length = ps.length)
    (hbody : ∀ (cdv : Value) (A : Around) (outer : List Env) (s : Shared) (H : Hp) (vs : List V) (Q : VK) (E : XK), Room n (A.deeper (envOfC qual scope s.heap.objs.size f cdv)) → sp vs H Q E →
      ∃ t, PSs (cxOf CX P w K mg base N qual scope f cdv A outer s H E) body t ∧ t { nx := fun _ H' => Q .non H', rt := Q } (start N vs) H) : Ok P w K mg base CX k f ps sp := by
  obtain ⟨fd, F⟩ := hf
  exact ⟨fd, (F.ok S len hbody).mono hk, hb F, F.kp⟩
end
section
variable {X : Cx} {CX : CXT} {k : Nat} {f C : Addr} {ps : List Str} {sp : Sp} {E : XK} {x m : Str} {p pos apos : Pos} {e o : Expr} {es : List Expr} {ta : TE} {t : TA}
theorem pc (O : Ok X.prog X.w X.K X.mg X.base CX k f ps sp) (hr : Room k X.A) (hm : X.mg x = some (.ref f)) (hx : Passes CX X E) (ha : PA X (e :: es) t) (hg : Gl X x := by rfl) (hdb : (x == ("__debug__" : Str)) = false := by decide)
    (he : starEach (e :: es) X.env = (false, eval e X.env) :: starEach es X.env := by rfl) (hpl : (backTo pos (starEach es X.env)).any (·.1) = false := by rfl) :
    PE X (.Call (.Name x p) (e :: es) [] pos) (tCall sp [] E t) := let ⟨fd, a, b, c⟩ := O.ex; pe_call a hr hg hm c b .nil hx ha hdb he hpl
theorem pc0 (O : Ok X.prog X.w X.K X.mg X.base CX k f ps sp) (hr : Room k X.A) (hm : X.mg x = some (.ref f)) (hx : Passes CX X E) (hg : Gl X x := by rfl) (hdb : (x == ("__debug__" : Str)) = false := by decide) :
    PE X (.Call (.Name x p) [] [] pos) (tCall sp [] E tNil) := let ⟨fd, a, b, c⟩ := O.ex; pe_call0 a hr hg hm c b .nil hx hdb
theorem pmk (O : Ok X.prog X.w X.K X.mg X.base CX k f ps sp) (M : Mk X.K C f) (hr : Room (k + 1) X.A) (hm : X.mg x = some (.ref C)) (hx : Passes CX X E) (ha : PA X (e :: es) t) (hg : Gl X x := by rfl) (hdb : (x == ("__debug__" : Str)) = false := by decide)
    (he : starEach (e :: es) X.env = (false, eval e X.env) :: starEach es X.env := by rfl) (hpl : (backTo pos (starEach es X.env)).any (·.1) = false := by rfl) :
    PE X (.Call (.Name x p) (e :: es) [] pos) (tMake C sp [] E t) := let ⟨fd, a, b, c⟩ := O.ex; pe_make M a hr hg hm b .nil hx ha hdb he hpl
theorem pmeth {pl : Sem Bool} (O : Ok X.prog X.w X.K X.mg X.base CX k f ps sp) (he : PE X o ta) (c : Cls X.K C) (hm : Meth X.K C m f) (hr : Room k X.A) (hx : Passes CX X E) (ha : PA X (e :: es) t)
    (hst : starEach (e :: es) X.env = (false, eval e X.env) :: starEach es X.env := by rfl) (hpl : (backTo pos (starEach es X.env)).any (·.1) = false := by rfl)
    (ht : eval (.Call (.Attribute o m apos) (e :: es) [] pos) X.env = (do
      let ov ← eval o X.env
      standAt apos.atName
      let (f, first) ← holding [ov] (getMethod ov m pl)
      callWith pos f first (backTo pos (starEach (e :: es) X.env)) (backToKw pos (keywordEach [] X.env))) := by rfl) :
    PE X (.Call (.Attribute o m apos) (e :: es) [] pos) (tMeth C m sp [] E ta t) := let ⟨fd, a, b, d⟩ := O.ex; pe_meth (pl := pl) he c hm a hr b .nil hx ha hst hpl ht
theorem pmeth0 {pl : Sem Bool} (O : Ok X.prog X.w X.K X.mg X.base CX k f ps sp) (he : PE X o ta) (c : Cls X.K C) (hm : Meth X.K C m f) (hr : Room k X.A) (hx : Passes CX X E)
    (ht : eval (.Call (.Attribute o m apos) [] [] pos) X.env = (do
      let ov ← eval o X.env
      standAt apos.atName
      let (f, first) ← holding [ov] (getMethod ov m pl)
      callWith pos f first (backTo pos (starEach [] X.env)) (backToKw pos (keywordEach [] X.env))) := by rfl) :
    PE X (.Call (.Attribute o m apos) [] [] pos) (tMeth C m sp [] E ta tNil) := let ⟨fd, a, b, d⟩ := O.ex; pe_meth0 (pl := pl) he c hm a hr b .nil hx ht
/-- a class or a def of the module by its name -/
theorem pgC (hm : X.mg x = some (.ref C)) (hg : Gl X x := by rfl) (hdb : (x == ("__debug__" : Str)) = false := by decide) : PE X (.Name x p) (tC (.ref C)) := pe_glob (v := .ref C) hg hm rfl hdb
theorem oOwn {op : Operator} (O : Ok X.prog X.w X.K X.mg X.base CX k f ps sp) (W : OwnOp X.K C op f) (hr : Room k X.A) (hx : Passes CX X E) : OpR X (binaryOp op) (rOwnOp C sp E) := let ⟨fd, a, b, c⟩ := O.ex; op_own W a b hr hx
theorem oOwnI {op : Operator} (O : Ok X.prog X.w X.K X.mg X.base CX k f ps sp) (W : OwnOpT X.K C op f "int") (hr : Room k X.A) (hx : Passes CX X E) : OpR X (binaryOp op) (rOwnOpI C sp E) := let ⟨fd, a, b, c⟩ := O.ex; op_ownI W a b hr hx
theorem oOwnR (O : Ok X.prog X.w X.K X.mg X.base CX k f ps sp) (W : OwnR X.K C .Mult f) (hr : Room k X.A) (hx : Passes CX X E) : OpR X (binaryOp .Mult) (rOwnR C sp E) := let ⟨fd, a, b, c⟩ := O.ex; op_ownR W a b hr hx
theorem uOwn (O : Ok X.prog X.w X.K X.mg X.base CX k f ps sp) (W : PySem.W.findIn X.K (.ref C) "__neg__" = some (some (.ref f)) ∧ PySem.W.isFn X.K (.ref f) = true) (hr : Room k X.A) (hx : Passes CX X E) : UnR X (unaryOp .USub) (rOwnNeg C sp E) := let ⟨fd, a, b, c⟩ := O.ex; un_own W.1 W.2 a b hr hx
theorem cAbs (O : Ok X.prog X.w X.K X.mg X.base CX k f ps sp) (W : PySem.W.findIn X.K (.ref C) "__abs__" = some (some (.ref f)) ∧ PySem.W.isFn X.K (.ref f) = true) (hr : Room (k + 1) X.A) (hx : Passes CX X E) : CallR X (.builtin "abs") (rOwnAbs C sp E) := let ⟨fd, a, b, c⟩ := O.ex; call_ownAbs W.1 W.2 a b hr hx
end
/-- a def that may raise: what its callees let out goes on -/
theorem px {X : Cx} {E : XK} {E₁ : Value → Shared → Prop} (hs : X.stack = X.env :: X.outer := by rfl) (hf : X.env.frame = some X.env.locals := by rfl) (hex : X.ex = [] := by rfl)
    (hx : X.xe = fun e s' => wpAny (model X.prog X.w) X.A (leaving X.env e) (fun _ s'' => CX X.prog X.w X.outer X.H_0 X.s_0 E e s'') E₁ s' := by rfl) : Passes (CX X.prog X.w) X E :=
  passes_call (takes_of hs hf hex hx) fun _ _ _ _ h => h
end L2

set_option maxRecDepth 100000
set_option maxHeartbeats 4000000
/-! # try with several clauses, each with or without a name -/
namespace L2
open PySem PySem.Spec PyProof.Rows
abbrev Cls3 : Type := Value × Option Nat × (Addr → Value → Option Addr → TS)
/-- the ends behind a suite whose name is slot i: it is gone -/
def Ends.gone (D : Ends) (i : Nat) : Ends := { nx := fun σ' H' => D.nx (σ'.set i none) H', rt := D.rt, bk := fun σ' H' => D.bk (σ'.set i none) H', ct := fun σ' H' => D.ct (σ'.set i none) H' }
def wAny (K : PySem.W.Frag) (Wo : WX) (D : Ends) : List Cls3 → WX
  | [] => Wo
  | (c, none, ts) :: r => fun cls d σ H => ∃ b, PySem.W.exmOne K cls c = some b ∧ (b = true → ∀ a, H a = none → ts a cls d D σ H) ∧ (b = false → wAny K Wo D r cls d σ H)
  | (c, some i, ts) :: r => fun cls d σ H => ∃ b, PySem.W.exmOne K cls c = some b ∧ (b = true → ∀ a, H a = none → ts a cls d (D.gone i) (σ.set i (some (.ref a))) H) ∧ (b = false → wAny K Wo D r cls d σ H)
inductive HdA (X : Cx) : List ExceptHandler → List Cls3 → Prop
  | nil : HdA X [] []
  | cons {x : Str} {c : Value} {ts : Addr → Value → Option Addr → TS} {b₀ : Stmt} {su : List Stmt} {np p2 : Pos} {hds : List ExceptHandler} {l : List Cls3} (hc : Names X x c)
      (hsu : ∀ (a : Addr) (oe : Obj) (cls : Value) (d : Option Addr) (pn : List (Addr × Obj)), Zc cls d oe → (∃ vs, oe.data = .fields vs) → PSs (X.suite a ((a, oe) :: pn)) (b₀ :: su) (ts a cls d)) (r : HdA X hds l) :
      HdA X (.ExceptHandler (some (.Name x np)) none (b₀ :: su) p2 :: hds) ((c, none, ts) :: l)
  | as {x n : Str} {i : Nat} {c : Value} {ts : Addr → Value → Option Addr → TS} {b₀ : Stmt} {su : List Stmt} {np p2 : Pos} {hds : List ExceptHandler} {l : List Cls3} (hc : Names X x c) (hi : X.N[i]? = some n) (hln : X.env.kindOf n = some .local)
      (hsu : ∀ (a : Addr) (oe : Obj) (cls : Value) (d : Option Addr) (pn : List (Addr × Obj)), Zc cls d oe → (∃ vs, oe.data = .fields vs) → PSs (X.suite a ((a, oe) :: pn)) (b₀ :: su) (ts a cls d)) (r : HdA X hds l) :
      HdA X (.ExceptHandler (some (.Name x np)) (some n) (b₀ :: su) p2 :: hds) ((c, some i, ts) :: l)
section
variable {X : Cx} {body : List Stmt} {h₀ : ExceptHandler} {hds : List ExceptHandler} {l : List Cls3} {pos : Pos} {tb : WX → TS} {Wo : WX}
theorem ps_try_any (hs : X.stack = X.env :: X.outer) (hf : X.env.frame = some X.env.locals) (hN : X.N.Nodup) (tk : Takes X Wo)
    (hb : ∀ (W : WX) (pn : List (Addr × Obj)) (xe : Value → Shared → Prop), Takes (X.tr pn xe) W → PassesOwn (model X.prog X.w) X.A X.env xe → PSs (X.tr pn xe) body (tb W))
    (hh : HdA X (h₀ :: hds) l) : PS X (.Try body (h₀ :: hds) [] [] pos) (fun D σ H => tb (wAny X.K Wo D l) D σ H) := by
  refine ⟨fun pins s σ H D I h => ?_⟩
  have ok := I.ok
  have hfr : X.A.frames = some (X.env :: X.outer) := by rw [ok.frames, hs]
  refine wpAny_Try_except ?_
  refine wpAny_mono ((hb (wAny X.K Wo D l) (X.pn ++ pins) (fun e s₁ => wpAny (model X.prog X.w) X.A (noteFrame e X.env) (fun _ s₂ => wpAny (model X.prog X.w) X.A (setFlight e none) (fun _ s₃ =>
    wpAny (model X.prog X.w) X.A (handleBy e X.env (h₀ :: hds)) (SP X pins D) X.xe s₃) X.xe s₂) X.xe s₁) (fun u s' xx => ?_) PassesOwn.looking).run [] s σ H D (I.toTry _) h) (fun f s1 hsp => ?_) (fun e s1 he => he)
  · obtain ⟨a, B, sI, pins', σ', H', cls, d, rfl, J', nb, up, sky, na, os, ag, w⟩ := xx
    have J : Inv X pins σ' H' sI := J'.ofTry ok
    have sk2 : Sky B (X.env :: X.outer) a (Zc cls d) X.env.locals s'.heap := by rw [← hs]; exact sky
    show wpAny (model X.prog X.w) X.A (noteFrame (.ref a) X.env) _ _ _
    refine Sky.land Zc.steady hfr hf sk2 fun h3 fl3 up3 => ?_
    have J3 : Inv X pins σ' H' { s' with heap := h3 } := J.landed nb fl3.1 (up.trans up3) os ag
    obtain ⟨oe3, vs3, he3, hz3, hd3⟩ := fl3.there
    have nfr : a ∉ frs (X.env :: X.outer) := fun hm => by
      obtain ⟨_, o', e', hnf⟩ := fl3.2.2.1.mem hm
      rw [he3] at e'; cases e'
      exact hnf _ hd3
    have nL : a ≠ X.env.locals := fun z => nfr (List.mem_filterMap.mpr ⟨X.env, List.mem_cons_self, by rw [hf, z]⟩)
    have nF : a ∉ X.fs := fun hm => by
      obtain ⟨e, he, q⟩ := List.mem_filterMap.mp hm
      exact nfr (List.mem_filterMap.mpr ⟨e, List.mem_cons_of_mem _ he, q⟩)
    have S3 := J3.suite he3 hd3 na nL nF
    have LT : PySem.W.Looks (model X.prog X.w) h3 (typeOf (.ref a)) cls := fun A Q E s k q => wpAny_typeOf_ref (k _ _ he3) (by rw [hz3.1]; exact q)
    have test : ∀ {x : Str} {np : Pos} {c : Value} {Q : Value → Shared → Prop} {E : Value → Shared → Prop}, Names X x c → Q c { s' with heap := h3 } → wpAny (model X.prog X.w) (X.A.mark (some (.ref a))) (eval (.Name x np) X.env) Q E { s' with heap := h3 } := fun {x np c Q E} hc q => by
      obtain ⟨hg, hdbg, hm | ⟨hm, hv, hnn⟩⟩ := hc
      · exact ld_glob (X := X.suite a ((a, oe3) :: (X.pn ++ pins))) S3 hg hm q hdbg
      · exact ld_blt (X := X.suite a ((a, oe3) :: (X.pn ++ pins))) S3 hg hm hv q hnn hdbg
    have go : ∀ {hds' : List ExceptHandler} {l' : List Cls3}, HdA X hds' l' → wAny X.K Wo D l' cls d σ' H' →
        wpAny (model X.prog X.w) X.A (handleBy (.ref a) X.env hds') (SP X pins D) X.xe { s' with heap := h3 } := by
      intro hds' l' hk
      induction hk with
      | nil =>
        intro w
        refine wpAny_handleBy_nil ?_
        obtain ⟨k1, k2, k3, oe, vs, T, oT, ts', he, hz, hd, h1, hr⟩ := id fl3
        unfold PySem.passOn
        refine wpAny_bind (wpAny_field he hd h1 ?_)
        rw [if_neg (show ¬ ((Value.ref T == Value.none) = true) from by simp)]
        have fin : wpAny (model X.prog X.w) X.A (setFlight (.ref a) X.env.frame) (fun _ s4 => wpAny (model X.prog X.w) X.A (throw (.ref a) : Sem Flow) (SP X pins D) X.xe s4) X.xe { s' with heap := h3 } := by
          rw [hf]
          refine HandSPX.setFlight_upZ fl3 fun h4 hh4 up4 => wpAny_throw (tk _ _ ?_)
          exact ⟨a, B, sI, pins, σ', H', cls, d, rfl, J, nb, (up.trans up3).trans up4, .inr (.inr (by rw [hs]; exact hh4)), na, os, ag, w⟩
        first
          | exact wpAny_bind (wpAny_pure (wpAny_bind fin))
          | exact wpAny_bind fin
      | @cons x c ts b₀ suite np pos' hds2 l2 hc hsu r ih =>
        intro w
        obtain ⟨b, hb1, hyes, hno⟩ := w
        refine wpAny_handleBy_cons (codeAny_handlers_test ?_) (by intro q; cases q)
        refine test hc ((PySem.W.exm_one (M := model X.prog X.w) (J3.kIn) LT hb1).here ?_)
        cases b with
        | true =>
          refine codeAny_handlers_suite ?_
          refine HandSPX.lands_againZ fl3 fun h4 fl4 up4 => ?_
          have J4 : Inv X pins σ' H' { s' with heap := h4 } := J.landed nb fl4.1 ((up.trans up3).trans up4) os ag
          obtain ⟨oe4, vs4, he4, hz4, hd4⟩ := fl4.there
          have S4 := J4.suite he4 hd4 na nL nF
          refine wpAny_mono ((hsu a oe4 cls d (X.pn ++ pins) hz4 ⟨_, hd4⟩).run [] _ _ H' _ S4 (hyes rfl a na)) (fun f s6 hsp => ?_) (fun _ _ z => False.elim z)
          cases f with
          | next => obtain ⟨σ6, H6, S6, q6⟩ := hsp; exact ⟨_, _, S6.unsuite ok, q6⟩
          | brk => obtain ⟨σ6, H6, S6, q6⟩ := hsp; exact ⟨_, _, S6.unsuite ok, q6⟩
          | cont => obtain ⟨σ6, H6, S6, q6⟩ := hsp; exact ⟨_, _, S6.unsuite ok, q6⟩
          | ret u => obtain ⟨v6, σ6, H6, S6, r6, q6⟩ := hsp; exact ⟨_, _, _, S6.unsuite ok, r6, q6⟩
        | false =>
          show wpAny _ X.A (handleBy (.ref a) X.env hds2) _ _ _
          exact ih (hno rfl)
      | @as x n i c ts b₀ suite np pos' hds2 l2 hc hi hln hsu r ih =>
        intro w
        obtain ⟨b, hb1, hyes, hno⟩ := w
        refine wpAny_handleBy_cons (codeAny_handlers_test ?_) (by intro q; cases q)
        refine test hc ((PySem.W.exm_one (M := model X.prog X.w) (J3.kIn) LT hb1).here ?_)
        cases b with
        | true =>
          refine codeAny_handlers_suite_as ?_
          refine HandSPX.lands_againZ fl3 fun h4 fl4 up4 => ?_
          have J4 : Inv X pins σ' H' { s' with heap := h4 } := J.landed nb fl4.1 ((up.trans up3).trans up4) os ag
          obtain ⟨oe4, vs4, he4, hz4, hd4⟩ := fl4.there
          have S4 := J4.suite he4 hd4 na nL nF
          refine store_ok (X := X.suite a ((a, oe4) :: (X.pn ++ pins))) (v := .ref a) S4 hN hi (.inl hln) rfl (fun s5 S5 => ?_) (.inr hln)
          refine wpAny_mono ((hsu a oe4 cls d (X.pn ++ pins) hz4 ⟨_, hd4⟩).run [] s5 _ H' _ S5 (hyes rfl a na)) (fun f s6 hsp => ?_) (fun _ _ z => False.elim z)
          have end_ : ∀ {σ6 : St} {H6 : Hp} {Q : Shared → Prop}, Inv (X.suite a ((a, oe4) :: (X.pn ++ pins))) [] σ6 H6 s6 → (∀ s7, Inv X pins (σ6.set i none) H6 s7 → Q s7) →
              wpAny (model X.prog X.w) X.A (do bindName X.env n .none; unbindBehindTheSuite X.env n pos') (fun _ s7 => Q s7) X.xe s6 := fun {σ6 H6 Q} S6 hq => gone_ok (S6.unsuite ok) hN hi hln hq
          cases f with
          | next => obtain ⟨σ6, H6, S6, q6⟩ := hsp; exact end_ S6 fun s7 J7 => ⟨_, _, J7, q6⟩
          | brk => obtain ⟨σ6, H6, S6, q6⟩ := hsp; exact end_ S6 fun s7 J7 => ⟨_, _, J7, q6⟩
          | cont => obtain ⟨σ6, H6, S6, q6⟩ := hsp; exact end_ S6 fun s7 J7 => ⟨_, _, J7, q6⟩
          | ret u => obtain ⟨v6, σ6, H6, S6, r6, q6⟩ := hsp; exact end_ S6 fun s7 J7 => ⟨_, _, _, J7, r6, q6⟩
        | false =>
          show wpAny _ X.A (handleBy (.ref a) X.env hds2) _ _ _
          exact ih (hno rfl)
    exact go hh w
  · cases f with
    | next => obtain ⟨σ', H', J', q⟩ := hsp; exact wpAny_execs_nil ⟨σ', H', J'.ofTry ok, q⟩
    | brk => obtain ⟨σ', H', J', q⟩ := hsp; exact ⟨σ', H', J'.ofTry ok, q⟩
    | cont => obtain ⟨σ', H', J', q⟩ := hsp; exact ⟨σ', H', J'.ofTry ok, q⟩
    | ret u => obtain ⟨v, σ', H', J', r, q⟩ := hsp; exact ⟨v, σ', H', J'.ofTry ok, r, q⟩
end
end L2

set_option maxRecDepth 100000
set_option maxHeartbeats 4000000
/-! # isinstance(e, C) in a suite, e an error with a dict -/
namespace EI
open PySem PySem.W PySem.Spec PySem.Calls PyProof.Rows
theorem cls_of_exc {prog : Program} {w : World} {A : Around} {E : Value → Shared → Prop} {s : Shared} {K : Frag} {x D : Addr} {ox od : Obj} {Q : Option Value → Shared → Prop} (C : L2.ExcC K D) (X : K.In s.heap) (I : InstAt s.heap x ox D (some od)) (h : Q (some (.ref D)) { s with toks := s.toks + 1 }) :
    wpAny (model prog w) A (getAttr? (.ref x) "__class__") Q E s := by
  have hf : findObj K D (some od) "__class__" = some (.bind (.builtin "getset_descriptor.__get__") (.builtin "object.__class__")) := findObj_data (by obtain ⟨cd, hc, _⟩ := any_some C.hd; rw [hc]; rfl) C.ha C.hn C.ht
  obtain ⟨hp, g, d, t, os⟩ := s
  have L0 := I.type (M := model prog w)
  have L1 := looks_findIn (M := model prog w) X C.hg
  have L2 := looks_findIn (M := model prog w) X C.hk
  have L3 := looks_find (M := model prog w) X I hf
  have sub : Looks (model prog w) hp (isInstance (.ref x) (.type "BaseException")) true := L0.andThen (looks_subIn X C.hs)
  have n2 : (Value.builtin "BaseException.__getattribute__" == Value.builtin "object.__getattribute__") = false := by decide +kernel
  have n1 : (onTheHeap (Value.ref D) && Value.builtin "BaseException.__getattribute__" == Value.builtin "object.__getattribute__") = false := by rw [n2]; rfl
  unfold getAttr? getAttrBy? getAttrBy
  refine wpAny_bind (wpAny_mkText (wpAny_bind (wpAny_attempt (wpAny_holding (wpAny_bind (L0.at (wpAny_bind (L1.at (by
    show wpAny _ _ (if (onTheHeap (Value.ref D) && Value.builtin "BaseException.__getattribute__" == Value.builtin "object.__getattribute__") = true then _ else _) _ _ _
    rw [n1, if_neg Bool.false_ne_true]
    unfold getAttrByItsOwn hookBefore
    refine wpAny_bind ?_
    rw [if_pos (show onTheHeap (Value.ref D) = true from rfl)]
    refine L2.at (wpAny_bind (wpAny_attempt (wpAny_holding ?_)))
    unfold callGetattribute
    rw [show (false && onTheHeap (Value.builtin "BaseException.__getattribute__")) = false from rfl, if_neg Bool.false_ne_true]
    unfold boundAndCalled
    rw [PySem.F.excAttr_ValueError.ga.bind (.ref x)]
    refine wpAny_bind (wpAny_pure ?_)
    show wpAny _ _ (call (.builtin "BaseException.__getattribute__") [.ref x, .str "__class__" t]) _ _ _
    refine wpAny_call (codeAny_call_builtin PySem.F.excAttr_ValueError.ga.plain PySem.F.entry_bexc_ga (@check_slot (model prog w) _ _ ⟨hp, g, d, t + 1, os⟩ "BaseException.__getattribute__" "BaseException" "__getattribute__" (.ref x) [.str "__class__" t] [] _ (by decide +kernel) (by decide +kernel) sub (PySem.F.args_bexc_ga (.ref x) (.str "__class__" t)) ?_))
    unfold Builtin.«object.__getattribute__»
    refine wpAny_bind (wpAny_of_eq (a := ((Value.ref x : Value), [Value.str "__class__" t])) (by first | rfl | (simp only [slotArgs]; rfl)) ?_)
    refine wpAny_bind (wpAny_pure (wpAny_bind (L0.at (wpAny_bind (L3.at ?_)))))
    show wpAny _ _ (holding [Value.builtin "object.__class__"] (call (.builtin "getset_descriptor.__get__") [.builtin "object.__class__", .ref x, .ref D]) >>= ret) _ _ _
    refine wpAny_bind (wpAny_holding (wpAny_call (class_get (s := ⟨hp, g, d, t + 1, os⟩) (ox := ox) (od := some od) X I C.hm ?_)))
    refine wpAny_pure ?_
    show wpAny _ _ (handedOut (.ref D)) _ _ _
    rw [handedOut_of (v := .ref D) rfl]
    first
      | exact wpAny_pure (wpAny_pure h)
      | exact wpAny_pure h
      | exact wpAny_pure (wpAny_bind (wpAny_pure (wpAny_pure h))))))))))))
theorem kit_exc {K : Frag} {x D : Addr} {ox od : Obj} (C : L2.ExcC K D) : KitX K (.ref x) (.ref D) (fun h => InstAt h x ox D (some od)) where
  ty := fun _ _ _ I => I.type
  it := fun _ _ X _ => by
    obtain ⟨cdD, hcD, _⟩ := any_some C.hd
    unfold clsIn at hcD
    split at hcD
    · rename_i c' d' cd' sl' ho
      intro A' Q' E' s' k q
      unfold isType loadHead
      exact wpAny_bind (wpAny_loadPart (k _ _ (X _ _ ho)) (wpAny_pure q))
    · cases hcD
  ne := fun h tp dd its n sl X htp => by
    obtain ⟨cdD, hcD, _⟩ := any_some C.hd
    refine Bool.eq_false_iff.mpr fun q => ?_
    have e : D = tp := Value.ref.inj (beq_iff_eq.mp q)
    subst e
    unfold clsIn at hcD
    split at hcD
    · rename_i c' d' cd' sl' ho
      cases (X _ _ ho).symm.trans htp
    · cases hcD
  ca := fun X I k => cls_of_exc C X I k
end EI
namespace L2
open PySem PySem.Spec PyProof.Rows
/-- isinstance(e, c), e the suite's error, with a dict -/
def rIsD (K : PySem.W.Frag) (D a : Addr) (d : Option Addr) : List V → Hp → VK → Prop := fun xs H Q => ∃ (c : V) (cv : Value) (b : Bool) (dd : Addr) (fs : List (Str × V)), xs = [.ref a, c] ∧ (∀ u, RelV c u → u = cv) ∧ d = some dd ∧ H dd = some (.xd fs) ∧ PySem.W.kitOne K (.ref D) cv = some b ∧ Q (.bl b) H
theorem call_isD {X : Cx} {a D : Addr} {d : Option Addr} {oe : Obj} {pn : List (Addr × Obj)} {cls : Value} (C : ExcC X.K D) (hz : Zc cls d oe) (hf : ∃ vs, oe.data = .fields vs) :
    CallR (X.suite a ((a, oe) :: pn)) (.builtin "isinstance") (fun xs H Q => cls = .ref D ∧ rIsD X.K D a d xs H Q) := by
  intro pins s σ H xs us Q I r h
  obtain ⟨rfl, c, cv, b, dd, fs, rfl, hcv, rfl, ea, e, q⟩ := h
  cases r with
  | cons rx rr =>
  cases rr with
  | cons rt rr =>
  cases rr
  cases rx
  have ec := hcv _ rt
  subst ec
  obtain ⟨hget, _⟩ := I.pin (a, oe) (List.mem_append.mpr (.inl List.mem_cons_self))
  obtain ⟨vs, hv⟩ := hf
  obtain ⟨mA, hns, hr⟩ := (show ObjOk X.prog X.w H s.heap dd (.xd fs) from I.hok dd _ ea)
  obtain ⟨od, ho, _⟩ := lookIn_ns hns
  have J : PySem.W.InstAt s.heap a oe D (some od) := ⟨hget, hz.1, by unfold PySem.W.notCls; rw [hv] <;> rfl, by rw [hz.2]; exact ho⟩
  exact PySem.W.kia_one (EI.kit_exc C) I.kIn J e (fun z => nomatch z) fun tk => ⟨.bl b, H, I.kept (t' := tk) fun _ _ z => z, rfl, q⟩
end L2

set_option maxRecDepth 100000
set_option maxHeartbeats 4000000
namespace EF
open PySem PySem.W PySem.Calls PyProof.Rows He He5 HX
def clsB (K : Frag) (D : Addr) : Bool := eqO (findIn K (.ref D) "__class__") (some (some (.builtin "object.__class__"))) && (eqO (specialIn K (.builtin "object.__class__") "__get__") (some (some (.builtin "getset_descriptor.__get__"))) && (decide (takesIn K (.builtin "object.__class__") = some true) && decide (mroIn K D (.type "object") = some true)))
structure ClsT (K : Frag) (D : Addr) : Prop where
  ha : findIn K (.ref D) "__class__" = some (some (.builtin "object.__class__"))
  hn : specialIn K (.builtin "object.__class__") "__get__" = some (some (.builtin "getset_descriptor.__get__"))
  ht : takesIn K (.builtin "object.__class__") = some true
  hm : mroIn K D (.type "object") = some true
theorem cls_ok {K : Frag} {D : Addr} (h : clsB K D = true) : ClsT K D := by
  obtain ⟨h1, h⟩ := ba h
  obtain ⟨h2, h⟩ := ba h
  obtain ⟨h3, h4⟩ := ba h
  exact ⟨eqO_ok h1, eqO_ok h2, of_decide_eq_true h3, of_decide_eq_true h4⟩
/-- an error's class: its fields are read, isinstance asks it -/
def excB (K : Frag) (D : Addr) : Bool := L2.xfB K D && clsB K D
theorem exc_ok {K : Frag} {D : Addr} (h : excB K D = true) : L2.XfC K D ∧ L2.ExcC K D := by
  obtain ⟨h1, h2⟩ := ba h
  have x := L2.xfB_ok h1
  have c := cls_ok h2
  exact ⟨x, x.ga, x.gg, x.exC, x.hdC, c.ha, c.hn, c.ht, c.hm⟩
end EF

set_option maxRecDepth 100000
set_option maxHeartbeats 4000000
/-! # A classmethod with *numbers and a keyword: C.m(a, .., k = v) -/
namespace L2
open PySem PySem.Spec PyProof.Rows
abbrev SpS : Type := List V → List V → Hp → VK → XK → Prop
def FnS (P : Program) (w : World) (K : PySem.W.Frag) (mg : Str → Option Value) (base : Heap) (CX : CXT) (k : Nat) (f : Addr) (ks : List Str) (sp : SpS) : Prop :=
  ∀ (A : Around) (outer : List Env) (s : Shared) (H : Hp) (us ws : List Value) (vs zs : List V) (Q : VK) (E : XK), Room k A → Env0 P w K mg base A outer s H → Vals vs us → Vals zs ws → sp vs zs H Q E →
    codeAny (model P w) A (.call (.ref f) ⟨us, ks.zip ws⟩) (CR CX outer P w H s Q E) s
section
variable {X : Cx} {CX : CXT} {k : Nat} {C p g : Addr} {mc : Value} {sp : SpS} {E : XK} {o e : Expr} {es : List Expr} {kws : List Keyword} {ks : List Str} {f m : Str} {pos apos : Pos} {ta : TE} {t tk : TA} {pl : Sem Bool}
theorem run_cms {pins : List (Addr × Obj)} {σ : L2.St} {H : Hp} {s : Shared} {q : Addr} {Q : VK} {us ws : List Value} {vs zs : List V} (F : FnS X.prog X.w X.K X.mg X.base CX k g ks sp) (hr : Room k X.A) (hx : Passes CX X E) (I : Inv X ((q, PySem.W.methodObj (.ref g) (.ref C)) :: pins) σ H s)
    (r : Vals vs us) (rz : Vals zs ws) (h : sp (.ref C :: vs) zs H Q E) : wpAny (model X.prog X.w) X.A (call (.ref q) us (ks.zip ws)) (EP X pins σ Q) X.xe s := by
  have z : wpAny (model X.prog X.w) X.A (call (.ref q) us (ks.zip ws)) (EP X ((q, PySem.W.methodObj (.ref g) (.ref C)) :: pins) σ Q) X.xe s := by
    refine wpAny_call (PySem.W.method_call (ClX.pin_at I) ?_)
    refine codeAny_mono (F X.A X.stack s H (.ref C :: us) ws (.ref C :: vs) zs Q E hr I.env0 (.cons rfl r) rz h) fun r s' hq => ?_
    cases r with
    | error e => exact hx _ σ H s e s' I hq
    | ok fl =>
      cases fl with
      | ret u => exact I.after hq
      | next => exact False.elim hq
      | brk => exact False.elim hq
      | cont => exact False.elim hq
  exact thn z fun _ _ y => ClX.unpinE y
def tCms (C : Addr) (sp : SpS) (E : XK) (ta : TE) (t tk : TA) : TE := fun σ H Q => ta σ H fun x H1 => x = .ref C ∧ t σ H1 fun vs H2 => tk σ H2 fun zs H3 => sp (.ref C :: vs) zs H3 Q E
theorem pe_cms (he : PE X o ta) (r : ClX.CRead X.K C mc) (c : ClX.CMet X.K C mc m p g) (F : FnS X.prog X.w X.K X.mg X.base CX k g ks sp) (hr : Room k X.A) (hx : Passes CX X E) (ha : PA X (e :: es) t) (hk : PK X kws tk)
    (hst : starEach (e :: es) X.env = (false, eval e X.env) :: starEach es X.env := by rfl) (hall : (backToKw pos (keywordEach kws X.env)).all (·.1.isSome) = true := by rfl) (hks : (backToKw pos (keywordEach kws X.env)).filterMap (·.1) = ks := by rfl)
    (hpl : ((backTo pos (starEach (e :: es) X.env)).any (·.1) || (backToKw pos (keywordEach kws X.env)).any (·.1.isNone)) = false := by rfl)
    (ht : eval (.Call (.Attribute o m apos) (e :: es) kws pos) X.env = (do
      let ov ← eval o X.env
      standAt apos.atName
      let (f, first) ← holding [ov] (getMethod ov m pl)
      callWith pos f first (backTo pos (starEach (e :: es) X.env)) (backToKw pos (keywordEach kws X.env))) := by rfl) :
    PE X (.Call (.Attribute o m apos) (e :: es) kws pos) (tCms C sp E ta t tk) := by
  refine ⟨fun pins s σ H Q I h => ?_⟩
  refine PySem.W.methodCall_KW (pl := pl) (thn (he.run pins s σ H _ I h) fun u s1 ⟨x, H1, I1, rx, ex, q⟩ => ?_) ht
  subst ex
  obtain rfl : u = Value.ref C := rx
  refine ClX.getmethcm_ok I1 r c fun s2 I2 => ?_
  refine PySem.W.callWith_of (P := PySem.W.MethP X.K s1.heap.objs.size g (.ref C)) hpl (PySem.W.keeps_M c.fi) (evalArgs_kw2 hall (thn (ha.run pos _ s2 σ H1 _ I2 q) fun us s3 ⟨vs, H2, I3, rv, q2⟩ => ?_) hst)
  refine thn (hk.run pos _ s3 σ H2 _ I3 q2) fun ws s4 ⟨zs, H3, I4, rz, q3⟩ => ⟨⟨ClX.pin_at I4, I4.kIn⟩, ?_⟩
  rw [hks]
  exact run_cms F hr hx I4 rv rz q3
theorem pe_cms0 (he : PE X o ta) (r : ClX.CRead X.K C mc) (c : ClX.CMet X.K C mc m p g) (F : FnS X.prog X.w X.K X.mg X.base CX k g ks sp) (hr : Room k X.A) (hx : Passes CX X E) (hk : PK X kws tk)
    (hall : (backToKw pos (keywordEach kws X.env)).all (·.1.isSome) = true := by rfl) (hks : (backToKw pos (keywordEach kws X.env)).filterMap (·.1) = ks := by rfl)
    (hpl : ((backTo pos (starEach [] X.env)).any (·.1) || (backToKw pos (keywordEach kws X.env)).any (·.1.isNone)) = false := by rfl)
    (ht : eval (.Call (.Attribute o m apos) [] kws pos) X.env = (do
      let ov ← eval o X.env
      standAt apos.atName
      let (f, first) ← holding [ov] (getMethod ov m pl)
      callWith pos f first (backTo pos (starEach [] X.env)) (backToKw pos (keywordEach kws X.env))) := by rfl) :
    PE X (.Call (.Attribute o m apos) [] kws pos) (tCms C sp E ta tNil tk) := by
  refine ⟨fun pins s σ H Q I h => ?_⟩
  refine PySem.W.methodCall_KW (pl := pl) (thn (he.run pins s σ H _ I h) fun u s1 ⟨x, H1, I1, rx, ex, q⟩ => ?_) ht
  subst ex
  obtain rfl : u = Value.ref C := rx
  refine ClX.getmethcm_ok I1 r c fun s2 I2 => ?_
  refine PySem.W.callWith_of (P := PySem.W.MethP X.K s1.heap.objs.size g (.ref C)) hpl (PySem.W.keeps_M c.fi) (evalArgs_kw2_nil hall ?_)
  refine thn (hk.run pos _ s2 σ H1 _ I2 q) fun ws s4 ⟨zs, H3, I4, rz, q3⟩ => ⟨⟨ClX.pin_at I4, I4.kIn⟩, ?_⟩
  rw [hks]
  exact run_cms (us := []) F hr hx I4 .nil rz q3
end
/-! ### def m(cls, *pv, kx=default) -/
section
variable {P : Program} {w : World} {K : PySem.W.Frag} {mg : Str → Option Value} {base : Heap} {CX : CXT} {k : Nat} {f : Addr} {x qual p1 kx pv : Str} {params : Arguments} {body : List Stmt} {scope : Scope} {N : List Str} {fd : FuncData} {dv : V} {sp : Sp}
theorem fnS_star1 (F : FunD K x qual params body scope [] [(kx, dv)] f fd) (S : FnScope N [p1, kx, pv] scope) (hCX : StX.CXUp CX)
    (hb : ∀ (kV doc pm : Value) (an : Option Addr) (cdv ct : Value) (c v : Value) (rest : List Value), bindArgs (PySem.W.fnOf x qual params body scope .none kV doc pm an cdv ct) ⟨c :: rest, [(kx, v)]⟩ = (newTuple rest >>= fun t => pure [(p1, c), (kx, v), (pv, t)]))
    (hbody : ∀ (cdv : Value) (A : Around) (outer : List Env) (s : Shared) (H : Hp) (vs : List V) (Q : VK) (E : XK), Room k (A.deeper (envOfC qual scope s.heap.objs.size f cdv)) → sp vs H Q E →
      ∃ t, PSs (cxOf CX P w K mg base N qual scope f cdv A outer s H E) body t ∧ t { nx := fun _ H' => Q .non H', rt := Q } (start N vs) H) :
    FnS P w K mg base CX (k + 1) f [kx] (fun vs zs H Q E => ∃ c rest v, vs = c :: rest ∧ zs = [v] ∧ rest.length ≤ sizeLine ∧ ∀ p, H p = Option.none → sp [c, v, V.ref p] (upd H p (.tup rest)) Q E) := by
  intro A outer s H us ws vs zs Q E hr e0 r rz hsp
  obtain ⟨c, rest, v, rfl, rfl, hz, hq⟩ := hsp
  obtain ⟨oc, od, dV, kV, doc, pm, an, cdv, ct, osl, rfl, lk, hcd, hD, _⟩ := F.ex
  have e : dV = .none := by
    rcases hD with ⟨_, e⟩ | ⟨e, _⟩
    · exact e
    · exact absurd rfl e
  subst e
  cases r with
  | cons rc rr =>
  rename_i uc ur
  cases rz with
  | cons rv rn =>
  cases rn
  rename_i uv
  have hn : H s.heap.objs.size = Option.none := e0.hok.fresh (Nat.le_refl _)
  have hl2 : ur.length ≤ sizeLine := by rw [← rr.length]; exact hz
  refine StX.run_bnd lk hcd S hr e0 (G := fun xs H2 => ∃ p, H p = Option.none ∧ xs = [c, v, V.ref p] ∧ H2 = upd H p (.tup rest)) (fun A' Ex Q' h => ?_) fun s2 H2 xs ⟨p, hp, ex, eH⟩ hr' => ?_
  · rw [show ([kx].zip [uv] : List (Str × Value)) = [(kx, uv)] from rfl, hb kV doc pm an cdv ct uc uv ur]
    refine wpAny_bind (wpAny_newTuple (wpAny_pure ?_) hl2)
    have new : ObjOk P w (upd H s.heap.objs.size (.tup rest)) (s.heap.push ({ cls := .type "tuple", data := .seq ur.toArray } : Obj)) s.heap.objs.size (.tup rest) := ⟨hz, ur, rr, ⟨_, Heap.get?_push_size _ rfl, rfl, _, rfl⟩⟩
    have un := StX.un_laid (fs := frs outer) (s := s) (o := ({ cls := .type "tuple", data := .seq ur.toArray } : Obj)) (u := .tup rest) hn
    exact h _ _ [c, v, V.ref s.heap.objs.size] [uc, uv, Value.ref s.heap.objs.size] (StX.env0_laid e0 new) un rfl (fun e s' => hCX outer s H _ _ E e s' un (fun b o q => Heap.get?_push_of_some _ q) rfl) (.cons rc (.cons rv (.cons rfl .nil))) rfl ⟨_, hn, rfl, rfl⟩
  · subst ex eH
    exact hbody cdv A outer s2 _ _ Q E hr' (hq p hp)
theorem fnS_star0 (F : FunD K x qual params body scope [] [(kx, dv)] f fd) (S : FnScope N [p1, kx, pv] scope) (hCX : StX.CXUp CX)
    (hb : ∀ (D : Addr) (doc pm : Value) (an : Option Addr) (cdv ct : Value) (c v : Value) (rest : List Value), ∃ (β γ : Type) (k1 : Option Value → Sem β) (k2 : β → Sem γ) (k3 : γ → Sem (List (Str × Value))) (a : β),
      bindArgs (PySem.W.fnOf x qual params body scope .none (.ref D) doc pm an cdv ct) ⟨c :: rest, []⟩ = ((nsGet D kx >>= k1) >>= k2) >>= k3 ∧ k1 (some v) = pure a ∧ (k2 a >>= k3) = (newTuple rest >>= fun t => pure [(p1, c), (kx, v), (pv, t)]))
    (hbody : ∀ (cdv : Value) (A : Around) (outer : List Env) (s : Shared) (H : Hp) (vs : List V) (Q : VK) (E : XK), Room k (A.deeper (envOfC qual scope s.heap.objs.size f cdv)) → sp vs H Q E →
      ∃ t, PSs (cxOf CX P w K mg base N qual scope f cdv A outer s H E) body t ∧ t { nx := fun _ H' => Q .non H', rt := Q } (start N vs) H) :
    FnS P w K mg base CX (k + 1) f [] (fun vs zs H Q E => ∃ c rest, vs = c :: rest ∧ zs = [] ∧ rest.length ≤ sizeLine ∧ ∀ p, H p = Option.none → sp [c, dv, V.ref p] (upd H p (.tup rest)) Q E) := by
  intro A outer s H us ws vs zs Q E hr e0 r rz hsp
  obtain ⟨c, rest, rfl, rfl, hz, hq⟩ := hsp
  obtain ⟨oc, od, dV, kV, doc, pm, an, cdv, ct, osl, rfl, lk, hcd, hD, hK⟩ := F.ex
  have e : dV = .none := by
    rcases hD with ⟨_, e⟩ | ⟨e, _⟩
    · exact e
    · exact absurd rfl e
  subst e
  rcases hK with e | ⟨D, rfl, hq0⟩
  · cases e
  obtain ⟨uv, hns, rv⟩ := hq0 (kx, dv) (List.mem_singleton.mpr rfl)
  cases rz
  cases r with
  | cons rc rr =>
  rename_i uc ur
  have hn : H s.heap.objs.size = Option.none := e0.hok.fresh (Nat.le_refl _)
  have hl2 : ur.length ≤ sizeLine := by rw [← rr.length]; exact hz
  have KX : K.In s.heap := e0.mod.kin.keeps fun b o e => (e0.bs b o e).1
  refine StX.run_bnd lk hcd S hr e0 (G := fun xs H2 => ∃ p, H p = Option.none ∧ xs = [c, dv, V.ref p] ∧ H2 = upd H p (.tup rest)) (fun A' Ex Q' h => ?_) fun s2 H2 xs ⟨p, hp, ex, eH⟩ hr' => ?_
  · obtain ⟨β, γ, k1, k2, k3, a, e1, e2, e3⟩ := hb D doc pm an cdv ct uc uv ur
    rw [show (([] : List Str).zip ([] : List Value)) = [] from rfl, e1, bind_assoc]
    refine wpAny_bind (wpAny_bind ((PySem.W.looks_nsIn KX hns).here ?_))
    rw [e2]
    refine wpAny_pure ?_
    rw [e3]
    refine wpAny_bind (wpAny_newTuple (wpAny_pure ?_) hl2)
    have new : ObjOk P w (upd H s.heap.objs.size (.tup rest)) (s.heap.push ({ cls := .type "tuple", data := .seq ur.toArray } : Obj)) s.heap.objs.size (.tup rest) := ⟨hz, ur, rr, ⟨_, Heap.get?_push_size _ rfl, rfl, _, rfl⟩⟩
    have un := StX.un_laid (fs := frs outer) (s := s) (o := ({ cls := .type "tuple", data := .seq ur.toArray } : Obj)) (u := .tup rest) hn
    exact h _ _ [c, dv, V.ref s.heap.objs.size] [uc, uv, Value.ref s.heap.objs.size] (StX.env0_laid e0 new) un rfl (fun e s' => hCX outer s H _ _ E e s' un (fun b o q => Heap.get?_push_of_some _ q) rfl) (.cons rc (.cons rv (.cons rfl .nil))) rfl ⟨_, hn, rfl, rfl⟩
  · subst ex eH
    exact hbody cdv A outer s2 _ _ Q E hr' (hq p hp)
end
end L2

set_option maxRecDepth 100000
set_option maxHeartbeats 4000000
namespace L2
open PySem PySem.Spec PyProof.Rows
/-- cls(e, ..), cls a local name that holds the class at C -/
def tMakeL (i : Nat) (C : Addr) (sp : Sp) (E : XK) (t : TA) : TE := fun σ H Q => σ[i]? = some (some (.ref C)) ∧ tMake C sp [] E t σ H Q
section
variable {X : Cx} {CX : CXT} {k i : Nat} {f C : Addr} {ps : List Str} {sp : Sp} {E : XK} {x : Str} {p pos : Pos} {e : Expr} {es : List Expr} {t : TA}
theorem pmkL (O : Ok X.prog X.w X.K X.mg X.base CX k f ps sp) (M : Mk X.K C f) (hr : Room (k + 1) X.A) (hN : X.N[i]? = some x) (hv : Vis X.env.scope x) (hx : Passes CX X E) (ha : PA X (e :: es) t) (hdb : (x == ("__debug__" : Str)) = false := by decide)  (hcd : (x == ("__classdict__" : Str)) = false := by decide)
    (he : starEach (e :: es) X.env = (false, eval e X.env) :: starEach es X.env := by rfl) (hpl : (backTo pos (starEach es X.env)).any (·.1) = false := by rfl) :
    PE X (.Call (.Name x p) (e :: es) [] pos) (tMakeL i C sp E t) := by
  obtain ⟨fd, F, hb, _⟩ := O.ex
  refine ⟨fun pins s σ H Q I h => ?_⟩
  obtain ⟨hs, h⟩ := h
  refine wpAny_Call_Name_kw (thn ((pe_var (pos := p) hN hv hdb hcd).run pins s σ H (fun v H1 => v = .ref C ∧ H1 = H) I ⟨.ref C, hs, rfl, rfl⟩) fun u s1 ⟨v, H1, I1, r1, q1⟩ => ?_)
  obtain ⟨rfl, rfl⟩ := q1
  cases r1
  refine PySem.W.callWith_K (h₀ := X.base) I.ok.mod.kin M.kp (thn (ha.run pos pins s1 σ _ _ I1 h) fun us s2 ⟨vs, H2, I2, r, q⟩ => ⟨I2.kIn, ?_⟩) he hpl
  exact run_make M F hr hb .nil hx I2 r q
end
end L2

set_option maxRecDepth 100000
set_option maxHeartbeats 4000000
/-! # calls and own operators in a try's body -/
namespace L2
open PySem PySem.Spec PyProof.Rows
section
variable {X : Cx} {CX : CXT} {k : Nat} {f C : Addr} {ps : List Str} {sp : Sp} {E : St → XK} {x : Str} {p pos : Pos} {e a b : Expr} {es : List Expr} {ta tb : TE} {t : TA} {op : Operator}
theorem pcS (O : Ok X.prog X.w X.K X.mg X.base CX k f ps sp) (hr : Room k X.A) (hm : X.mg x = some (.ref f)) (hx : ∀ σ, PassesAt CX X σ (E σ)) (ha : PA X (e :: es) t) (hg : Gl X x := by rfl) (hdb : (x == ("__debug__" : Str)) = false := by decide)
    (he : starEach (e :: es) X.env = (false, eval e X.env) :: starEach es X.env := by rfl) (hpl : (backTo pos (starEach es X.env)).any (·.1) = false := by rfl) :
    PE X (.Call (.Name x p) (e :: es) [] pos) (tCallS sp E t) := let ⟨fd, a, b, c⟩ := O.ex; pe_callS a hr hg hm c b hx ha hdb he hpl
/-- a op n in a try's body -/
def tOwnIS (C : Addr) (sp : Sp) (E : St → XK) (ta tb : TE) : TE := fun σ H Q => ta σ H fun x H1 => tb σ H1 fun y H2 => rOwnOpI C sp (E σ) x y H2 Q
theorem peOwnIS (O : Ok X.prog X.w X.K X.mg X.base CX k f ps sp) (W : OwnOpT X.K C op f "int") (hr : Room k X.A) (hx : ∀ σ, PassesAt CX X σ (E σ)) (ha : PE X a ta) (hb : PE X b tb) : PE X (.BinOp a op b pos) (tOwnIS C sp E ta tb) := by
  obtain ⟨fd, F, bn, _⟩ := O.ex
  refine ⟨fun pins s σ H Q I h => wpAny_BinOp (binT ha hb I h fun v u s2 x y H2 I2 rx ry q => ?_)⟩
  obtain ⟨a, dx, fs, n, rfl, rfl, ha, hsp⟩ := q
  cases rx
  obtain ⟨t, rfl⟩ := ry
  obtain ⟨od, J⟩ := inst_of I2.hok ha
  obtain ⟨m, hF⟩ := I2.fr
  obtain ⟨rc, h1, h2⟩ := W.rev
  obtain ⟨fo, h3⟩ := W.tf
  obtain ⟨ro, h4⟩ := W.tr
  refine PySem.W.ksp_binT (T := "int") hF I2.ok.mod.kin J rfl W.first W.at_ W.fn h1 h2 h3 h4 W.sub (wpAny_mono (run_fnS F hr bn (hx σ) I2 (us := [.ref a, .int n t]) (vs := [.ref a, .int n]) (.cons rfl (.cons ⟨t, rfl⟩ .nil)) hsp) (fun r s' q => back_of q) fun _ _ z => z)
end
end L2

set_option maxRecDepth 100000
set_option maxHeartbeats 4000000
/-! # Words of every law: all but the pool, data that are alike, errors that are due -/
namespace L2
open PySem PySem.Spec PyProof.Rows
/-- all but p is as it was -/
def But (p : Addr) (H H' : Hp) : Prop := ∀ b o, b ≠ p → H b = some o → H' b = some o
theorem But.refl (p : Addr) (H : Hp) : But p H H := fun _ _ _ h => h
theorem But.trans {p : Addr} {H H1 H2 : Hp} (a : But p H H1) (b : But p H1 H2) : But p H H2 := fun c o n h => b c o n (a c o n h)
theorem But.set {p : Addr} {H : Hp} {o : HO} : But p H (upd H p o) := fun b u n h => by rw [upd_ne n]; exact h
theorem But.of {p : Addr} {H H' : Hp} (s : Same H H') : But p H H' := fun b o _ h => s b o h
theorem But.sqL {K : PySem.W.Frag} {p a : Addr} {H H' : Hp} {xs : List V} (s : But p H H') (n : a ≠ p) (h : SqL K H a xs) : SqL K H' a xs := by
  rcases h with (h | ⟨o, h⟩) | h
  · exact .inl (.inl (s _ _ n h))
  · exact .inl (.inr ⟨o, s _ _ n h⟩)
  · exact .inr h
theorem yesT {A B : Hp → Prop} {σ : St} {H : Hp} (h : A H) : tYes σ H (fun b H3 => if b = true then A H3 else B H3) := by
  show (if true = true then A H else B H)
  exact iteT h
theorem nope {b : Bool} {A B : Prop} (h : b = false) (k : B) : if b = true then A else B := by
  rw [h]; exact iteF k
theorem yep {b : Bool} {A B : Prop} (h : b = true) (k : A) : if b = true then A else B := by
  rw [h]; exact iteT k
theorem SqT.ty {K : PySem.W.Frag} {H : Hp} {a : Addr} {xs : List V} (h : SqT K H a xs) : TyX K H (.ref a) (.type "tuple") := by
  rcases h with (h | ⟨o, h⟩) | ⟨o, its, n, h, c, _⟩
  · exact .base (.tup h)
  · exact .fTuple h
  · exact .kTuple h c
theorem SqL.ty {K : PySem.W.Frag} {H : Hp} {a : Addr} {xs : List V} (h : SqL K H a xs) : TyX K H (.ref a) (.type "list") := by
  rcases h with (h | ⟨o, h⟩) | ⟨o, its, n, h, c, _⟩
  · exact .base (.lst h)
  · exact .base (.frz h)
  · exact .kList h c
/-- None, a bool, a number, a text -/
inductive Atom : V → Prop where
  | non : Atom .non
  | bl (b : Bool) : Atom (.bl b)
  | int (i : Int) : Atom (.int i)
  | str (z : Str) : Atom (.str z)
/-- x and y are the same data, at most n deep -/
def Eqd (K : PySem.W.Frag) : Nat → Hp → V → V → Prop
  | 0, _, x, y => x = y ∧ Atom x
  | n + 1, H, x, y => (x = y ∧ Atom x) ∨ (∃ a b xs ys, x = .ref a ∧ y = .ref b ∧ ((SqT K H a xs ∧ SqT K H b ys) ∨ (SqL K H a xs ∧ SqL K H b ys)) ∧ xs.length = ys.length ∧ xs.length ≤ sizeLine ∧ ∀ (i : Nat) (u v : V), xs[i]? = some u → ys[i]? = some v → Eqd K n H u v)
theorem Eqd.atom {K : PySem.W.Frag} {n : Nat} {H : Hp} {x : V} (h : Atom x) : Eqd K n H x x := by
  cases n with
  | zero => exact ⟨rfl, h⟩
  | succ n => exact .inl ⟨rfl, h⟩
theorem Eqd.same {K : PySem.W.Frag} : ∀ {n : Nat} {H H' : Hp} {x y : V}, Eqd K n H x y → Same H H' → Eqd K n H' x y := by
  intro n
  induction n with
  | zero => intro H H' x y h _; exact h
  | succ n ih =>
    intro H H' x y h s
    rcases h with h | ⟨a, b, xs, ys, e1, e2, h, hl, hz, hi⟩
    · exact .inl h
    · exact .inr ⟨a, b, xs, ys, e1, e2, h.imp (fun z => ⟨s.seqT z.1, s.seqT z.2⟩) (fun z => ⟨s.seq z.1, s.seq z.2⟩), hl, hz, fun i u v h1 h2 => ih (hi i u v h1 h2) s⟩
theorem Eqd.ints {K : PySem.W.Frag} {n : Nat} {H : Hp} {ns : List Int} : ∀ (i : Nat) (u v : V), (ns.map V.int)[i]? = some u → (ns.map V.int)[i]? = some v → Eqd K n H u v := fun i u v h1 h2 => by
  obtain ⟨x, _, rfl⟩ := map_get h1
  rw [h1] at h2
  cases h2
  exact .atom (.int x)
theorem But.fresh {p : Addr} {o : HO} {H H' : Hp} (hn : H p = none) (bt : But p (upd H p o) H') : Same H H' := fun b u e => by
  have nb : b ≠ p := fun z => by rw [z, hn] at e; cases e
  exact bt b u nb (by rw [upd_ne nb]; exact e)
theorem But.seqT {K : PySem.W.Frag} {p a : Addr} {H H' : Hp} {xs ps : List V} (s : But p H H') (hp : H p = some (.lst ps)) (h : SqT K H a xs) : SqT K H' a xs := by
  rcases h with (h | ⟨o, h⟩) | h
  · exact .inl (.inl (s _ _ (fun z => by rw [z, hp] at h; cases h) h))
  · exact .inl (.inr ⟨o, s _ _ (fun z => by rw [z, hp] at h; cases h) h⟩)
  · exact .inr h
/-- an error of class C with the dict o is raised over a heap that has grown -/
def Rs (C : Addr) (o : HO) (H : Hp) (E : XK) : Prop := ∀ H' d, Same H H' → H' d = none → E (.ref C) (some d) (upd H' d o)
theorem Rs.now {C : Addr} {o : HO} {H : Hp} {E : XK} (h : Rs C o H E) (d : Addr) (hd : H d = none) : E (.ref C) (some d) (upd H d o) := h H d (.refl _) hd
theorem Rs.same {C : Addr} {o : HO} {H H' : Hp} {E : XK} (h : Rs C o H E) (s : Same H H') : Rs C o H' E := fun H2 d s2 hd => h H2 d (s.trans s2) hd
theorem passF {X : Cx} : Passes (L2.CX X.prog X.w) X (fun _ _ _ => False) := passes_call takes0 (fun _ _ _ _ h => h)
theorem sL {n : Nat} (h : n ≤ 1000) : n ≤ sizeLine := by rw [sizeLine_eq]; omega
theorem Eqd.row {K : PySem.W.Frag} {n : Nat} {H : Hp} {a b : Addr} {ns : List Int} (h : (SqT K H a (ns.map V.int) ∧ SqT K H b (ns.map V.int)) ∨ (SqL K H a (ns.map V.int) ∧ SqL K H b (ns.map V.int))) (l : ns.length ≤ 1000) : Eqd K (n + 1) H (.ref a) (.ref b) :=
  .inr ⟨a, b, _, _, rfl, rfl, h, rfl, by rw [List.length_map]; exact sL l, Eqd.ints⟩
theorem mod_lt {a m : Int} (h : 0 < m) : 0 ≤ a.fmod m ∧ a.fmod m < m := by
  rw [Int.fmod_eq_emod_of_nonneg a (by omega)]
  exact ⟨Int.emod_nonneg _ (by omega), Int.emod_lt_of_pos _ h⟩
/-- a law's pool of draws -/
def PoolOk (st : List V) : Prop := ∃ a b c : Int, st = [.int a, .int b, .int c] ∧ 0 ≤ b ∧ b < 2147483648
end L2

set_option maxRecDepth 100000
set_option maxHeartbeats 4000000
/-! # len(obj) of an own class -/
namespace L2
open PySem PySem.Spec PyProof.Rows
section
variable {X : Cx} {CX : CXT} {C f : Addr} {ps : List Str} {sp : Sp} {E : XK} {k : Nat}
/-- len(a), a of a class with __len__, which gives a number below 2 ^ 62 -/
def rOwnLenW (C : Addr) (sp : Sp) (E : XK) : List V → Hp → VK → Prop := fun xs H Q => ∃ a dx fs, xs = [.ref a] ∧ H a = some (.ins C dx fs) ∧ sp [.ref a] H (fun v H' => ∃ n : Nat, v = .int (n : Nat) ∧ n < 2 ^ 62 ∧ Q v H') E
theorem cLen (O : Ok X.prog X.w X.K X.mg X.base CX k f ps sp) (W : PySem.W.findIn X.K (.ref C) "__len__" = some (some (.ref f)) ∧ PySem.W.isFn X.K (.ref f) = true) (hr : Room (k + 1) X.A) (hx : Passes CX X E) : CallR X (.builtin "len") (rOwnLenW C sp E) := by
  obtain ⟨fd, F, hb, _⟩ := O.ex
  intro pins s σ H xs us Q I r h
  obtain ⟨a, dx, fs, rfl, ha, hsp⟩ := h
  cases r with
  | cons r rr =>
  cases rr
  cases r
  obtain ⟨od, J⟩ := inst_of I.hok ha
  obtain ⟨m, hF⟩ := I.fr
  refine PySem.W.len_K hF I.ok.mod.kin J W.1 W.2 (wpAny_mono (run_fnA F hb hr.in1 I.env0.in1 hx I (us := [.ref a]) (vs := [.ref a]) (.cons rfl .nil) hsp) (fun v s' q => ?_) fun _ _ z => z)
  obtain ⟨x, H', I', rx, n, rfl, hn, q⟩ := q
  obtain ⟨t, rfl⟩ := rx
  exact ⟨⟨by omega, by omega⟩, .int (n : Nat), H', I'.tok _, ⟨_, rfl⟩, q⟩
/-- a def called within a built-in's call, in a try's body -/
theorem run_fnAS {E : St → XK} {fd : FuncData} {A : Around} {pins : List (Addr × Obj)} {σ : St} {H : Hp} {s : Shared} {Q : VK} {us : List Value} {vs : List V} (F : FnOk X.prog X.w X.K X.mg X.base CX k f fd ps sp) (hb : Binds X.K fd ps []) (hr : Room k A) (e0 : Env0 X.prog X.w X.K X.mg X.base A X.stack s H) (hx : PassesAt CX X σ (E σ))
    (I : Inv X pins σ H s) (r : Vals vs us) (h : sp vs H Q (E σ)) : wpAny (model X.prog X.w) A (call (.ref f) us) (EP X pins σ Q) X.xe s := by
  have hl : us.length = ps.length := r.length.symm.trans (F.len _ _ _ _ h)
  have B : BindsTo s fd ⟨us, []⟩ (ps.zip us) := by
    have := hb s us I.kIn (by rw [List.append_nil]; exact hl)
    rwa [List.append_nil] at this
  refine wpAny_call (codeAny_mono (F.run A X.stack s H ⟨us, []⟩ us vs Q (E σ) hr e0 B r h) fun r s' hq => ?_)
  cases r with
  | error e => exact hx pins H s e s' I hq
  | ok fl =>
    cases fl with
    | ret u => exact I.after hq
    | next => exact hq.elim
    | brk => exact hq.elim
    | cont => exact hq.elim
/-- a[i], a of a class with __getitem__, i a number; E may hang on the slots (a try's body) -/
def tOwnIx (C : Addr) (sp : Sp) (E : St → XK) (ta tb : TE) : TE := fun σ H Q => ta σ H fun x H1 => tb σ H1 fun y H2 => ∃ p dx fs i, x = .ref p ∧ y = .int i ∧ H2 p = some (.ins C dx fs) ∧ sp [.ref p, .int i] H2 Q (E σ)
structure OwnIx (K : PySem.W.Frag) (C f : Addr) : Prop where
  at_ : PySem.W.findIn K (.ref C) "__getitem__" = some (some (.ref f))
  fi : PySem.W.fnIn K f = true
  fn : PySem.W.isFn K (.ref f) = true
theorem peOwnIx {E : St → XK} {a b : Expr} {ta tb : TE} {pos : Pos} (O : Ok X.prog X.w X.K X.mg X.base CX k f ps sp) (W : OwnIx X.K C f) (hr : Room (k + 1) X.A) (hx : ∀ σ, PassesAt CX X σ (E σ)) (ha : PE X a ta) (hb : PE X b tb)
    (hsl : ∀ (p : Addr) (i : Value), subscripted b true (.ref p) i = runValue (.builtin "lifetime.subscript" ⟨[.ref p, i], []⟩) := by intro _ _; with_unfolding_all rfl) : PE X (.Subscript a b pos) (tOwnIx C sp E ta tb) := by
  obtain ⟨fd, F, bn, _⟩ := O.ex
  refine ⟨fun pins s σ H Q I h => Subscript_ (binT ha hb I h fun v u s2 x y H2 I2 rx ry q => ?_)⟩
  obtain ⟨p, dx, fs, i, rfl, rfl, hp, hsp⟩ := q
  cases rx
  obtain ⟨t, rfl⟩ := ry
  obtain ⟨od, J⟩ := inst_of I2.hok hp
  obtain ⟨m, hF⟩ := I2.fr
  exact PySem.W.sub_K hF I2.ok.mod.kin J W.at_ W.fi W.fn (run_fnAS F bn hr.in1 I2.env0.in1 (hx σ) I2 (us := [.ref p, .int i t]) (vs := [.ref p, .int i]) (.cons rfl (.cons ⟨t, rfl⟩ .nil)) hsp) (hsl p _)
/-- outside a try -/
theorem atP {E : XK} (h : Passes CX X E) : ∀ σ : St, PassesAt CX X σ E := fun σ pins H s e s' I c => h pins σ H s e s' I c
end
end L2

set_option maxRecDepth 100000
set_option maxHeartbeats 4000000
/-! # obj == x, obj < x: an own class's comparison with a value of any of four kinds -/
namespace L2
open PySem PySem.Spec PyProof.Rows
/-- what the right side may be, and its type -/
inductive CmpTy (K : PySem.W.Frag) (H : Hp) : V → Value → Prop
  | int (n : Int) : CmpTy K H (.int n) (.type "int")
  | lst {a : Addr} {xs : List V} (h : SqL K H a xs) : CmpTy K H (.ref a) (.type "list")
  | tup {a : Addr} {xs : List V} (h : SqT K H a xs) : CmpTy K H (.ref a) (.type "tuple")
  | own {a C dx : Addr} {fs : List (Str × V)} (h : H a = some (.ins C dx fs)) : CmpTy K H (.ref a) (.ref C)
theorem CmpTy.looks {X : Cx} {pins : List (Addr × Obj)} {σ : St} {H : Hp} {s : Shared} {y : V} {u tb : Value} (I : Inv X pins σ H s) (c : CmpTy X.K H y tb) (r : RelV y u) : PySem.W.Looks (model X.prog X.w) s.heap (typeOf u) tb := by
  cases c with
  | int n => obtain ⟨t, rfl⟩ := r; exact PySem.W.Looks.of_pure rfl
  | lst h =>
    cases r
    obtain ⟨its, _, p, _⟩ := I.list h
    obtain ⟨o, ho, hc, _⟩ := p.isList
    exact fun A Q E s' k q => wpAny_typeOf_ref (k _ _ ho) (by rw [hc]; exact q)
  | tup h =>
    cases r
    obtain ⟨its, _, ⟨o, ho, hc, _⟩, _⟩ := I.tuple h
    exact fun A Q E s' k q => wpAny_typeOf_ref (k _ _ ho) (by rw [hc]; exact q)
  | own h =>
    cases r
    obtain ⟨od, J⟩ := inst_of I.hok h
    exact J.type
/-- a op y, a of the class at C, whose def for op is at f -/
structure OwnCmp (K : PySem.W.Frag) (C : Addr) (op : CmpOp) (f : Addr) (tb : Value) : Prop where
  at_ : PySem.W.findIn K (.ref C) (cmpInfo op).2.1 = some (some (.ref f))
  fn : PySem.W.isFn K (.ref f) = true
  nf : PySem.W.notFirst K C tb = true
def rOwnCmp (K : PySem.W.Frag) (C : Addr) (tb : Value) (sp : Sp) (E : XK) : R2 := fun x y H Q => ∃ a dx fs, x = .ref a ∧ H a = some (.ins C dx fs) ∧ CmpTy K H y tb ∧ sp [.ref a, y] H Q E
section
variable {X : Cx} {CX : CXT} {C f : Addr} {ps : List Str} {sp : Sp} {E : XK} {k : Nat}
theorem oCmp {op : CmpOp} {tb : Value} (hop : ∀ a b, compareOp op a b = richCompare op a b) (O : Ok X.prog X.w X.K X.mg X.base CX k f ps sp) (W : OwnCmp X.K C op f tb) (hr : Room k X.A) (hx : Passes CX X E) : OpR X (compareOp op) (rOwnCmp X.K C tb sp E) := by
  obtain ⟨fd, F, hb, _⟩ := O.ex
  intro pins s σ H x y v u Q I rx ry h
  obtain ⟨a, dx, fs, rfl, ha, ct, hsp⟩ := h
  cases rx
  obtain ⟨od, J⟩ := inst_of I.hok ha
  obtain ⟨m, hF⟩ := I.fr
  rw [hop]
  exact PySem.W.cmp_K (op := op) hr.units0 hF I.ok.mod.kin J (ct.looks I ry) W.nf W.at_ W.fn (wpAny_mono (run_fn F hr hb .nil hx I (us := [.ref a, u]) (vs := [.ref a, y]) (.cons rfl (.cons ry .nil)) hsp) (fun r s' q => back_of q) fun _ _ z => z)
/-- xs[i] as it is read in xs[i] += n, 0 ≤ i -/
def gIxL (K : PySem.W.Frag) : V → V → Hp → VK → Prop := fun o i H Q => ∃ p xs j v, o = .ref p ∧ i = .int ((j : Nat) : Int) ∧ SqL K H p xs ∧ xs[j]? = some v ∧ Q v H
theorem get_list : PGet X (gIxL X.K) := by
  intro pins s σ H o i ov iv Q I ro ri h
  obtain ⟨p, xs, j, v, rfl, rfl, hp, hj, q⟩ := h
  cases ro
  obtain ⟨t, rfl⟩ := ri
  obtain ⟨its, r, pl, hz⟩ := I.list hp
  obtain ⟨w, ew, rw'⟩ := r.get hj
  have hl := r.length
  have lt : j < xs.length := (List.getElem?_eq_some_iff.mp hj).1
  have hn := line63
  exact wpAny_getItem_list pl.isList (by omega) (by omega) (by rw [Int.toNat_natCast]; simpa using ew) ⟨v, H, I, rw', q⟩
end
end L2

set_option maxRecDepth 100000
set_option maxHeartbeats 4000000
namespace FC
open PySem PySem.W PySem.Calls PyProof.Rows He He5 HX
def cmpB (K : Frag) (C : Addr) (op : CmpOp) (f : Addr) (tb : Value) : Bool := eqO (findIn K (.ref C) (cmpInfo op).2.1) (some (some (.ref f))) && (isFn K (.ref f) && notFirst K C tb)
theorem cmp_ok {K : Frag} {C f : Addr} {op : CmpOp} {tb : Value} (h : cmpB K C op f tb = true) : L2.OwnCmp K C op f tb := by
  obtain ⟨h1, h⟩ := ba h
  obtain ⟨h2, h3⟩ := ba h
  exact ⟨eqO_ok h1, h2, h3⟩
def ixB (K : Frag) (C f : Addr) : Bool := eqO (findIn K (.ref C) "__getitem__") (some (some (.ref f))) && (fnIn K f && isFn K (.ref f))
theorem ix_ok {K : Frag} {C f : Addr} (h : ixB K C f = true) : L2.OwnIx K C f := by
  obtain ⟨h1, h⟩ := ba h
  obtain ⟨h2, h3⟩ := ba h
  exact ⟨eqO_ok h1, h2, h3⟩
end FC

set_option maxRecDepth 100000
set_option maxHeartbeats 0
namespace K32
open PySem PySem.W PySem.Spec PySem.Calls PyProof.Rows L2 He He5 HX
/-! ### the text by its places -/
abbrev PG : Program := PySem.Challenge.pw_nightsoff_k32_turned_rows
def topS (i : Nat) : Stmt := PG.main.body.getD i (.Pass ⟨0, 0, 0, 0⟩)
abbrev s_turned : Stmt := topS 6
abbrev s_check_row : Stmt := topS 7
abbrev s_law_pool : Stmt := topS 9
abbrev s_law_draw : Stmt := topS 10
abbrev s_law_falling : Stmt := topS 11
abbrev s_law_spoil_one : Stmt := topS 12
abbrev s_law_spoiled : Stmt := topS 13
abbrev s_law_int : Stmt := topS 14
abbrev s_law_same : Stmt := topS 15
abbrev s_law_counted : Stmt := topS 16
abbrev s_law_first_wrong : Stmt := topS 17
abbrev s_law_try_turned : Stmt := topS 18
abbrev s_law_turned_right : Stmt := topS 19
abbrev s_law : Stmt := topS 20
abbrev e_BadNumber : Stmt := inClass (topS 2) 0
abbrev e_NotFalling : Stmt := inClass (topS 3) 0
abbrev e_UnlikeSums : Stmt := inClass (topS 4) 0
/-! ### the errors: what their __init__ says -/
theorem tx_BadNumber : InitTx PG e_BadNumber "BadNumber.__init__" ["place", "number"] [("place", "place"), ("number", "number")] where
  txt := ⟨_, _, _, _, _, _, _, _, _, rfl, .cons (.cons (.nil)), fun env h => (by rw [show interactive env = (env.scope.kind == ScopeKind.module && env.scope.more.any fun (n, _) => n == ("interactive" : Str)) from rfl, h]; rfl), fun env h => ⟨_, by obtain ⟨⟩ := env; cases h; rfl⟩⟩
  par := ⟨_, rfl, rfl⟩
  sc := ⟨⟨rfl, rfl, rfl⟩, by decide +kernel, rfl, rfl, rfl⟩
  loc := by decide +kernel
  nod := by decide +kernel
  bind := fun s e fd us hl h1 h2 h3 => (match us, hl with | [_, _], _ => .of_eq (by obtain ⟨⟩ := fd; cases h1; cases h2; cases h3; rfl))
  top := by decide +kernel
  few := by decide
theorem tx_NotFalling : InitTx PG e_NotFalling "NotFalling.__init__" ["place"] [("place", "place")] where
  txt := ⟨_, _, _, _, _, _, _, _, _, rfl, .cons (.nil), fun env h => (by rw [show interactive env = (env.scope.kind == ScopeKind.module && env.scope.more.any fun (n, _) => n == ("interactive" : Str)) from rfl, h]; rfl), fun env h => ⟨_, by obtain ⟨⟩ := env; cases h; rfl⟩⟩
  par := ⟨_, rfl, rfl⟩
  sc := ⟨⟨rfl, rfl, rfl⟩, by decide +kernel, rfl, rfl, rfl⟩
  loc := by decide +kernel
  nod := by decide +kernel
  bind := fun s e fd us hl h1 h2 h3 => (match us, hl with | [_], _ => .of_eq (by obtain ⟨⟩ := fd; cases h1; cases h2; cases h3; rfl))
  top := by decide +kernel
  few := by decide
theorem tx_UnlikeSums : InitTx PG e_UnlikeSums "UnlikeSums.__init__" ["one", "other"] [("one", "one"), ("other", "other")] where
  txt := ⟨_, _, _, _, _, _, _, _, _, rfl, .cons (.cons (.nil)), fun env h => (by rw [show interactive env = (env.scope.kind == ScopeKind.module && env.scope.more.any fun (n, _) => n == ("interactive" : Str)) from rfl, h]; rfl), fun env h => ⟨_, by obtain ⟨⟩ := env; cases h; rfl⟩⟩
  par := ⟨_, rfl, rfl⟩
  sc := ⟨⟨rfl, rfl, rfl⟩, by decide +kernel, rfl, rfl, rfl⟩
  loc := by decide +kernel
  nod := by decide +kernel
  bind := fun s e fd us hl h1 h2 h3 => (match us, hl with | [_, _], _ => .of_eq (by obtain ⟨⟩ := fd; cases h1; cases h2; cases h3; rfl))
  top := by decide +kernel
  few := by decide
/-! ### facts -/
def fn : List DefA := [
  { at_ := fun K => ga K "turned", name := "turned", qual := "turned", params := defArgs s_turned, body := defBody s_turned, scope := defScope s_turned },
  { at_ := fun K => ga K "check_row", name := "check_row", qual := "check_row", params := defArgs s_check_row, body := defBody s_check_row, scope := defScope s_check_row },
  { at_ := fun K => ga K "_law_pool", name := "_law_pool", qual := "_law_pool", params := defArgs s_law_pool, body := defBody s_law_pool, scope := defScope s_law_pool },
  { at_ := fun K => ga K "_law_draw", name := "_law_draw", qual := "_law_draw", params := defArgs s_law_draw, body := defBody s_law_draw, scope := defScope s_law_draw },
  { at_ := fun K => ga K "_law_falling", name := "_law_falling", qual := "_law_falling", params := defArgs s_law_falling, body := defBody s_law_falling, scope := defScope s_law_falling },
  { at_ := fun K => ga K "_law_spoil_one", name := "_law_spoil_one", qual := "_law_spoil_one", params := defArgs s_law_spoil_one, body := defBody s_law_spoil_one, scope := defScope s_law_spoil_one },
  { at_ := fun K => ga K "_law_spoiled", name := "_law_spoiled", qual := "_law_spoiled", params := defArgs s_law_spoiled, body := defBody s_law_spoiled, scope := defScope s_law_spoiled },
  { at_ := fun K => ga K "_law_int", name := "_law_int", qual := "_law_int", params := defArgs s_law_int, body := defBody s_law_int, scope := defScope s_law_int },
  { at_ := fun K => ga K "_law_same", name := "_law_same", qual := "_law_same", params := defArgs s_law_same, body := defBody s_law_same, scope := defScope s_law_same },
  { at_ := fun K => ga K "_law_counted", name := "_law_counted", qual := "_law_counted", params := defArgs s_law_counted, body := defBody s_law_counted, scope := defScope s_law_counted },
  { at_ := fun K => ga K "_law_first_wrong", name := "_law_first_wrong", qual := "_law_first_wrong", params := defArgs s_law_first_wrong, body := defBody s_law_first_wrong, scope := defScope s_law_first_wrong },
  { at_ := fun K => ga K "_law_try_turned", name := "_law_try_turned", qual := "_law_try_turned", params := defArgs s_law_try_turned, body := defBody s_law_try_turned, scope := defScope s_law_try_turned },
  { at_ := fun K => ga K "_law_turned_right", name := "_law_turned_right", qual := "_law_turned_right", params := defArgs s_law_turned_right, body := defBody s_law_turned_right, scope := defScope s_law_turned_right },
  { at_ := fun K => ga K "law", name := "law", qual := "law", params := defArgs s_law, body := defBody s_law, scope := defScope s_law }]
def er : List ErrD := [⟨"BadNumber", e_BadNumber, "BadNumber.__init__", ["place", "number"]⟩, ⟨"NotFalling", e_NotFalling, "NotFalling.__init__", ["place"]⟩, ⟨"UnlikeSums", e_UnlikeSums, "UnlikeSums.__init__", ["one", "other"]⟩]
def bl (K : Frag) : List Bool := [
  (Fa.free "super").ok K,
  eqO (nsIn K cStatics "thirdparty.any") (some none),
  (Fa.free "len").ok K,
  (Fa.free "enumerate").ok K,
  (Fa.free "tuple").ok K,
  (Fa.free "sum").ok K,
  (Fa.free "abs").ok K,
  (Fa.free "int").ok K,
  (Fa.free "range").ok K,
  (Fa.free "isinstance").ok K,
  (Fa.free "bool").ok K,
  (Fa.free "str").ok K,
  (Fa.free "list").ok K,
  (Fa.free "max").ok K,
  (Fa.free "min").ok K,
  (Fa.free "ValueError").ok K,
  (Fa.glo "turned").ok K,
  (Fa.glo "check_row").ok K,
  (Fa.glo "_law_pool").ok K,
  (Fa.glo "_law_draw").ok K,
  (Fa.glo "_law_falling").ok K,
  (Fa.glo "_law_spoil_one").ok K,
  (Fa.glo "_law_spoiled").ok K,
  (Fa.glo "_law_int").ok K,
  (Fa.glo "_law_same").ok K,
  (Fa.glo "_law_counted").ok K,
  (Fa.glo "_law_first_wrong").ok K,
  (Fa.glo "_law_try_turned").ok K,
  (Fa.glo "_law_turned_right").ok K,
  (Fa.glo "law").ok K,
  (Fa.glo "NightsError").ok K,
  EF.excB K (ga K "NotFalling"),
  (Fa.noat "NotFalling" "place").ok K,
  (Fa.exm "NotFalling" "NotFalling" true).ok K,
  decide (kitOne K (.ref (ga K "NotFalling")) (.ref (ga K "NightsError")) = some true),
  decide (kitOne K (.ref (ga K "NotFalling")) (.type "ValueError") = some true),
  decide (kitOne K (.ref (ga K "NotFalling")) (.ref (ga K "BadNumber")) = some false),
  decide (kitOne K (.ref (ga K "NotFalling")) (.ref (ga K "UnlikeSums")) = some false)]
def bx (K : Frag) : Bool := (bl K).all fun b => b
abbrev R : OpenRow := OpenLaw.row PySem.Challenge.rw_nightsoff_k32_turned_rows
abbrev hk : Hook := hookX 6 bx fn er "/claim/cut.py"
def ob (s : SharedT) : AlX := obsXG 6 bx fn er "/claim/cut.py" (HandSHeadRun.getT s)
theorem ob_eq (s : SharedT) : ob s = hk.obs s.abs := obsXG_eq (HandSHeadRun.getT_eq s)
def nm0 : List Str := ["NightsError", "BadNumber", "NotFalling", "UnlikeSums", "turned", "check_row", "_law_pool", "_law_draw", "_law_falling", "_law_spoil_one", "_law_spoiled", "_law_int", "_law_same", "_law_counted", "_law_first_wrong", "_law_try_turned", "_law_turned_right"]
def names : List Str := nm0
theorem run (w : World) : HandSHeadRun.RunEq R (view R.prog [20]) hk ob 20000 names w := by
  intro os
  kernel_rfl
theorem fact {K : Frag} (c : SaysX bx fn er "/claim/cut.py" K) (i : Nat) {b : Bool} (h : (bl K)[i]? = some b := by rfl) : b = true := List.all_eq_true.mp (SaysX.bool c) b (List.mem_of_getElem? h)
/-! ### where the defs stand, their names, their facts in one bundle -/
abbrev c_NightsError (K : Frag) : Addr := ga K "NightsError"
abbrev c_BadNumber (K : Frag) : Addr := ga K "BadNumber"
abbrev c_NotFalling (K : Frag) : Addr := ga K "NotFalling"
abbrev c_UnlikeSums (K : Frag) : Addr := ga K "UnlikeSums"
abbrev a_turned (K : Frag) : Addr := (fun K => ga K "turned") K
abbrev a_check_row (K : Frag) : Addr := (fun K => ga K "check_row") K
abbrev a_law_pool (K : Frag) : Addr := (fun K => ga K "_law_pool") K
abbrev a_law_draw (K : Frag) : Addr := (fun K => ga K "_law_draw") K
abbrev a_law_falling (K : Frag) : Addr := (fun K => ga K "_law_falling") K
abbrev a_law_spoil_one (K : Frag) : Addr := (fun K => ga K "_law_spoil_one") K
abbrev a_law_spoiled (K : Frag) : Addr := (fun K => ga K "_law_spoiled") K
abbrev a_law_int (K : Frag) : Addr := (fun K => ga K "_law_int") K
abbrev a_law_same (K : Frag) : Addr := (fun K => ga K "_law_same") K
abbrev a_law_counted (K : Frag) : Addr := (fun K => ga K "_law_counted") K
abbrev a_law_first_wrong (K : Frag) : Addr := (fun K => ga K "_law_first_wrong") K
abbrev a_law_try_turned (K : Frag) : Addr := (fun K => ga K "_law_try_turned") K
abbrev a_law_turned_right (K : Frag) : Addr := (fun K => ga K "_law_turned_right") K
abbrev a_law (K : Frag) : Addr := (fun K => ga K "law") K
abbrev i_BadNumber (K : Frag) : Addr := ma K (ga K "BadNumber") "__init__"
abbrev i_NotFalling (K : Frag) : Addr := ma K (ga K "NotFalling") "__init__"
abbrev i_UnlikeSums (K : Frag) : Addr := ma K (ga K "UnlikeSums") "__init__"
abbrev n_turned : List Str := ["row", "least", "number"]
abbrev p_turned : List Str := ["row"]
theorem sc_turned : FnScope n_turned p_turned (defScope s_turned) := ⟨rfl, rfl, rfl, by decide +kernel, rfl, by decide +kernel, by decide +kernel⟩
abbrev n_check_row : List Str := ["row", "place", "number"]
abbrev p_check_row : List Str := ["row"]
theorem sc_check_row : FnScope n_check_row p_check_row (defScope s_check_row) := ⟨rfl, rfl, rfl, by decide +kernel, rfl, by decide +kernel, by decide +kernel⟩
abbrev n_law_pool : List Str := ["script", "at", "cell"]
abbrev p_law_pool : List Str := ["script", "at"]
theorem sc_law_pool : FnScope n_law_pool p_law_pool (defScope s_law_pool) := ⟨rfl, rfl, rfl, by decide +kernel, rfl, by decide +kernel, by decide +kernel⟩
abbrev n_law_draw : List Str := ["pool", "many", "value", "mixed"]
abbrev p_law_draw : List Str := ["pool", "many"]
theorem sc_law_draw : FnScope n_law_draw p_law_draw (defScope s_law_draw) := ⟨rfl, rfl, rfl, by decide +kernel, rfl, by decide +kernel, by decide +kernel⟩
abbrev n_law_falling : List Str := ["pool", "total", "row", "left", "turn", "most", "number"]
abbrev p_law_falling : List Str := ["pool", "total"]
theorem sc_law_falling : FnScope n_law_falling p_law_falling (defScope s_law_falling) := ⟨rfl, rfl, rfl, by decide +kernel, rfl, by decide +kernel, by decide +kernel⟩
abbrev n_law_spoil_one : List Str := ["pool", "row", "bent", "way", "place"]
abbrev p_law_spoil_one : List Str := ["pool", "row"]
theorem sc_law_spoil_one : FnScope n_law_spoil_one p_law_spoil_one (defScope s_law_spoil_one) := ⟨rfl, rfl, rfl, by decide +kernel, rfl, by decide +kernel, by decide +kernel⟩
abbrev n_law_spoiled : List Str := ["pool", "row", "way", "place", "bent"]
abbrev p_law_spoiled : List Str := ["pool", "row"]
theorem sc_law_spoiled : FnScope n_law_spoiled p_law_spoiled (defScope s_law_spoiled) := ⟨rfl, rfl, rfl, by decide +kernel, rfl, by decide +kernel, by decide +kernel⟩
abbrev n_law_int : List Str := ["x"]
abbrev p_law_int : List Str := ["x"]
theorem sc_law_int : FnScope n_law_int p_law_int (defScope s_law_int) := ⟨rfl, rfl, rfl, by decide +kernel, rfl, by decide +kernel, by decide +kernel⟩
abbrev n_law_same : List Str := ["got", "due", "place"]
abbrev p_law_same : List Str := ["got", "due"]
theorem sc_law_same : FnScope n_law_same p_law_same (defScope s_law_same) := ⟨rfl, rfl, rfl, by decide +kernel, rfl, by decide +kernel, by decide +kernel⟩
abbrev n_law_counted : List Str := ["row", "counts", "number", "place"]
abbrev p_law_counted : List Str := ["row"]
theorem sc_law_counted : FnScope n_law_counted p_law_counted (defScope s_law_counted) := ⟨rfl, rfl, rfl, by decide +kernel, rfl, by decide +kernel, by decide +kernel⟩
abbrev n_law_first_wrong : List Str := ["row", "place"]
abbrev p_law_first_wrong : List Str := ["row"]
theorem sc_law_first_wrong : FnScope n_law_first_wrong p_law_first_wrong (defScope s_law_first_wrong) := ⟨rfl, rfl, rfl, by decide +kernel, rfl, by decide +kernel, by decide +kernel⟩
abbrev n_law_try_turned : List Str := ["row", "found", "word", "e"]
abbrev p_law_try_turned : List Str := ["row"]
theorem sc_law_try_turned : FnScope n_law_try_turned p_law_try_turned (defScope s_law_try_turned) := ⟨rfl, rfl, rfl, by decide +kernel, rfl, by decide +kernel, by decide +kernel⟩
abbrev n_law_turned_right : List Str := ["row", "wrong", "handed", "told", "due"]
abbrev p_law_turned_right : List Str := ["row"]
theorem sc_law_turned_right : FnScope n_law_turned_right p_law_turned_right (defScope s_law_turned_right) := ⟨rfl, rfl, rfl, by decide +kernel, rfl, by decide +kernel, by decide +kernel⟩
abbrev n_law : List Str := ["script", "pool", "total", "row", "other", "bent"]
abbrev p_law : List Str := ["script"]
theorem sc_law : FnScope n_law p_law (defScope s_law) := ⟨rfl, rfl, rfl, by decide +kernel, rfl, by decide +kernel, by decide +kernel⟩
theorem bi_turned {K : Frag} {fd : FuncData} (F : FunD K "turned" "turned" (defArgs s_turned) (defBody s_turned) (defScope s_turned) [] [] (a_turned K) fd) : Binds K fd p_turned [] := F.bindsN fun _ _ _ _ _ _ us hl => (match us, hl with | [_], _ => rfl)
theorem bi_check_row {K : Frag} {fd : FuncData} (F : FunD K "check_row" "check_row" (defArgs s_check_row) (defBody s_check_row) (defScope s_check_row) [] [] (a_check_row K) fd) : Binds K fd p_check_row [] := F.bindsN fun _ _ _ _ _ _ us hl => (match us, hl with | [_], _ => rfl)
theorem bi_law_pool {K : Frag} {fd : FuncData} (F : FunD K "_law_pool" "_law_pool" (defArgs s_law_pool) (defBody s_law_pool) (defScope s_law_pool) [] [] (a_law_pool K) fd) : Binds K fd p_law_pool [] := F.bindsN fun _ _ _ _ _ _ us hl => (match us, hl with | [_, _], _ => rfl)
theorem bi_law_draw {K : Frag} {fd : FuncData} (F : FunD K "_law_draw" "_law_draw" (defArgs s_law_draw) (defBody s_law_draw) (defScope s_law_draw) [] [] (a_law_draw K) fd) : Binds K fd p_law_draw [] := F.bindsN fun _ _ _ _ _ _ us hl => (match us, hl with | [_, _], _ => rfl)
theorem bi_law_falling {K : Frag} {fd : FuncData} (F : FunD K "_law_falling" "_law_falling" (defArgs s_law_falling) (defBody s_law_falling) (defScope s_law_falling) [] [] (a_law_falling K) fd) : Binds K fd p_law_falling [] := F.bindsN fun _ _ _ _ _ _ us hl => (match us, hl with | [_, _], _ => rfl)
theorem bi_law_spoil_one {K : Frag} {fd : FuncData} (F : FunD K "_law_spoil_one" "_law_spoil_one" (defArgs s_law_spoil_one) (defBody s_law_spoil_one) (defScope s_law_spoil_one) [] [] (a_law_spoil_one K) fd) : Binds K fd p_law_spoil_one [] := F.bindsN fun _ _ _ _ _ _ us hl => (match us, hl with | [_, _], _ => rfl)
theorem bi_law_spoiled {K : Frag} {fd : FuncData} (F : FunD K "_law_spoiled" "_law_spoiled" (defArgs s_law_spoiled) (defBody s_law_spoiled) (defScope s_law_spoiled) [] [] (a_law_spoiled K) fd) : Binds K fd p_law_spoiled [] := F.bindsN fun _ _ _ _ _ _ us hl => (match us, hl with | [_, _], _ => rfl)
theorem bi_law_int {K : Frag} {fd : FuncData} (F : FunD K "_law_int" "_law_int" (defArgs s_law_int) (defBody s_law_int) (defScope s_law_int) [] [] (a_law_int K) fd) : Binds K fd p_law_int [] := F.bindsN fun _ _ _ _ _ _ us hl => (match us, hl with | [_], _ => rfl)
theorem bi_law_same {K : Frag} {fd : FuncData} (F : FunD K "_law_same" "_law_same" (defArgs s_law_same) (defBody s_law_same) (defScope s_law_same) [] [] (a_law_same K) fd) : Binds K fd p_law_same [] := F.bindsN fun _ _ _ _ _ _ us hl => (match us, hl with | [_, _], _ => rfl)
theorem bi_law_counted {K : Frag} {fd : FuncData} (F : FunD K "_law_counted" "_law_counted" (defArgs s_law_counted) (defBody s_law_counted) (defScope s_law_counted) [] [] (a_law_counted K) fd) : Binds K fd p_law_counted [] := F.bindsN fun _ _ _ _ _ _ us hl => (match us, hl with | [_], _ => rfl)
theorem bi_law_first_wrong {K : Frag} {fd : FuncData} (F : FunD K "_law_first_wrong" "_law_first_wrong" (defArgs s_law_first_wrong) (defBody s_law_first_wrong) (defScope s_law_first_wrong) [] [] (a_law_first_wrong K) fd) : Binds K fd p_law_first_wrong [] := F.bindsN fun _ _ _ _ _ _ us hl => (match us, hl with | [_], _ => rfl)
theorem bi_law_try_turned {K : Frag} {fd : FuncData} (F : FunD K "_law_try_turned" "_law_try_turned" (defArgs s_law_try_turned) (defBody s_law_try_turned) (defScope s_law_try_turned) [] [] (a_law_try_turned K) fd) : Binds K fd p_law_try_turned [] := F.bindsN fun _ _ _ _ _ _ us hl => (match us, hl with | [_], _ => rfl)
theorem bi_law_turned_right {K : Frag} {fd : FuncData} (F : FunD K "_law_turned_right" "_law_turned_right" (defArgs s_law_turned_right) (defBody s_law_turned_right) (defScope s_law_turned_right) [] [] (a_law_turned_right K) fd) : Binds K fd p_law_turned_right [] := F.bindsN fun _ _ _ _ _ _ us hl => (match us, hl with | [_], _ => rfl)
theorem bi_law {K : Frag} {fd : FuncData} (F : FunD K "law" "law" (defArgs s_law) (defBody s_law) (defScope s_law) [] [] (a_law K) fd) : Binds K fd p_law [] := F.bindsN fun _ _ _ _ _ _ us hl => (match us, hl with | [_], _ => rfl)
structure Tx (K : Frag) (mg : Str → Option Value) : Prop where
  any : nsIn K cStatics "thirdparty.any" = some none
  m_super : mg "super" = none
  m_len : mg "len" = none
  m_enumerate : mg "enumerate" = none
  m_tuple : mg "tuple" = none
  m_sum : mg "sum" = none
  m_abs : mg "abs" = none
  m_int : mg "int" = none
  m_range : mg "range" = none
  m_isinstance : mg "isinstance" = none
  m_bool : mg "bool" = none
  m_str : mg "str" = none
  m_list : mg "list" = none
  m_max : mg "max" = none
  m_min : mg "min" = none
  m_ValueError : mg "ValueError" = none
  g_turned : mg "turned" = some (.ref (a_turned K))
  g_check_row : mg "check_row" = some (.ref (a_check_row K))
  g_law_pool : mg "_law_pool" = some (.ref (a_law_pool K))
  g_law_draw : mg "_law_draw" = some (.ref (a_law_draw K))
  g_law_falling : mg "_law_falling" = some (.ref (a_law_falling K))
  g_law_spoil_one : mg "_law_spoil_one" = some (.ref (a_law_spoil_one K))
  g_law_spoiled : mg "_law_spoiled" = some (.ref (a_law_spoiled K))
  g_law_int : mg "_law_int" = some (.ref (a_law_int K))
  g_law_same : mg "_law_same" = some (.ref (a_law_same K))
  g_law_counted : mg "_law_counted" = some (.ref (a_law_counted K))
  g_law_first_wrong : mg "_law_first_wrong" = some (.ref (a_law_first_wrong K))
  g_law_try_turned : mg "_law_try_turned" = some (.ref (a_law_try_turned K))
  g_law_turned_right : mg "_law_turned_right" = some (.ref (a_law_turned_right K))
  g_law : mg "law" = some (.ref (a_law K))
  f_turned : ∃ fd, FunD K "turned" "turned" (defArgs s_turned) (defBody s_turned) (defScope s_turned) [] [] (a_turned K) fd
  f_check_row : ∃ fd, FunD K "check_row" "check_row" (defArgs s_check_row) (defBody s_check_row) (defScope s_check_row) [] [] (a_check_row K) fd
  f_law_pool : ∃ fd, FunD K "_law_pool" "_law_pool" (defArgs s_law_pool) (defBody s_law_pool) (defScope s_law_pool) [] [] (a_law_pool K) fd
  f_law_draw : ∃ fd, FunD K "_law_draw" "_law_draw" (defArgs s_law_draw) (defBody s_law_draw) (defScope s_law_draw) [] [] (a_law_draw K) fd
  f_law_falling : ∃ fd, FunD K "_law_falling" "_law_falling" (defArgs s_law_falling) (defBody s_law_falling) (defScope s_law_falling) [] [] (a_law_falling K) fd
  f_law_spoil_one : ∃ fd, FunD K "_law_spoil_one" "_law_spoil_one" (defArgs s_law_spoil_one) (defBody s_law_spoil_one) (defScope s_law_spoil_one) [] [] (a_law_spoil_one K) fd
  f_law_spoiled : ∃ fd, FunD K "_law_spoiled" "_law_spoiled" (defArgs s_law_spoiled) (defBody s_law_spoiled) (defScope s_law_spoiled) [] [] (a_law_spoiled K) fd
  f_law_int : ∃ fd, FunD K "_law_int" "_law_int" (defArgs s_law_int) (defBody s_law_int) (defScope s_law_int) [] [] (a_law_int K) fd
  f_law_same : ∃ fd, FunD K "_law_same" "_law_same" (defArgs s_law_same) (defBody s_law_same) (defScope s_law_same) [] [] (a_law_same K) fd
  f_law_counted : ∃ fd, FunD K "_law_counted" "_law_counted" (defArgs s_law_counted) (defBody s_law_counted) (defScope s_law_counted) [] [] (a_law_counted K) fd
  f_law_first_wrong : ∃ fd, FunD K "_law_first_wrong" "_law_first_wrong" (defArgs s_law_first_wrong) (defBody s_law_first_wrong) (defScope s_law_first_wrong) [] [] (a_law_first_wrong K) fd
  f_law_try_turned : ∃ fd, FunD K "_law_try_turned" "_law_try_turned" (defArgs s_law_try_turned) (defBody s_law_try_turned) (defScope s_law_try_turned) [] [] (a_law_try_turned K) fd
  f_law_turned_right : ∃ fd, FunD K "_law_turned_right" "_law_turned_right" (defArgs s_law_turned_right) (defBody s_law_turned_right) (defScope s_law_turned_right) [] [] (a_law_turned_right K) fd
  f_law : ∃ fd, FunD K "law" "law" (defArgs s_law) (defBody s_law) (defScope s_law) [] [] (a_law K) fd
  e_BadNumber : Exn PG K mg "BadNumber" (c_BadNumber K) (i_BadNumber K) ["place", "number"] [("place", "place"), ("number", "number")]
  e_NotFalling : Exn PG K mg "NotFalling" (c_NotFalling K) (i_NotFalling K) ["place"] [("place", "place")]
  e_UnlikeSums : Exn PG K mg "UnlikeSums" (c_UnlikeSums K) (i_UnlikeSums K) ["one", "other"] [("one", "one"), ("other", "other")]
  gNightsError : mg "NightsError" = some (.ref (c_NightsError K))
  xNotFalling : XfC K (c_NotFalling K) ∧ ExcC K (c_NotFalling K)
  nNotFalling_place : findIn K (.ref (c_NotFalling K)) "place" = some none
  mNotFalling_NotFalling : exmOne K (.ref (c_NotFalling K)) (.ref (c_NotFalling K)) = some true
  kNotFalling_NightsError : kitOne K (.ref (c_NotFalling K)) (.ref (c_NightsError K)) = some true
  kNotFalling_ValueError : kitOne K (.ref (c_NotFalling K)) (.type "ValueError") = some true
  kNotFalling_BadNumber : kitOne K (.ref (c_NotFalling K)) (.ref (c_BadNumber K)) = some false
  kNotFalling_UnlikeSums : kitOne K (.ref (c_NotFalling K)) (.ref (c_UnlikeSums K)) = some false
theorem tx_of {K : Frag} {h : Heap} {mg : Str → Option Value} (c : SaysX bx fn er "/claim/cut.py" K) (X : K.In h) (G : h.Ns mainGlobals mg) : Tx K mg where
  any := eqO_ok (fact c 1)
  m_super := free_ok X G (x := "super") (fact c 0)
  m_len := free_ok X G (x := "len") (fact c 2)
  m_enumerate := free_ok X G (x := "enumerate") (fact c 3)
  m_tuple := free_ok X G (x := "tuple") (fact c 4)
  m_sum := free_ok X G (x := "sum") (fact c 5)
  m_abs := free_ok X G (x := "abs") (fact c 6)
  m_int := free_ok X G (x := "int") (fact c 7)
  m_range := free_ok X G (x := "range") (fact c 8)
  m_isinstance := free_ok X G (x := "isinstance") (fact c 9)
  m_bool := free_ok X G (x := "bool") (fact c 10)
  m_str := free_ok X G (x := "str") (fact c 11)
  m_list := free_ok X G (x := "list") (fact c 12)
  m_max := free_ok X G (x := "max") (fact c 13)
  m_min := free_ok X G (x := "min") (fact c 14)
  m_ValueError := free_ok X G (x := "ValueError") (fact c 15)
  g_turned := glo_ok X G (x := "turned") (fact c 16)
  g_check_row := glo_ok X G (x := "check_row") (fact c 17)
  g_law_pool := glo_ok X G (x := "_law_pool") (fact c 18)
  g_law_draw := glo_ok X G (x := "_law_draw") (fact c 19)
  g_law_falling := glo_ok X G (x := "_law_falling") (fact c 20)
  g_law_spoil_one := glo_ok X G (x := "_law_spoil_one") (fact c 21)
  g_law_spoiled := glo_ok X G (x := "_law_spoiled") (fact c 22)
  g_law_int := glo_ok X G (x := "_law_int") (fact c 23)
  g_law_same := glo_ok X G (x := "_law_same") (fact c 24)
  g_law_counted := glo_ok X G (x := "_law_counted") (fact c 25)
  g_law_first_wrong := glo_ok X G (x := "_law_first_wrong") (fact c 26)
  g_law_try_turned := glo_ok X G (x := "_law_try_turned") (fact c 27)
  g_law_turned_right := glo_ok X G (x := "_law_turned_right") (fact c 28)
  g_law := glo_ok X G (x := "law") (fact c 29)
  f_turned := c.def_ 0
  f_check_row := c.def_ 1
  f_law_pool := c.def_ 2
  f_law_draw := c.def_ 3
  f_law_falling := c.def_ 4
  f_law_spoil_one := c.def_ 5
  f_law_spoiled := c.def_ 6
  f_law_int := c.def_ 7
  f_law_same := c.def_ 8
  f_law_counted := c.def_ 9
  f_law_first_wrong := c.def_ 10
  f_law_try_turned := c.def_ 11
  f_law_turned_right := c.def_ 12
  f_law := c.def_ 13
  e_BadNumber := errD_ok (d := ⟨"BadNumber", e_BadNumber, "BadNumber.__init__", ["place", "number"]⟩) X G tx_BadNumber rfl (free_ok X G (x := "super") (fact c 0)) (eqO_ok (fact c 1)) (c.err_ (d := ⟨"BadNumber", e_BadNumber, "BadNumber.__init__", ["place", "number"]⟩) 0).1 (c.err_ (d := ⟨"BadNumber", e_BadNumber, "BadNumber.__init__", ["place", "number"]⟩) 0).2
  e_NotFalling := errD_ok (d := ⟨"NotFalling", e_NotFalling, "NotFalling.__init__", ["place"]⟩) X G tx_NotFalling rfl (free_ok X G (x := "super") (fact c 0)) (eqO_ok (fact c 1)) (c.err_ (d := ⟨"NotFalling", e_NotFalling, "NotFalling.__init__", ["place"]⟩) 1).1 (c.err_ (d := ⟨"NotFalling", e_NotFalling, "NotFalling.__init__", ["place"]⟩) 1).2
  e_UnlikeSums := errD_ok (d := ⟨"UnlikeSums", e_UnlikeSums, "UnlikeSums.__init__", ["one", "other"]⟩) X G tx_UnlikeSums rfl (free_ok X G (x := "super") (fact c 0)) (eqO_ok (fact c 1)) (c.err_ (d := ⟨"UnlikeSums", e_UnlikeSums, "UnlikeSums.__init__", ["one", "other"]⟩) 2).1 (c.err_ (d := ⟨"UnlikeSums", e_UnlikeSums, "UnlikeSums.__init__", ["one", "other"]⟩) 2).2
  gNightsError := glo_ok X G (x := "NightsError") (fact c 30)
  xNotFalling := EF.exc_ok (fact c 31)
  nNotFalling_place := noat_ok (x := "NotFalling") (f := "place") (fact c 32)
  mNotFalling_NotFalling := of_decide_eq_true (fact c 33)
  kNotFalling_NightsError := of_decide_eq_true (fact c 34)
  kNotFalling_ValueError := of_decide_eq_true (fact c 35)
  kNotFalling_BadNumber := of_decide_eq_true (fact c 36)
  kNotFalling_UnlikeSums := of_decide_eq_true (fact c 37)
end K32

set_option maxRecDepth 100000
set_option maxHeartbeats 4000000
namespace K32
open PySem PySem.Spec PyProof.Rows L2
section
variable {w : World} {K : PySem.W.Frag} {mg : Str → Option Value} {base : Heap}
/-! ### the law's draws -/
def spPool (K : PySem.W.Frag) : Sp := fun vs H Q _ => ∃ (a : Addr) (ns : List Int) (i : Nat), vs = [.ref a, .int (i : Nat)] ∧ SqL K H a (ns.map V.int) ∧ ∀ l st, H l = none → PoolOk st → Q (.ref l) (upd H l (.lst st))
theorem ok_law_pool (T : Tx K mg) : Ok PG w K mg base CX0 2 (a_law_pool K) p_law_pool (spPool K) := by
  refine Ok.of 1 T.f_law_pool sc_law_pool bi_law_pool (by decide) (fun vs H Q E h => ?_) (fun cdv A outer s H vs Q E hr h => ?_)
  · obtain ⟨_, _, _, rfl, _⟩ := h
    rfl
  · obtain ⟨a, ns, i, rfl, hs, q⟩ := h
    have nd := sc_law_pool.nd
    refine ⟨_, pss_cons (ps_set (i := 2) nd rfl (.inl rfl) pe_int)
      (pss_cons (ps_if (pt_cmpR op_lt (pv 1) (pe_callB call_len_seq (by rfl) T.m_len PySem.boot_len (pa_cons (pv 0) pa_nil)) (nomark _)) (pss_one (ps_set (i := 2) nd rfl (.inl rfl) (pe_callB call_abs (by rfl) T.m_abs (by decide +kernel) (pa_cons (pe_ix ix_list (pv 0) (pv 1) (fun _ _ => rfl)) pa_nil)))) pss_nil)
      (pss_cons (ps_if (pt_cmpR op_ge (pv 2) (pe_op op_pow pe_int pe_int) (nomark _)) (pss_one (ps_ret (pe_lst (pa_cons (pe_op op_sub (pv 2) (pe_op op_pow pe_int pe_int)) (pa_cons pe_int (pa_cons pe_int pa_nil)))))) pss_nil)
      (pss_one (ps_ret (pe_lst (pa_cons (pe_un un_neg pe_int) (pa_cons (pe_op op_modN (pe_callTy call_int1 (by rfl) T.m_int (by decide +kernel) (pa_cons (pv 2) pa_nil)) pe_int) (pa_cons (pe_op op_add (pv 1) pe_int) pa_nil)))))))), ?_⟩
    refine ⟨_, rfl, _, rfl, a, _, rfl, .inl hs, _, _, rfl, rfl, _, rfl, ?_⟩
    refine ite2 (fun c => ?_) (fun c => ?_)
    · have hi : i < ns.length := by
        have := of_decide_eq_true c
        rw [List.length_map] at this
        omega
      refine ⟨_, rfl, _, rfl, a, _, _, .int ns[i], rfl, rfl, hs, atI_nat (by rw [List.getElem?_map, List.getElem?_eq_getElem hi]; rfl), _, rfl, ?_⟩
      generalize (if ns[i] < 0 then -ns[i] else ns[i]) = z
      refine ⟨_, rfl, _, _, rfl, rfl, ⟨by decide, by decide, by decide⟩, _, _, rfl, rfl, _, rfl, ?_⟩
      refine ite2 (fun c => ?_) (fun c => ?_)
      · exact ⟨_, rfl, _, _, rfl, rfl, ⟨by decide, by decide, by decide⟩, _, _, rfl, rfl, by show 3 ≤ sizeLine; decide, fun l hl => q l _ hl ⟨_, _, _, rfl, by decide, by decide⟩⟩
      · exact ⟨_, rfl, _, rfl, .inl ⟨_, rfl, _, _, rfl, rfl, (by show (2147483399 : Int) ≠ 0; decide), _, rfl, _, _, rfl, rfl, by show 3 ≤ sizeLine; decide, fun l hl => q l _ hl ⟨_, _, _, rfl, (mod_lt (by decide)).1, Int.lt_trans (mod_lt (by decide)).2 (by decide)⟩⟩⟩
    · refine ⟨_, rfl, _, _, rfl, rfl, ⟨by decide, by decide, by decide⟩, _, _, rfl, rfl, _, rfl, ?_⟩
      refine ite2 (fun c => ?_) (fun c => ?_)
      · exact ⟨_, rfl, _, _, rfl, rfl, ⟨by decide, by decide, by decide⟩, _, _, rfl, rfl, by show 3 ≤ sizeLine; decide, fun l hl => q l _ hl ⟨_, _, _, rfl, by decide, by decide⟩⟩
      · exact ⟨_, rfl, _, rfl, .inl ⟨_, rfl, _, _, rfl, rfl, (by show (2147483399 : Int) ≠ 0; decide), _, rfl, _, _, rfl, rfl, by show 3 ≤ sizeLine; decide, fun l hl => q l _ hl ⟨_, _, _, rfl, (mod_lt (by decide)).1, Int.lt_trans (mod_lt (by decide)).2 (by decide)⟩⟩⟩
def spDraw (_K : PySem.W.Frag) : Sp := fun vs H Q _ => ∃ (p : Addr) (st : List V) (m : Int), vs = [.ref p, .int m] ∧ 0 < m ∧ m.natAbs < 2 ^ 200 ∧ H p = some (.lst st) ∧ PoolOk st ∧ ∀ v st', 0 ≤ v → v < m → PoolOk st' → Q (.int v) (upd H p (.lst st'))
theorem ok_law_draw (T : Tx K mg) : Ok PG w K mg base CX0 2 (a_law_draw K) p_law_draw (spDraw K) := by
  refine Ok.of 1 T.f_law_draw sc_law_draw bi_law_draw (by decide) (fun vs H Q E h => ?_) (fun cdv A outer s H vs Q E hr h => ?_)
  · obtain ⟨_, _, _, rfl, _⟩ := h
    rfl
  · obtain ⟨p, st, m, rfl, m0, mw, hp, ⟨a, b, c, rfl, b0, b1⟩, q⟩ := h
    have nd := sc_law_draw.nd
    refine ⟨_, pss_cons (ps_if (pt_cmpR op_ge (pe_ix ix_list (pv 0) pe_int (fun _ _ => rfl)) pe_int (nomark _)) (pss_cons (ps_set (i := 2) nd rfl (.inl rfl) (pe_op op_modN (pe_callTy call_int1 (by rfl) T.m_int (by decide +kernel) (pa_cons (pe_ix ix_list (pv 0) pe_int (fun _ _ => rfl)) pa_nil)) (pv 1)))
        (pss_cons (ps_asg (pe_op op_fdivW (pe_ix ix_list (pv 0) pe_int (fun _ _ => rfl)) (pv 1)) (pg_sub (pv 0) pe_int set_list)) (pss_one (ps_ret (pv 2))))) pss_nil)
      (pss_cons (ps_asg (pe_op op_add (pe_ix ix_list (pv 0) pe_int (fun _ _ => rfl)) pe_int) (pg_sub (pv 0) pe_int set_list))
      (pss_cons (ps_set (i := 3) nd rfl (.inl rfl) (pe_ix ix_list (pv 0) pe_int (fun _ _ => rfl)))
      (pss_cons (ps_set (i := 3) nd rfl (.inl rfl) (pe_op op_modN (pe_callTy call_int1 (by rfl) T.m_int (by decide +kernel) (pa_cons (pe_op op_add (pe_op op_add (pe_op op_mul (pv 3) (pv 3)) (pe_op op_mul (pe_ix ix_list (pv 0) pe_int (fun _ _ => rfl)) pe_int)) pe_int) pa_nil)) pe_int))
      (pss_cons (ps_set (i := 3) nd rfl (.inl rfl) (pe_op op_modN (pe_callTy call_int1 (by rfl) T.m_int (by decide +kernel) (pa_cons (pe_op op_add (pe_op op_mul (pv 3) (pv 3)) (pe_op op_fdiv (pv 3) pe_int)) pa_nil)) pe_int))
      (pss_cons (ps_asg (pv 3) (pg_sub (pv 0) pe_int set_list))
      (pss_one (ps_ret (pe_op op_modN (pe_callTy call_int1 (by rfl) T.m_int (by decide +kernel) (pa_cons (pe_op op_fdiv (pv 3) pe_int) pa_nil)) (pv 1))))))))), ?_⟩
    have at0 : ∀ x y z : V, atI [x, y, z] (0 : Int) = some x := fun _ _ _ => rfl
    have at1 : ∀ x y z : V, atI [x, y, z] (1 : Int) = some y := fun _ _ _ => rfl
    have at2 : ∀ x y z : V, atI [x, y, z] (2 : Int) = some z := fun _ _ _ => rfl
    refine ⟨_, rfl, p, _, _, _, rfl, rfl, SqL.of hp, at0 _ _ _, _, _, rfl, rfl, _, rfl, ?_⟩
    refine ite2 (fun ca => ?_) (fun ca => ?_)
    · refine ⟨_, rfl, p, _, _, _, rfl, rfl, SqL.of hp, at0 _ _ _, .inl ⟨_, rfl, _, rfl, _, _, rfl, rfl, by omega, ?_⟩⟩
      refine ⟨_, rfl, p, _, _, _, rfl, rfl, SqL.of hp, at0 _ _ _, _, rfl, _, _, rfl, rfl, wide_div m0 mw (by decide) (by decide), ?_⟩
      refine ⟨_, rfl, p, _, _, 0, rfl, rfl, hp, rfl, _, rfl, ?_⟩
      exact q _ _ (mod_lt m0).1 (mod_lt m0).2 ⟨_, _, _, rfl, b0, b1⟩
    · refine ⟨_, rfl, p, _, _, _, rfl, rfl, SqL.of hp, at2 _ _ _, _, _, rfl, rfl, ?_⟩
      refine ⟨_, rfl, p, _, _, 2, rfl, rfl, hp, rfl, ?_⟩
      refine ⟨_, rfl, p, _, _, _, rfl, rfl, SqL.of upd_same, at1 _ _ _, ?_⟩
      refine ⟨_, rfl, _, rfl, _, _, rfl, rfl, .inl ⟨by omega, by omega⟩, ?_⟩
      refine ⟨_, rfl, p, _, _, _, rfl, rfl, SqL.of upd_same, at2 _ _ _, _, _, rfl, rfl, .inr ⟨by decide, by decide⟩, ?_⟩
      refine ⟨_, _, rfl, rfl, _, _, rfl, rfl, .inl ⟨_, rfl, _, _, rfl, rfl, (by show (2147483399 : Int) ≠ 0; decide), ?_⟩⟩
      have x1 := mod_lt (a := (b * b + (c + 1) * 3571 + 40692 : Int)) (m := 2147483399) (by decide)
      refine ⟨_, rfl, _, rfl, _, _, rfl, rfl, .inl ⟨Int.lt_of_lt_of_le (by decide : -(2 ^ 64 : Int) < 0) x1.1, Int.lt_trans x1.2 (by decide)⟩, _, rfl, _, _, rfl, rfl, ⟨by decide, by decide⟩, _, _, rfl, rfl, .inl ⟨_, rfl, _, _, rfl, rfl, (by show (2147483629 : Int) ≠ 0; decide), ?_⟩⟩
      refine ⟨_, rfl, _, rfl, p, _, _, 1, rfl, rfl, upd_same, rfl, ?_⟩
      refine ⟨_, rfl, _, _, rfl, rfl, ⟨by decide, by decide⟩, .inl ⟨_, rfl, _, rfl, _, _, rfl, rfl, by omega, ?_⟩⟩
      rw [upd_upd]
      exact q _ _ (mod_lt m0).1 (mod_lt m0).2 ⟨_, _, _, rfl, (mod_lt (m := 2147483629) (by decide)).1, Int.lt_trans (mod_lt (m := 2147483629) (by decide)).2 (by decide)⟩
end
end K32
namespace K32
open PySem PySem.Spec PyProof.Rows L2
section
variable {w : World} {K : PySem.W.Frag} {mg : Str → Option Value} {base : Heap}
def spInt : Sp := fun vs H Q _ => ∃ (n : Int), vs = [.int n] ∧ Q (.bl true) H
theorem ok_law_int (T : Tx K mg) : Ok PG w K mg base CX0 2 (a_law_int K) p_law_int spInt := by
  refine Ok.of 1 T.f_law_int sc_law_int bi_law_int (by decide) (fun vs H Q E h => ?_) (fun cdv A outer s H vs Q E hr h => ?_)
  · obtain ⟨_, rfl, _⟩ := h
    rfl
  · obtain ⟨n, rfl, q⟩ := h
    refine ⟨_, pss_one (ps_ret (pe_and (pe_callB call_isi (by rfl) T.m_isinstance (by decide +kernel) (pa_cons (pv 0) (pa_cons (pe_bltn (v := .ty "int") (by rfl) T.m_int (by decide +kernel) rfl) pa_nil)))
      (pe_one (pe_not (pe_callB call_isi (by rfl) T.m_isinstance (by decide +kernel) (pa_cons (pv 0) (pa_cons (pe_bltn (v := .ty "bool") (by rfl) T.m_bool (by decide +kernel) rfl) pa_nil))))))), ?_⟩
    refine ⟨_, rfl, _, _, _, _, true, rfl, .ty _, .base (.int n), kit_ty (by decide +kernel), _, rfl, yep rfl ?_⟩
    exact ⟨_, rfl, _, _, _, _, false, rfl, .ty _, .base (.int n), kit_ty (by decide +kernel), _, rfl, q⟩
def spSame (K : PySem.W.Frag) (n : Nat) : Sp := fun vs H Q _ => ∃ (x y : V), vs = [x, y] ∧ Eqd K n H x y ∧ Q (.bl true) H
def spLow (K : PySem.W.Frag) : Nat → Sp
  | 0 => fun _ _ _ _ => False
  | n + 1 => spSame K n
theorem same_at (T : Tx K mg) (n k : Nat) (R0 : Ok PG w K mg base CX0 k (a_law_same K) p_law_same (spLow K n)) (hk : 2 ≤ k) : Ok PG w K mg base CX0 (k + 1) (a_law_same K) p_law_same (spSame K n) := by
  refine Ok.of k T.f_law_same sc_law_same bi_law_same (Nat.le_refl _) (fun vs H Q E h => ?_) (fun cdv A outer s H vs Q E hr h => ?_)
  · obtain ⟨_, _, rfl, _⟩ := h
    rfl
  · obtain ⟨x, y, rfl, hd, q⟩ := h
    have nd := sc_law_same.nd
    refine ⟨_, pss_cons (ps_if (pt_cmpR op_isN (pv 1) pe_non (nomark _)) (pss_one (ps_ret (pe_cmpR op_isN (pv 0) pe_non (nomark _)))) pss_nil)
      (pss_cons (ps_if (pt_cmpR op_isTF (pv 1) pe_bl (nomark _)) (pss_one (ps_ret (pe_cmpR op_isTF (pv 0) pe_bl (nomark _)))) pss_nil)
      (pss_cons (ps_if (pt_cmpR op_isTF (pv 1) pe_bl (nomark _)) (pss_one (ps_ret (pe_cmpR op_isTF (pv 0) pe_bl (nomark _)))) pss_nil)
      (pss_cons (ps_if (pt_val (pe_callB call_isi (by rfl) T.m_isinstance (by decide +kernel) (pa_cons (pv 1) (pa_cons (pe_bltn (v := .ty "int") (by rfl) T.m_int (by decide +kernel) rfl) pa_nil)))) (pss_one (ps_ret (pe_and (pc (ok_law_int T) (hr.mono hk) T.g_law_int pass0 (pa_cons (pv 0) pa_nil)) (pe_one (pe_cmpR op_eq (pv 0) (pv 1) (nomark _)))))) pss_nil)
      (pss_cons (ps_if (pt_val (pe_callB call_isi (by rfl) T.m_isinstance (by decide +kernel) (pa_cons (pv 1) (pa_cons (pe_bltn (v := .ty "str") (by rfl) T.m_str (by decide +kernel) rfl) pa_nil)))) (pss_one (ps_ret (pe_and (pe_callB call_isi (by rfl) T.m_isinstance (by decide +kernel) (pa_cons (pv 0) (pa_cons (pe_bltn (v := .ty "str") (by rfl) T.m_str (by decide +kernel) rfl) pa_nil))) (pe_one (pe_cmpR op_eq (pv 0) (pv 1) (nomark _)))))) pss_nil)
      (pss_cons (ps_if (pt_val (pe_callB call_isi (by rfl) T.m_isinstance (by decide +kernel) (pa_cons (pv 1) (pa_cons (pe_bltn (v := .ty "tuple") (by rfl) T.m_tuple (by decide +kernel) rfl) pa_nil))))
        (pss_one (ps_if (PW.pt (pw_or (pt_not (pt_val (pe_callB call_isi (by rfl) T.m_isinstance (by decide +kernel) (pa_cons (pv 0) (pa_cons (pe_bltn (v := .ty "tuple") (by rfl) T.m_tuple (by decide +kernel) rfl) pa_nil))))) (pw_or1 (pt_cmpR op_ne (pe_callB call_len_seq (by rfl) T.m_len PySem.boot_len (pa_cons (pv 0) pa_nil)) (pe_callB call_len_seq (by rfl) T.m_len PySem.boot_len (pa_cons (pv 1) pa_nil)) (nomark _))))) (pss_one (ps_ret pe_bl)) pss_nil))
        (pss_one (ps_if (PW.pt (pw_or (pt_not (pt_val (pe_callB call_isi (by rfl) T.m_isinstance (by decide +kernel) (pa_cons (pv 0) (pa_cons (pe_bltn (v := .ty "list") (by rfl) T.m_list (by decide +kernel) rfl) pa_nil))))) (pw_or1 (pt_cmpR op_ne (pe_callB call_len_seq (by rfl) T.m_len PySem.boot_len (pa_cons (pv 0) pa_nil)) (pe_callB call_len_seq (by rfl) T.m_len PySem.boot_len (pa_cons (pv 1) pa_nil)) (nomark _))))) (pss_one (ps_ret pe_bl)) pss_nil)))
      (pss_cons (ps_for (passX rfl) rfl (pi_range1 rfl T.m_range (pa_cons (pe_callB call_len_seq (by rfl) T.m_len PySem.boot_len (pa_cons (pv 1) pa_nil)) pa_nil)) (pg_name (i := 2) nd rfl (.inl rfl))
        (pss_one (ps_if (pt_not (pt_val (pc R0 hr T.g_law_same pass0 (pa_cons (pe_ix ix_seq (pv 0) (pv 2) (fun _ _ => rfl)) (pa_cons (pe_ix ix_seq (pv 1) (pv 2) (fun _ _ => rfl)) pa_nil))))) (pss_one (ps_ret pe_bl)) pss_nil)))
      (pss_one (ps_ret pe_bl)))))))), ?_⟩
    have hd2 : (x = y ∧ Atom x) ∨ ∃ m, n = m + 1 ∧ ∃ a b xs ys, x = .ref a ∧ y = .ref b ∧ ((SqT K H a xs ∧ SqT K H b ys) ∨ (SqL K H a xs ∧ SqL K H b ys)) ∧ xs.length = ys.length ∧ xs.length ≤ sizeLine ∧ ∀ (i : Nat) (u v : V), xs[i]? = some u → ys[i]? = some v → Eqd K m H u v := by
      cases n with
      | zero => exact .inl hd
      | succ m => exact hd.imp id fun z => ⟨m, rfl, z⟩
    rcases hd2 with ⟨rfl, ha⟩ | ⟨m, rfl, a, b, xs, ys, rfl, rfl, hs, hl, hz, hi⟩
    · cases ha with
      | non =>
        refine ⟨_, rfl, rfl, _, rfl, yep (by simp) ?_⟩
        exact ⟨_, rfl, rfl, by simpa using q⟩
      | bl b =>
        refine ⟨_, rfl, rfl, _, rfl, nope (by simp) ?_⟩
        cases b with
        | true =>
          refine ⟨_, rfl, _, rfl, _, rfl, yep (by simp) ?_⟩
          exact ⟨_, rfl, _, rfl, by simpa using q⟩
        | false =>
          refine ⟨_, rfl, _, rfl, _, rfl, nope (by simp) ?_⟩
          refine ⟨_, rfl, _, rfl, _, rfl, yep (by simp) ?_⟩
          exact ⟨_, rfl, _, rfl, by simpa using q⟩
      | int i =>
        refine ⟨_, rfl, rfl, _, rfl, nope (by simp) ?_⟩
        refine ⟨_, rfl, _, rfl, _, rfl, nope (by simp) ?_⟩
        refine ⟨_, rfl, _, rfl, _, rfl, nope (by simp) ?_⟩
        refine ⟨_, rfl, _, _, _, _, true, rfl, .ty _, .base (.int i), kit_ty (by decide +kernel), _, rfl, yep rfl ?_⟩
        refine ⟨_, rfl, i, rfl, _, rfl, yep rfl ?_⟩
        exact ⟨_, rfl, _, rfl, rfl, by simpa using q⟩
      | str z =>
        refine ⟨_, rfl, rfl, _, rfl, nope (by simp) ?_⟩
        refine ⟨_, rfl, _, rfl, _, rfl, nope (by simp) ?_⟩
        refine ⟨_, rfl, _, rfl, _, rfl, nope (by simp) ?_⟩
        refine ⟨_, rfl, _, _, _, _, false, rfl, .ty _, .base (.str z), kit_ty (by decide +kernel), _, rfl, nope rfl ?_⟩
        refine ⟨_, rfl, _, _, _, _, true, rfl, .ty _, .base (.str z), kit_ty (by decide +kernel), _, rfl, yep rfl ?_⟩
        refine ⟨_, rfl, _, _, _, _, true, rfl, .ty _, .base (.str z), kit_ty (by decide +kernel), _, rfl, yep rfl ?_⟩
        exact ⟨_, rfl, _, rfl, rfl, by simpa using q⟩
    · refine ⟨_, rfl, rfl, _, rfl, nope (by simp) ?_⟩
      refine ⟨_, rfl, _, rfl, _, rfl, nope (by simp) ?_⟩
      refine ⟨_, rfl, _, rfl, _, rfl, nope (by simp) ?_⟩
      have hsz : ys.length < 2 ^ 62 := by rw [← hl]; rw [sizeLine_eq] at hz; omega
      rcases hs with ⟨h1, h2⟩ | ⟨h1, h2⟩
      · refine ⟨_, rfl, _, _, _, _, false, rfl, .ty _, h2.ty, kit_ty (by decide +kernel), _, rfl, nope rfl ?_⟩
        refine ⟨_, rfl, _, _, _, _, false, rfl, .ty _, h2.ty, kit_ty (by decide +kernel), _, rfl, nope rfl ?_⟩
        refine ⟨_, rfl, _, _, _, _, true, rfl, .ty _, h2.ty, kit_ty (by decide +kernel), _, rfl, yep rfl ?_⟩
        refine ⟨_, rfl, _, _, _, _, true, rfl, .ty _, h1.ty, kit_ty (by decide +kernel), _, rfl, nope rfl ?_⟩
        refine ⟨_, rfl, a, xs, rfl, .inr h1, _, rfl, b, ys, rfl, .inr h2, rfl, _, rfl, nope (by simp [hl]) ?_⟩
        refine ⟨_, rfl, b, ys, rfl, .inr h2, _, rfl, by omega, by omega, ?_⟩
        refine for_range (lo := 0) (n := ys.length) (fun i σ H' => H' = H ∧ σ.length = 3 ∧ σ[0]? = some (some (.ref a)) ∧ σ[1]? = some (some (.ref b))) ⟨rfl, rfl, rfl, rfl⟩ ?_ ?_
        · rintro i σ H' hi' ⟨rfl, hl3, z0, z1⟩
          have hx : xs[i]? = some xs[i] := List.getElem?_eq_getElem (by omega)
          have hy : ys[i]? = some ys[i] := List.getElem?_eq_getElem hi'
          have w0 : (σ.set 2 (some (.int (0 + (i : Nat)))))[0]? = some (some (.ref a)) := by rw [List.getElem?_set_ne (by decide)]; exact z0
          have w1 : (σ.set 2 (some (.int (0 + (i : Nat)))))[1]? = some (some (.ref b)) := by rw [List.getElem?_set_ne (by decide)]; exact z1
          have w2 : (σ.set 2 (some (.int (0 + (i : Nat)))))[2]? = some (some (.int (i : Nat))) := by rw [List.getElem?_set_self (by omega), Int.zero_add]
          refine ⟨_, w0, _, w2, .inr (.inl ⟨a, xs, _, _, rfl, rfl, h1, atI_nat hx, _, w1, _, w2, .inr (.inl ⟨b, ys, _, _, rfl, rfl, h2, atI_nat hy, ?_⟩)⟩)⟩
          exact ⟨_, _, rfl, hi i _ _ hx hy, _, rfl, nope rfl ⟨rfl, by simp [hl3], w0, w1⟩⟩
        · rintro σ H' ⟨rfl, _⟩
          exact q
      · refine ⟨_, rfl, _, _, _, _, false, rfl, .ty _, h2.ty, kit_ty (by decide +kernel), _, rfl, nope rfl ?_⟩
        refine ⟨_, rfl, _, _, _, _, false, rfl, .ty _, h2.ty, kit_ty (by decide +kernel), _, rfl, nope rfl ?_⟩
        refine ⟨_, rfl, _, _, _, _, false, rfl, .ty _, h2.ty, kit_ty (by decide +kernel), _, rfl, nope rfl ?_⟩
        refine ⟨_, rfl, _, _, _, _, true, rfl, .ty _, h1.ty, kit_ty (by decide +kernel), _, rfl, nope rfl ?_⟩
        refine ⟨_, rfl, a, xs, rfl, .inl h1, _, rfl, b, ys, rfl, .inl h2, rfl, _, rfl, nope (by simp [hl]) ?_⟩
        refine ⟨_, rfl, b, ys, rfl, .inl h2, _, rfl, by omega, by omega, ?_⟩
        refine for_range (lo := 0) (n := ys.length) (fun i σ H' => H' = H ∧ σ.length = 3 ∧ σ[0]? = some (some (.ref a)) ∧ σ[1]? = some (some (.ref b))) ⟨rfl, rfl, rfl, rfl⟩ ?_ ?_
        · rintro i σ H' hi' ⟨rfl, hl3, z0, z1⟩
          have hx : xs[i]? = some xs[i] := List.getElem?_eq_getElem (by omega)
          have hy : ys[i]? = some ys[i] := List.getElem?_eq_getElem hi'
          have w0 : (σ.set 2 (some (.int (0 + (i : Nat)))))[0]? = some (some (.ref a)) := by rw [List.getElem?_set_ne (by decide)]; exact z0
          have w1 : (σ.set 2 (some (.int (0 + (i : Nat)))))[1]? = some (some (.ref b)) := by rw [List.getElem?_set_ne (by decide)]; exact z1
          have w2 : (σ.set 2 (some (.int (0 + (i : Nat)))))[2]? = some (some (.int (i : Nat))) := by rw [List.getElem?_set_self (by omega), Int.zero_add]
          refine ⟨_, w0, _, w2, .inl ⟨a, xs, _, _, rfl, rfl, h1, atI_nat hx, _, w1, _, w2, .inl ⟨b, ys, _, _, rfl, rfl, h2, atI_nat hy, ?_⟩⟩⟩
          exact ⟨_, _, rfl, hi i _ _ hx hy, _, rfl, nope rfl ⟨rfl, by simp [hl3], w0, w1⟩⟩
        · rintro σ H' ⟨rfl, _⟩
          exact q
theorem ok_law_same (T : Tx K mg) : ∀ n, Ok PG w K mg base CX0 (3 + n) (a_law_same K) p_law_same (spSame K n)
  | 0 => same_at T 0 2 (by
      obtain ⟨fd, F⟩ := T.f_law_same
      exact ⟨fd, ⟨fun _ _ _ _ h => h.elim, fun _ _ _ _ _ _ _ _ _ _ _ _ _ h => h.elim⟩, bi_law_same F, F.kp⟩) (Nat.le_refl _)
  | n + 1 => same_at T (n + 1) (3 + n) (ok_law_same T n) (by omega)
end
end K32

/-! # falling rows, turned -/
namespace K32
/-- entry i leaves the row falling -/
def At (ns : List Int) (i : Nat) : Prop := ∀ n, ns[i]? = some n → 1 ≤ n ∧ ∀ j m, j + 1 = i → ns[j]? = some m → n ≤ m
def Fall (ns : List Int) : Prop := ∀ i, At ns i
def Wrong (ns : List Int) (i : Nat) : Prop := (∀ j, j < i → At ns j) ∧ ¬ At ns i
theorem Wrong.lt {ns : List Int} {i : Nat} (h : Wrong ns i) : i < ns.length := by
  rcases Nat.lt_or_ge i ns.length with z | z
  · exact z
  · exact absurd (fun n e => by rw [List.getElem?_eq_none z] at e; cases e) h.2
theorem fall_of {ns : List Int} (h : ∀ j, j < ns.length → At ns j) : Fall ns := fun i => by
  rcases Nat.lt_or_ge i ns.length with z | z
  · exact h i z
  · exact fun n e => by rw [List.getElem?_eq_none z] at e; cases e
theorem at_yes {ns : List Int} {i : Nat} {n : Int} (e : ns[i]? = some n) (h1 : 1 ≤ n) (h2 : ∀ j m, j + 1 = i → ns[j]? = some m → n ≤ m) : At ns i := fun k e' => by
  rw [e] at e'
  cases e'
  exact ⟨h1, h2⟩
theorem at_no1 {ns : List Int} {i : Nat} {n : Int} (e : ns[i]? = some n) (h1 : n < 1) : ¬ At ns i := fun z => by
  have := (z n e).1
  omega
theorem at_no2 {ns : List Int} {i : Nat} {n m : Int} (e : ns[i + 1]? = some n) (e2 : ns[i]? = some m) (h1 : n > m) : ¬ At ns (i + 1) := fun z => by
  have := (z n e).2 i m rfl e2
  omega
theorem Fall.tail {n : Int} {ns : List Int} (h : Fall (n :: ns)) : Fall ns := fun i k e => by
  have := h (i + 1) k (by rw [List.getElem?_cons_succ]; exact e)
  refine ⟨this.1, fun j m hj em => this.2 (j + 1) m (by omega) (by rw [List.getElem?_cons_succ]; exact em)⟩
theorem Fall.le {n : Int} : ∀ {ns : List Int}, Fall (n :: ns) → ∀ x ∈ ns, 1 ≤ x ∧ x ≤ n
  | [], _, x, hx => by cases hx
  | m :: ms, h, x, hx => by
    have hm := h 1 m rfl
    have h1 : m ≤ n := hm.2 0 n rfl rfl
    rcases List.mem_cons.mp hx with rfl | hx
    · exact ⟨hm.1, h1⟩
    · have := Fall.le h.tail x hx
      omega
theorem Fall.head {n : Int} {ns : List Int} (h : Fall (n :: ns)) : 1 ≤ n := (h 0 n rfl).1
theorem fall_cons {n : Int} {ns : List Int} (h : Fall ns) (h1 : 1 ≤ n) (h2 : ∀ m, ns.head? = some m → m ≤ n) : Fall (n :: ns) := fun i k e => by
  cases i with
  | zero => cases e; exact ⟨h1, fun j m hj _ => by omega⟩
  | succ i =>
    rw [List.getElem?_cons_succ] at e
    have := h i k e
    refine ⟨this.1, fun j m hj em => ?_⟩
    cases j with
    | zero =>
      cases em
      obtain rfl : i = 0 := by omega
      exact h2 k (by rw [List.head?_eq_getElem?]; exact e)
    | succ j => exact this.2 j m (by omega) (by rw [List.getElem?_cons_succ] at em; exact em)
/-- how many are at least k -/
def cnt (ns : List Int) (k : Int) : Nat := ns.countP fun x => decide (x ≥ k)
theorem cnt_cons {n : Int} {ns : List Int} {k : Int} : cnt (n :: ns) k = cnt ns k + (if n ≥ k then 1 else 0) := by
  unfold cnt
  rw [List.countP_cons]
  by_cases h : n ≥ k <;> simp [h]
theorem cnt_zero {ns : List Int} {k : Int} (h : ∀ x ∈ ns, x < k) : cnt ns k = 0 := by
  unfold cnt
  rw [List.countP_eq_zero]
  intro x hx
  have := h x hx
  simp
  omega
theorem cnt_lt : ∀ {ns : List Int}, Fall ns → ∀ {i : Nat} {n k : Int}, ns[i]? = some n → (i < cnt ns k ↔ k ≤ n)
  | [], _, i, n, k, e => by simp at e
  | x :: xs, h, i, n, k, e => by
    rw [cnt_cons]
    by_cases c : x ≥ k
    · rw [if_pos c]
      cases i with
      | zero => cases e; exact ⟨fun _ => c, fun _ => by omega⟩
      | succ i =>
        rw [List.getElem?_cons_succ] at e
        have := cnt_lt h.tail (k := k) e
        omega
    · rw [if_neg c, cnt_zero (fun y hy => by have := (h.le y hy).2; omega)]
      cases i with
      | zero => cases e; exact ⟨fun z => by omega, fun z => by omega⟩
      | succ i =>
        rw [List.getElem?_cons_succ] at e
        have := (h.le n (List.mem_of_getElem? e)).2
        omega
theorem cnt_len {ns : List Int} {k : Int} : cnt ns k ≤ ns.length := List.countP_le_length
theorem cnt_all {ns : List Int} {k : Int} (h : ∀ x ∈ ns, k ≤ x) : cnt ns k = ns.length := by
  unfold cnt
  rw [List.countP_eq_length]
  intro x hx
  exact decide_eq_true (h x hx)
theorem cnt_mono {ns : List Int} {k j : Int} (h : k ≤ j) : cnt ns j ≤ cnt ns k := by
  unfold cnt
  refine List.countP_mono_left fun x _ z => ?_
  have : x ≥ j := of_decide_eq_true z
  exact decide_eq_true (by omega)
/-- the turned row -/
def T (ns : List Int) : List Int := (List.range (ns.headD 0).toNat).map fun p => ((cnt ns ((p : Nat) + 1) : Nat) : Int)
theorem T_len {ns : List Int} : (T ns).length = (ns.headD 0).toNat := by
  unfold T
  rw [List.length_map, List.length_range]
theorem T_get {ns : List Int} {p : Nat} (h : p < (ns.headD 0).toNat) : (T ns)[p]? = some ((cnt ns ((p : Nat) + 1) : Nat) : Int) := by
  unfold T
  rw [List.getElem?_map, List.getElem?_range h]
  rfl
theorem T_fall {ns : List Int} (h : Fall ns) : Fall (T ns) := by
  refine fall_of fun p hp => ?_
  rw [T_len] at hp
  refine at_yes (T_get hp) ?_ fun j m hj e => ?_
  · cases ns with
    | nil => simp at hp
    | cons n ns =>
      have := (cnt_lt h (i := 0) (k := (p : Int) + 1) rfl).2 (by simp at hp; omega)
      omega
  · subst hj
    rw [T_get (by omega)] at e
    cases e
    have := cnt_mono (ns := ns) (k := (j : Int) + 1) (j := ((j + 1 : Nat) : Int) + 1) (by omega)
    omega
theorem range_cnt (h n : Nat) : ∀ (q : Nat → Bool), (∀ k, k < h → (q k = true ↔ k < n)) → (List.range h).countP q = min n h := by
  induction h with
  | zero => intro q _; simp
  | succ h ih =>
    intro q hq
    rw [List.range_succ, List.countP_append, ih q (fun k hk => hq k (by omega)), List.countP_singleton]
    have := hq h (by omega)
    by_cases c : q h = true
    · have := this.1 c
      rw [if_pos c]
      omega
    · have : ¬ h < n := fun z => c (this.2 z)
      rw [if_neg c]
      omega
theorem T_T {ns : List Int} (h : Fall ns) : T (T ns) = ns := by
  cases ns with
  | nil => rfl
  | cons n ns =>
    have h1 := h.head
    have hh : (T (n :: ns)).headD 0 = (((n :: ns).length : Nat) : Int) := by
      have e := T_get (ns := n :: ns) (p := 0) (by simp; omega)
      rw [List.headD_eq_head?_getD, List.head?_eq_getElem?, e]
      show ((cnt (n :: ns) _ : Nat) : Int) = _
      rw [cnt_all]
      intro x hx
      rcases List.mem_cons.mp hx with rfl | hx
      · simpa using h1
      · have := (h.le x hx).1
        simpa using this
    refine List.ext_getElem? fun i => ?_
    rcases Nat.lt_or_ge i (n :: ns).length with hi | hi
    · rw [T_get (by rw [hh]; omega), List.getElem?_eq_getElem hi]
      congr 1
      have e : (n :: ns)[i]? = some (n :: ns)[i] := List.getElem?_eq_getElem hi
      generalize (n :: ns)[i] = m at e
      have hm : 1 ≤ m ∧ m ≤ n := by
        have := List.mem_of_getElem? e
        rcases List.mem_cons.mp this with rfl | hx
        · exact ⟨h1, Int.le_refl _⟩
        · exact h.le m hx
      have : cnt (T (n :: ns)) ((i : Nat) + 1) = m.toNat := by
        unfold cnt T
        rw [List.countP_map, range_cnt (n := m.toNat)]
        · simp
          omega
        · intro k hk
          have := cnt_lt h (k := (k : Int) + 1) e
          simp only [Function.comp, decide_eq_true_eq]
          constructor
          · intro z
            have := this.1 (by omega)
            omega
          · intro z
            have := this.2 (by omega)
            omega
      rw [this]
      omega
    · rw [List.getElem?_eq_none hi, List.getElem?_eq_none]
      rw [T_len, hh]
      omega
/-- the heads of a row: its greatest number -/
theorem max_head {ns : List Int} (h : Fall ns) {m : Int} (hm : m ∈ ns) (hx : ∀ y ∈ ns, y ≤ m) : ns.headD 0 = m := by
  cases ns with
  | nil => cases hm
  | cons n ns =>
    have h1 := hx n (List.mem_cons_self ..)
    rcases List.mem_cons.mp hm with rfl | z
    · rfl
    · have := (h.le m z).2
      show n = m
      omega
theorem mem_head {ns : List Int} (h : Fall ns) {x : Int} (hm : x ∈ ns) : 1 ≤ x ∧ x ≤ ns.headD 0 := by
  cases ns with
  | nil => cases hm
  | cons n ns =>
    rcases List.mem_cons.mp hm with rfl | z
    · exact ⟨h.head, Int.le_refl _⟩
    · exact h.le x z
/-- one number more at place p -/
def row (h : Nat) (f : Nat → Int) : List Int := (List.range h).map f
theorem row_set {h : Nat} {f : Nat → Int} {p : Nat} {v : Int} : (row h f).set p v = row h (fun q => if q = p then v else f q) := by
  refine List.ext_getElem? fun i => ?_
  unfold row
  rw [List.getElem?_set, List.getElem?_map, List.getElem?_map, List.length_map, List.length_range]
  by_cases e : p = i
  · subst e
    by_cases l : p < h
    · rw [if_pos rfl, if_pos l, List.getElem?_range l]
      simp
    · rw [if_pos rfl, if_neg l, List.getElem?_eq_none (by simpa using l)]
      rfl
  · rw [if_neg e]
    by_cases l : i < h
    · rw [List.getElem?_range l]
      simp [Ne.symm e]
    · rw [List.getElem?_eq_none (by simpa using l)]
      rfl
theorem row_get {h : Nat} {f : Nat → Int} {p : Nat} (l : p < h) : (row h f)[p]? = some (f p) := by
  unfold row
  rw [List.getElem?_map, List.getElem?_range l]
  rfl
theorem row_ext {h : Nat} {f g : Nat → Int} (e : ∀ p, p < h → f p = g p) : row h f = row h g := List.map_congr_left fun p hp => e p (List.mem_range.mp hp)
end K32

set_option maxRecDepth 100000
set_option maxHeartbeats 4000000
/-! # max(xs, default=d), min(xs, default=d) of a list of numbers -/
namespace L2
open PySem PySem.W PySem.Spec PyProof.Rows
section
variable {prog : Program} {w : World} {A : Around} {E : Value → Shared → Prop} {s : Shared} {l : Addr} {its : List Value} {ns : List Int} {d : Value} {Q : Value → Shared → Prop}
theorem maxD_raw (hh : A.handled = none) (hl : s.heap.IsList l its.toArray) (hi : IntsAre its ns)
    (h0 : ns = [] → ∀ h' tk, (∀ b o, s.heap.get? b = some o → h'.get? b = some o) → Q d { s with heap := h', toks := tk })
    (h : ∀ h' tk M t', (∀ b o, s.heap.get? b = some o → h'.get? b = some o) → M ∈ ns → (∀ a, a ∈ ns → a ≤ M) → Q (.int M t') { s with heap := h', toks := tk }) :
    wpAny (model prog w) A (call (.builtin "max") [.ref l] [(Str.ofString "default", d)]) Q E s := by
  obtain ⟨xs, e⟩ := hi.allInts.items
  have hn : numsOf (intItems xs).toList = ns := by rw [← e]; exact hi.numsOf
  rw [nums_intItems] at hn
  subst hn
  rw [e] at hl
  refine call_max_walkD (iter_listW (A := A.in1) hh hl fun s₂ e2 W st hfp hw hk => ?_)
  refine ⟨_, _, _, _, _, _, _, s.heap, fun i j => decide (numAt xs i > numAt xs j), rfl, W, st, hfp, hw, hk, fun hz s' m => ?_, fun hp => ⟨fun i j vi vj s Q E _ a b c => CmpOf.ints_gt (prog := prog) (w := w) (A := A.in1) (P := fun i v => (intItems xs)[i]? = some v) (numAt xs) (fun _ _ => intItems_at) i j vi vj s Q E a b c, fun v s' hP m => ?_⟩⟩
  · obtain ⟨h', tk, rfl, hk'⟩ := moved_old e2 rfl m
    have z : xs.size = 0 := by simpa [intItems] using hz
    exact h0 (by rw [List.map_eq_nil_iff]; exact List.eq_nil_of_length_eq_zero (by rw [Array.length_toList]; exact z)) h' tk hk'
  · obtain ⟨h', tk, rfl, hk'⟩ := moved_old e2 rfl m
    have hsz : 0 < xs.size := by simpa [intItems] using hp
    have hP' : (intItems xs)[argBest (fun i j => decide (numAt xs i > numAt xs j)) (xs.size - 1)]? = some v := by simpa [intItems] using hP
    obtain ⟨t, rfl⟩ := intItems_at hP'
    obtain ⟨h1, h2⟩ := argBest_gt (numAt xs) (xs.size - 1)
    refine h h' tk _ t hk' ?_ fun a ha => ?_
    · rw [numAt_eq]; exact PySem.getD_mem (by rw [List.length_map, Array.length_toList]; omega)
    · obtain ⟨j, hj, rfl⟩ := mem_getD ha
      rw [List.length_map, Array.length_toList] at hj
      rw [← numAt_eq]; exact h2 j (by omega)
end
section
variable {X : Cx}
def rMaxD0 (K : PySem.W.Frag) : List V → List V → Hp → VK → Prop := fun vs zs H Q => ∃ (a : Addr) (ns : List Int) (d : Int), vs = [V.ref a] ∧ zs = [V.int d] ∧ SqL K H a (ns.map V.int) ∧ ∀ m, (ns = [] ∧ m = d) ∨ (m ∈ ns ∧ ∀ y, y ∈ ns → y ≤ m) → Q (.int m) H
/-- max(xs, default=d) of a list of ints -/
theorem cr_maxD0 (hc : X.calm = true) : CallRK X (.builtin "max") [Str.ofString "default"] (rMaxD0 X.K) := by
  intro pins s σ H vs zs us ws Q I r rz h
  obtain ⟨a, ns, d, rfl, rfl, hs, q⟩ := h
  obtain ⟨its, rv, hl, _⟩ := I.list hs
  obtain rfl := Vals.ref1 r
  obtain ⟨w1, rfl, e1⟩ := vals1 rz
  refine maxD_raw (I.ok.hd hc) hl.isList rv.ints (fun z h' tk hk => ⟨.int d, H, I.kept hk, e1, q d (.inl ⟨z, rfl⟩)⟩) fun h' tk m t' hk h1 h2 => ⟨.int _, H, I.kept hk, ⟨_, rfl⟩, q m (.inr ⟨h1, h2⟩)⟩
end
end L2

set_option maxRecDepth 100000
set_option maxHeartbeats 4000000
namespace K32
open PySem PySem.Spec PyProof.Rows L2
section
variable {w : World} {K : PySem.W.Frag} {mg : Str → Option Value} {base : Heap}
theorem dno {p : Prop} [Decidable p] (c : ¬ decide p = true) : ¬ p := fun z => c (decide_eq_true z)
abbrev xN (i : Int) : HO := .xd [("place", .int i)]
def spCheck (K : PySem.W.Frag) : Sp := fun vs H Q E => ∃ (a : Addr) (ns : List Int), vs = [.ref a] ∧ SqL K H a (ns.map V.int) ∧
  (∀ i, Wrong ns i → Rs (c_NotFalling K) (xN (i : Nat)) H E) ∧ (Fall ns → ∀ H', Same H H' → Q .non H')
theorem ok_check_row (T : Tx K mg) : Ok PG w K mg base (L2.CX PG w) 3 (a_check_row K) p_check_row (spCheck K) := by
  refine Ok.of 2 T.f_check_row sc_check_row bi_check_row (by decide) (fun vs H Q E h => ?_) (fun cdv A outer s H vs Q E hr h => ?_)
  · obtain ⟨_, _, rfl, _⟩ := h
    rfl
  · obtain ⟨a, ns, rfl, hs, h1, h2⟩ := h
    have nd := sc_check_row.nd
    refine ⟨_, pss_one (ps_for (passX rfl) rfl (pi_enumW (by rfl) T.m_enumerate (pa_cons (pv 0) pa_nil)) (pg_tup rfl (pgs_cons (pg_name (i := 1) nd rfl (.inl rfl)) (pgs_cons (pg_name (i := 2) nd rfl (.inl rfl)) pgs_nil)))
      (pss_one (ps_if (PW.pt (pw_or (pt_cmpR op_lt (pv 2) pe_int (nomark _)) (pw_or1 (PW.pt (pw_and (pt_cmpR op_gt (pv 1) pe_int (nomark _)) (pw_and1 (pt_cmpR op_gt (pv 2) (pe_ix ix_list (pv 0) (pe_op op_sub (pv 1) pe_int) (fun _ _ => rfl)) (nomark _))))))))
        (pss_one (ps_raiseX rfl T.e_NotFalling (by decide) (by decide) hr (takes_of rfl rfl rfl rfl) rfl (pa_cons (pv 1) pa_nil))) pss_nil))), ?_⟩
    refine ⟨_, rfl, a, ns.map V.int, rfl, .inl hs, fun J G hG wk => ?_⟩
    refine for_it wk (fun i σ H' => Same H H' ∧ (∀ j, j < i → At ns j) ∧ σ.length = 3 ∧ σ[0]? = some (some (.ref a))) ⟨.refl _, fun j z => absurd z (Nat.not_lt_zero j), rfl, rfl⟩ (fun i σ H' _ p => hG H' p.1) (fun i x σ H0 H1 hi p y => ?_) (fun σ H' p => ?_)
    · obtain ⟨sm, hb, hl, hg⟩ := p
      obtain ⟨T', x', y', rfl, hT, rfl, e1, e2⟩ := y
      obtain ⟨n, hn, rfl⟩ := map_get e2
      cases e1
      have sm' : Same H (upd H0 T' (.tup [.int (i : Nat), .int n])) := sm.new' hT
      have z1 : ((σ.set 1 (some (V.int (i : Nat)))).set 2 (some (V.int n)))[1]? = some (some (.int (i : Nat))) := by
        rw [List.getElem?_set_ne (by decide), List.getElem?_set_self (by omega)]
      have z2 : ((σ.set 1 (some (V.int (i : Nat)))).set 2 (some (V.int n)))[2]? = some (some (.int n)) := by
        rw [List.getElem?_set_self (by rw [List.length_set]; omega)]
      have z0 : ((σ.set 1 (some (V.int (i : Nat)))).set 2 (some (V.int n)))[0]? = some (some (.ref a)) := by
        rw [List.getElem?_set_ne (by decide), List.getElem?_set_ne (by decide)]; exact hg
      have err : ¬ At ns i → ∀ d, upd H0 T' (.tup [.int (i : Nat), .int n]) d = none → E (.ref (c_NotFalling K)) (some d) (upd (upd H0 T' (.tup [.int (i : Nat), .int n])) d (xN (i : Nat))) := fun c d hd =>
        h1 i ⟨hb, c⟩ _ d sm' hd
      have go : At ns i → Same H (upd H0 T' (.tup [.int (i : Nat), .int n])) ∧ (∀ j, j < i + 1 → At ns j) ∧ ((σ.set 1 (some (V.int (i : Nat)))).set 2 (some (V.int n))).length = 3 ∧ ((σ.set 1 (some (V.int (i : Nat)))).set 2 (some (V.int n)))[0]? = some (some (.ref a)) := fun c =>
        ⟨sm', fun j hj => if z : j < i then hb j z else (show j = i by omega) ▸ c, by simp [hl], z0⟩
      refine ⟨T', _, rfl, SqT.of upd_same, rfl, _, _, rfl, _, _, rfl, rfl, ?_⟩
      refine ⟨_, z2, _, _, rfl, rfl, _, rfl, ?_⟩
      refine ite2 (fun c => ?_) (fun c => ?_)
      · exact ⟨_, z1, rfl, fun d hd => err (at_no1 hn (of_decide_eq_true c)) d hd⟩
      · have c0 : 1 ≤ n := by have := dno c; omega
        refine ⟨_, z1, _, _, rfl, rfl, _, rfl, ?_⟩
        refine ite2 (fun c' => ?_) (fun c' => ?_)
        · have ci : 0 < i := by have := of_decide_eq_true c'; omega
          obtain ⟨k, rfl⟩ : ∃ k, i = k + 1 := ⟨i - 1, by omega⟩
          have hkl : k < ns.length := by rw [List.length_map] at hi; omega
          have hk : ns[k]? = some ns[k] := List.getElem?_eq_getElem hkl
          refine ⟨_, z2, _, z0, _, z1, _, _, rfl, rfl, a, _, _, .int ns[k], rfl, rfl, sm'.seq hs, ?_, _, _, rfl, rfl, _, rfl, ?_⟩
          · have e : ((k + 1 : Nat) : Int) - 1 = ((k : Nat) : Int) := by omega
            rw [e]
            exact atI_nat (by rw [List.getElem?_map, hk]; rfl)
          · refine ite2 (fun c2 => ?_) (fun c2 => ?_)
            · exact ⟨_, z1, rfl, fun d hd => err (at_no2 hn hk (of_decide_eq_true c2)) d hd⟩
            · refine go (at_yes hn c0 fun j m hj em => ?_)
              obtain rfl : j = k := by omega
              rw [hk] at em
              cases em
              have := dno c2
              omega
        · refine go (at_yes hn c0 fun j m hj em => ?_)
          have := dno c'
          omega
    · refine h2 (fall_of fun j hj => p.2.1 j (by rw [List.length_map]; exact hj)) H' p.1
def spTurned (K : PySem.W.Frag) : Sp := fun vs H Q E => ∃ (a : Addr) (ns : List Int), vs = [.ref a] ∧ SqL K H a (ns.map V.int) ∧ ns.length ≤ 5000 ∧ (∀ n ∈ ns, n ≤ 5000) ∧
  (∀ i, Wrong ns i → Rs (c_NotFalling K) (xN (i : Nat)) H E) ∧ (Fall ns → ∀ H' p, Same H H' → H p = none → H' p = some (.lst ((T ns).map V.int)) → Q (.ref p) H')
/-- len(x) within a comprehension -/
def rLen (K : PySem.W.Frag) : List V → Hp → VK → Prop := fun xs H Q => ∃ p ys, xs = [V.ref p] ∧ (SqL K H p ys ∨ SqT K H p ys) ∧ Q (.int ((ys.length : Nat) : Int)) H
abbrev lcSc : Scope := { kind := .function, names := [(".0", .local), ("least", .cell), ("len", .globalImplicit), ("row", .cell)], isGenerator := false, isCoroutine := false }
theorem ok_turned (T : Tx K mg) : Ok PG w K mg base (L2.CX PG w) 4 (a_turned K) p_turned (spTurned K) := by
  refine Ok.of 3 T.f_turned sc_turned bi_turned (by decide) (fun vs H Q E h => ?_) (fun cdv A outer s H vs Q E hr h => ?_)
  · obtain ⟨_, _, rfl, _⟩ := h
    rfl
  · obtain ⟨a, ns, rfl, hs, l1, l2, h1, h2⟩ := h
    have nd := sc_turned.nd
    refine ⟨_, pss_cons (ps_expr (pc (ok_check_row T) (hr.mono (by decide)) T.g_check_row px (pa_cons (pv 0) pa_nil)))
      (pss_one (ps_ret (pe_lc (own := [("least", 1)]) (g := gName 1) (tt := tYes) rfl nd
        (pi_range2 rfl T.m_range (pa_cons pe_int (pa_cons (pe_op op_add (pe_callBK (cr_maxD0 rfl) (by rfl) T.m_max (by decide +kernel) (pa_cons (pv 0) pa_nil) (pk_cons pe_int pk_nil)) pe_int) pa_nil)))
        (blkOk_by (N := n_turned) (sc := defScope s_turned) (by decide +kernel)) (fun _ _ _ _ _ => pg_name (i := 1) nd rfl (Or.inr rfl)) (fun _ _ _ _ _ => pts_nil)
        (fun _ _ _ _ _ => pe_callB (r := rLen K) call_len_seq (by rfl) T.m_len PySem.boot_len (pa_cons (pe_lc (own := [("number", 2)]) (wi := iList K (tVar 0)) (g := gName 2) rfl nd (pi_list (pv 0))
          (blkOk_by (N := n_turned) (sc := lcSc) (by decide +kernel)) (fun _ _ _ _ _ => pg_name (i := 2) nd rfl (Or.inl rfl))
          (fun _ _ _ _ _ => pts_one (pt_cmpR op_ge (pv 2) (pv 1) (nomark _))) (fun _ _ _ _ _ => pv 2)) pa_nil))))), ?_⟩
    refine ⟨_, rfl, a, ns, rfl, hs, h1, fun hf H1 s1 => ?_⟩
    have hs1 := s1.seq hs
    refine ⟨_, rfl, a, ns, 0, rfl, rfl, hs1, fun m hm => ?_⟩
    have hm : m = ns.headD 0 := by
      rcases hm with ⟨rfl, rfl⟩ | ⟨h3, h4⟩
      · rfl
      · exact (max_head hf h3 h4).symm
    subst hm
    have hb : 0 ≤ ns.headD 0 ∧ ns.headD 0 ≤ 5000 := by
      cases ns with
      | nil => exact ⟨by decide, by decide⟩
      | cons n ns => exact ⟨by have := hf.head; show (0 : Int) ≤ n; omega, l2 n (List.mem_cons_self ..)⟩
    refine ⟨_, _, rfl, rfl, _, _, rfl, ⟨by omega, by omega, by omega, by omega⟩, fun D hD => ?_⟩
    have hN : (ns.headD 0 + 1 - 1).toNat = (ns.headD 0).toNat := by omega
    refine lc_range (lo := 1) (n := (ns.headD 0 + 1 - 1).toNat) (fun i H' => Same H1 H' ∧ H' D = some (.lst (((K32.T ns).take i).map V.int))) ⟨.new hD, upd_same⟩ ?_ ?_
    · rintro i H' hi ⟨sm, hd⟩
      rw [hN] at hi
      refine ⟨rfl, yesT ?_⟩
      refine ⟨_, rfl, a, rfl, ⟨_, sm.seq hs1⟩, fun D2 hD2 => ?_⟩
      refine lc_list (xs := ns.map V.int) (fun j H2 => Same H' H2 ∧ H2 D2 = some (.lst (((ns.take j).filter (fun x => decide (x ≥ 1 + ((i : Nat) : Int)))).map V.int))) ⟨.new hD2, upd_same⟩ (fun j H2 _ z => z.1.seq (sm.seq hs1)) ?_ ?_
      · rintro j x H2 hx ⟨sm2, hd2⟩
        obtain ⟨n, hn, rfl⟩ := map_get hx
        have up : ∀ o, Same H' (upd H2 D2 o) := fun o b u e => by
          have nb : b ≠ D2 := fun z => by rw [z, hD2] at e; cases e
          rw [upd_ne nb]
          exact sm2 b u e
        refine ⟨rfl, _, rfl, _, rfl, _, _, rfl, rfl, _, rfl, ?_⟩
        refine ite2 (fun c => ?_) (fun c => ?_)
        · refine ⟨_, rfl, _, hd2, ?_, up _, ?_⟩
          · rw [List.length_map, sizeLine_eq]
            have := List.length_filter_le (fun x => decide (x ≥ 1 + ((i : Nat) : Int))) (ns.take j)
            rw [List.length_take] at this
            omega
          · rw [upd_same, List.take_succ, hn, Option.toList_some, List.filter_append, List.filter_cons_of_pos (p := fun x => decide (x ≥ 1 + ((i : Nat) : Int))) c, List.filter_nil, List.map_append]
            rfl
        · refine ⟨sm2, ?_⟩
          rw [hd2, List.take_succ, hn, Option.toList_some, List.filter_append, List.filter_cons_of_neg (p := fun x => decide (x ≥ 1 + ((i : Nat) : Int))) c, List.filter_nil, List.append_nil]
      · rintro H2 ⟨sm2, hd2⟩
        rw [List.length_map, List.take_length] at hd2
        have nD : D ≠ D2 := fun z => by rw [z, hD2] at hd; cases hd
        refine ⟨D2, _, rfl, .inl (SqL.of hd2), _, sm2 _ _ hd, ?_, fun b u e => ?_, ?_⟩
        · rw [List.length_map, List.length_take, sizeLine_eq, T_len]
          omega
        · have nb : b ≠ D := fun z => by rw [z, hD] at e; cases e
          rw [upd_ne nb]
          exact sm2 b u (sm b u e)
        · rw [upd_same, List.take_succ, T_get hi, Option.toList_some, List.map_append]
          have e : ((ns.filter (fun x => decide (x ≥ 1 + ((i : Nat) : Int)))).map V.int).length = cnt ns ((i : Nat) + 1) := by
            rw [List.length_map, cnt, List.countP_eq_length_filter, show (1 : Int) + ((i : Nat) : Int) = ((i : Nat) : Int) + 1 by omega]
          rw [e]
          rfl
    · rintro H' ⟨sm, hd⟩
      have hD0 : H D = none := by
        cases e : H D with
        | none => rfl
        | some o => rw [s1 D o e] at hD; cases hD
      refine h2 hf H' D (s1.trans sm) hD0 ?_
      rw [hd, hN, List.take_of_length_le (by rw [T_len]; exact Nat.le_refl _)]
end
end K32

set_option maxRecDepth 100000
set_option maxHeartbeats 4000000
namespace K32
open PySem PySem.Spec PyProof.Rows L2
theorem fall_snoc {ns : List Int} {x : Int} (h : Fall ns) (h1 : 1 ≤ x) (h2 : ∀ y, ns.getLast? = some y → x ≤ y) : Fall (ns ++ [x]) := by
  intro i n e
  rcases Nat.lt_trichotomy i ns.length with c | c | c
  · rw [List.getElem?_append_left c] at e
    have := h i n e
    refine ⟨this.1, fun j m hj em => this.2 j m hj ?_⟩
    rw [List.getElem?_append_left (by omega)] at em
    exact em
  · subst c
    rw [List.getElem?_append_right (Nat.le_refl _), Nat.sub_self] at e
    cases e
    refine ⟨h1, fun j m hj em => h2 m ?_⟩
    rw [List.getElem?_append_left (by omega)] at em
    rw [List.getLast?_eq_getElem?, show ns.length - 1 = j by omega]
    exact em
  · rw [List.getElem?_eq_none (by rw [List.length_append]; simp; omega)] at e
    cases e
section
variable {w : World} {K : PySem.W.Frag} {mg : Str → Option Value} {base : Heap}
def spFalling (_K : PySem.W.Frag) : Sp := fun vs H Q _ => ∃ (p : Addr) (st : List V) (t : Int), vs = [.ref p, .int t] ∧ 0 ≤ t ∧ t ≤ 2000 ∧ H p = some (.lst st) ∧ PoolOk st ∧
  ∀ (H' : Hp) (l : Addr) (ns : List Int) (st' : List V), But p H H' → H' p = some (.lst st') → PoolOk st' → H l = none → H' l = some (.lst (ns.map V.int)) → ns.length ≤ 2000 → Fall ns → (∀ x ∈ ns, x ≤ 2000) → Q (.ref l) H'
theorem ok_law_falling (T : Tx K mg) : Ok PG w K mg base CX0 4 (a_law_falling K) p_law_falling (spFalling K) := by
  refine Ok.of 3 T.f_law_falling sc_law_falling bi_law_falling (by decide) (fun vs H Q E h => ?_) (fun cdv A outer s H vs Q E hr h => ?_)
  · obtain ⟨_, _, _, rfl, _⟩ := h
    rfl
  · obtain ⟨p, st, t, rfl, t0, t1, hp, ok, q⟩ := h
    have nd := sc_law_falling.nd
    refine ⟨_, pss_cons (ps_set (i := 2) nd rfl (.inl rfl) (pe_lst pa_nil))
      (pss_cons (ps_set (i := 3) nd rfl (.inl rfl) (pv 1))
      (pss_cons (ps_for (passX rfl) rfl (pi_range1 rfl T.m_range (pa_cons (pv 1) pa_nil)) (pg_name (i := 4) nd rfl (.inl rfl))
        (pss_cons (ps_if (pt_cmpR op_eq (pv 3) pe_int (nomark _)) (pss_one ps_break) pss_nil)
        (pss_cons (ps_set (i := 5) nd rfl (.inl rfl) (pv 3))
        (pss_cons (ps_if (pt_cmpR op_gt (pe_callB call_len_seq (by rfl) T.m_len PySem.boot_len (pa_cons (pv 2) pa_nil)) pe_int (nomark _)) (pss_one (ps_set (i := 5) nd rfl (.inl rfl) (pe_callB (call_min2 rfl) (by rfl) T.m_min (by decide +kernel) (pa_cons (pv 3) (pa_cons (pe_ix ix_list (pv 2) (pe_un un_neg pe_int) (fun _ _ => rfl)) pa_nil))))) pss_nil)
        (pss_cons (ps_set (i := 6) nd rfl (.inl rfl) (pe_op op_add pe_int (pc (ok_law_draw T) (hr.mono (by decide)) T.g_law_draw pass0 (pa_cons (pv 0) (pa_cons (pv 5) pa_nil)))))
        (pss_cons (ps_expr (pe_bm PySem.F.plainAttrs_list PySem.F.slot_list_append PySem.F.type_list_append mt_append (pv 2) (pa_cons (pv 6) pa_nil)))
        (pss_one (ps_set (i := 3) nd rfl (.inl rfl) (pe_op op_sub (pv 3) (pv 6))))))))))
      (pss_one (ps_ret (pv 2))))), ?_⟩
    refine ⟨Nat.zero_le _, fun R hR => ?_⟩
    have hRp : R ≠ p := fun z => by rw [z, hp] at hR; cases hR
    refine ⟨_, rfl, _, rfl, t, rfl, by omega, by omega, ?_⟩
    refine for_range (lo := 0) (n := t.toNat) (fun i σ H' => ∃ (ns : List Int) (st' : List V) (left : Int) (x4 x5 x6 : Option V), σ = [some (.ref p), some (.int t), some (.ref R), some (.int left), x4, x5, x6] ∧ But p H H' ∧ H' p = some (.lst st') ∧ PoolOk st' ∧ H' R = some (.lst (ns.map V.int)) ∧ 0 ≤ left ∧ left ≤ t ∧ ns.length ≤ i ∧ i ≤ t.toNat ∧ Fall ns ∧ ∀ x ∈ ns, x ≤ t)
      ⟨[], st, t, none, none, none, rfl, .of (.new hR), by rw [upd_ne (Ne.symm hRp)]; exact hp, ok, upd_same, t0, Int.le_refl _, Nat.le_refl _, Nat.zero_le _, fun i n e => by simp at e, fun x hx => by cases hx⟩ ?_ ?_
    · rintro i σ H' hi ⟨ns, st', left, x4, x5, x6, rfl, bt, hp', ok', hl, l0, l1, ln, _, hf, hb⟩
      refine ⟨_, rfl, rfl, _, rfl, ?_⟩
      refine ite2 (fun c => ?_) (fun c => ?_)
      · exact ⟨_, rfl, q H' R ns st' bt hp' ok' hR hl (by omega) hf (fun x hx => by have := hb x hx; omega)⟩
      have c0 : left ≠ 0 := by simpa using dno c
      refine ⟨_, rfl, ?_⟩
      refine ⟨_, rfl, R, _, rfl, .inl (SqL.of hl), _, _, rfl, rfl, _, rfl, ?_⟩
      have hpR : ∀ o, upd H' p o R = some (.lst (ns.map V.int)) := fun o => by rw [upd_ne hRp]; exact hl
      have bt2 : ∀ o o2, But p H (upd (upd H' p o) R o2) := fun o o2 b u nb e => by
        have nR : b ≠ R := fun z => by rw [z, hR] at e; cases e
        rw [upd_ne nR, upd_ne nb]
        exact bt b u nb e
      have sz : (ns.map V.int).length < sizeLine := by rw [List.length_map, sizeLine_eq]; omega
      have nxt : ∀ (most v : Int) (st2 : List V), 1 ≤ most → most ≤ left → (∀ y, ns.getLast? = some y → most ≤ y) → 0 ≤ v → v < most → PoolOk st2 → ∃ (ns' : List Int) (st' : List V) (left' : Int) (x4 x5 x6 : Option V),
          [some (V.ref p), some (.int t), some (.ref R), some (.int (left - (1 + v))), some (.int (0 + (i : Nat))), some (.int most), some (.int (1 + v))] = [some (.ref p), some (.int t), some (.ref R), some (.int left'), x4, x5, x6] ∧ But p H (upd (upd H' p (.lst st2)) R (.lst (ns.map V.int ++ [V.int (1 + v)]))) ∧
          upd (upd H' p (.lst st2)) R (.lst (ns.map V.int ++ [V.int (1 + v)])) p = some (.lst st') ∧ PoolOk st' ∧ upd (upd H' p (.lst st2)) R (.lst (ns.map V.int ++ [V.int (1 + v)])) R = some (.lst (ns'.map V.int)) ∧ 0 ≤ left' ∧ left' ≤ t ∧ ns'.length ≤ i + 1 ∧ i + 1 ≤ t.toNat ∧ Fall ns' ∧ ∀ x ∈ ns', x ≤ t := by
        intro most v st2 a1 a2 a3 v0 v1 ok2
        refine ⟨ns ++ [1 + v], st2, left - (1 + v), _, _, _, rfl, bt2 _ _, by rw [upd_ne (Ne.symm hRp), upd_same], ok2, by rw [upd_same, List.map_append]; rfl, by omega, by omega, by rw [List.length_append]; show ns.length + 1 ≤ _; omega, by omega, fall_snoc hf (by omega) (fun y hy => by have := a3 y hy; omega), fun x hx => ?_⟩
        rcases List.mem_append.mp hx with hx | hx
        · exact hb x hx
        · rw [List.mem_singleton.mp hx]; omega
      refine ite2 (fun c1 => ?_) (fun c1 => ?_)
      · have hne : ns ≠ [] := fun z => by rw [z] at c1; simp at c1
        obtain ⟨ys, y, rfl⟩ : ∃ ys y, ns = ys ++ [y] := ⟨ns.dropLast, ns.getLast hne, (List.dropLast_concat_getLast hne).symm⟩
        refine ⟨_, rfl, _, rfl, _, rfl, R, _, _, .int y, rfl, rfl, SqL.of hl, by rw [List.map_append]; exact atI_last _ _, left, y, rfl, ?_⟩
        have hy : 1 ≤ y := (mem_head hf (List.mem_append_right _ (List.mem_singleton_self y))).1
        have m1 : 1 ≤ (if y < left then y else left) := by split <;> omega
        have m2 : (if y < left then y else left) ≤ left := by split <;> omega
        have m3 : ∀ z, (ys ++ [y]).getLast? = some z → (if y < left then y else left) ≤ z := fun z e => by
          rw [List.getLast?_concat] at e
          cases e
          split <;> omega
        generalize (if y < left then y else left) = most at m1 m2 m3 ⊢
        generalize ys ++ [y] = ns at hl hf hb ln hpR sz nxt m3 ⊢
        refine ⟨_, rfl, _, rfl, p, st', most, rfl, by omega, ?_, hp', ok', fun v st2 v0 v1 ok2 => ?_⟩
        · have : most.natAbs < 2 ^ 12 := by omega
          exact Nat.lt_trans this (by decide)
        exact ⟨_, _, rfl, rfl, _, rfl, .inl ⟨rfl, _, SqL.of (hpR _)⟩, _, rfl, R, _, _, rfl, rfl, hpR _, sz, _, rfl, _, rfl, _, _, rfl, rfl, nxt most v st2 m1 m2 m3 v0 v1 ok2⟩
      · have hne : ns = [] := by
          have := dno c1
          rw [List.length_map] at this
          exact List.eq_nil_of_length_eq_zero (by omega)
        refine ⟨_, rfl, _, rfl, p, st', left, rfl, by omega, ?_, hp', ok', fun v st2 v0 v1 ok2 => ?_⟩
        · have : left.natAbs < 2 ^ 12 := by omega
          exact Nat.lt_trans this (by decide)
        exact ⟨_, _, rfl, rfl, _, rfl, .inl ⟨rfl, _, SqL.of (hpR _)⟩, _, rfl, R, _, _, rfl, rfl, hpR _, sz, _, rfl, _, rfl, _, _, rfl, rfl, nxt left v st2 (by omega) (Int.le_refl _) (fun y e => by rw [hne] at e; cases e) v0 v1 ok2⟩
    · rintro σ H' ⟨ns, st', left, x4, x5, x6, rfl, bt, hp', ok', hl, l0, l1, ln, _, hf, hb⟩
      exact ⟨_, rfl, q H' R ns st' bt hp' ok' hR hl (by omega) hf (fun x hx => by have := hb x hx; omega)⟩
end
end K32

set_option maxRecDepth 100000
set_option maxHeartbeats 4000000
namespace K32
open PySem PySem.Spec PyProof.Rows L2
section
variable {w : World} {K : PySem.W.Frag} {mg : Str → Option Value} {base : Heap}
/-- a row that was spoilt: no longer, no greater than bounds -/
def spSpoil1 (K : PySem.W.Frag) : Sp := fun vs H Q _ => ∃ (p a : Addr) (st : List V) (ns : List Int) (n m : Nat), vs = [.ref p, .ref a] ∧ H p = some (.lst st) ∧ PoolOk st ∧ a ≠ p ∧ SqL K H a (ns.map V.int) ∧ ns.length ≤ n ∧ n ≤ 4000 ∧ (∀ x ∈ ns, x ≤ m) ∧
  ∀ (H' : Hp) (l : Addr) (ms : List Int) (st' : List V), But p H H' → H' p = some (.lst st') → PoolOk st' → H l = none → H' l = some (.lst (ms.map V.int)) → ms.length ≤ n + 1 → (∀ x ∈ ms, x ≤ m + 1) → Q (.ref l) H'
theorem mem_set {ns : List Int} {i : Nat} {v x : Int} (h : x ∈ ns.set i v) : x ∈ ns ∨ x = v := List.mem_or_eq_of_mem_set h
theorem ixN_nat {n j : Nat} (h : j < n) : ixN n (j : Int) = some j := by
  unfold ixN
  simp [h]
theorem ok_law_spoil_one (T : Tx K mg) : Ok PG w K mg base CX0 4 (a_law_spoil_one K) p_law_spoil_one (spSpoil1 K) := by
  refine Ok.of 3 T.f_law_spoil_one sc_law_spoil_one bi_law_spoil_one (by decide) (fun vs H Q E h => ?_) (fun cdv A outer s H vs Q E hr h => ?_)
  · obtain ⟨_, _, _, _, _, _, rfl, _⟩ := h
    rfl
  · obtain ⟨p, a, st, ns, n, m, rfl, hp, ok, ap, hs, ln, ln2, hb, q⟩ := h
    have nd := sc_law_spoil_one.nd
    refine ⟨_, pss_cons (ps_set (i := 2) nd rfl (.inl rfl) (pe_callTy call_list_of (by rfl) T.m_list (by decide +kernel) (pa_cons (pv 1) pa_nil)))
      (pss_cons (ps_set (i := 3) nd rfl (.inl rfl) (pc (ok_law_draw T) (hr.mono (by decide)) T.g_law_draw pass0 (pa_cons (pv 0) (pa_cons pe_int pa_nil))))
      (pss_cons (ps_if (PW.pt (pw_or (pt_cmpR op_eq (pe_callB call_len_seq (by rfl) T.m_len PySem.boot_len (pa_cons (pv 2) pa_nil)) pe_int (nomark _)) (pw_or1 (pt_cmpR op_eq (pv 3) pe_int (nomark _)))))
        (pss_cons (ps_expr (pe_bm PySem.F.plainAttrs_list PySem.F.slot_list_append PySem.F.type_list_append mt_append (pv 2) (pa_cons pe_int pa_nil))) (pss_one (ps_ret (pv 2)))) pss_nil)
      (pss_cons (ps_set (i := 4) nd rfl (.inl rfl) (pc (ok_law_draw T) (hr.mono (by decide)) T.g_law_draw pass0 (pa_cons (pv 0) (pa_cons (pe_callB call_len_seq (by rfl) T.m_len PySem.boot_len (pa_cons (pv 2) pa_nil)) pa_nil))))
      (pss_cons (ps_if (pt_cmpR op_eq (pv 3) pe_int (nomark _)) (pss_one (ps_asg pe_int (pg_sub (pv 2) (pv 4) set_list)))
        (pss_one (ps_if (pt_cmpR op_eq (pv 3) pe_int (nomark _)) (pss_one (ps_asg (pe_un un_neg pe_int) (pg_sub (pv 2) (pv 4) set_list)))
          (pss_one (ps_if (PW.pt (pw_and (pt_cmpR op_gt (pv 4) pe_int (nomark _)) (pw_and1 (pt_cmpR op_le (pe_callB (cr_sum rfl) (by rfl) T.m_sum (by decide +kernel) (pa_cons (pv 1) pa_nil)) pe_int (nomark _)))))
            (pss_one (ps_asg (pe_op op_add (pe_ix ix_list (pv 2) (pe_op op_sub (pv 4) pe_int) (fun _ _ => rfl)) pe_int) (pg_sub (pv 2) (pv 4) set_list))) pss_nil)))))
      (pss_one (ps_ret (pv 2))))))), ?_⟩
    refine ⟨_, rfl, a, _, rfl, .inl hs, fun l hl => ?_⟩
    have lp : l ≠ p := fun z => by rw [z, hp] at hl; cases hl
    refine ⟨_, rfl, p, st, 5, rfl, by decide, by decide, by rw [upd_ne (Ne.symm lp)]; exact hp, ok, fun way st1 w0 w1 ok1 => ?_⟩
    have hL : upd (upd H l (.lst (ns.map V.int))) p (.lst st1) l = some (.lst (ns.map V.int)) := by rw [upd_ne lp, upd_same]
    have bt1 : But p H (upd (upd H l (.lst (ns.map V.int))) p (.lst st1)) := (But.of (.new hl)).trans .set
    have out : ∀ (H0 : Hp) (st' : List V) (ms : List Int) (v : Int), H0 p = some (.lst st') → PoolOk st' → But p H H0 → ms.length ≤ n + 1 → (∀ x ∈ ms, x ≤ m + 1) → Q (.ref l) (upd H0 l (.lst (ms.map V.int))) := fun H0 st' ms v h1 h2 h3 h4 h5 =>
      q _ l ms st' (fun b o nb e => by
        have nl : b ≠ l := fun z => by rw [z, hl] at e; cases e
        rw [upd_ne nl]
        exact h3 b o nb e) (by rw [upd_ne (Ne.symm lp)]; exact h1) h2 hl upd_same h4 h5
    have out0 : ∀ (H0 : Hp) (st' : List V), H0 p = some (.lst st') → PoolOk st' → But p H H0 → H0 l = some (.lst (ns.map V.int)) → Q (.ref l) H0 := fun H0 st' h1 h2 h3 h4 =>
      q _ l ns st' h3 h1 h2 hl h4 (by omega) (fun x hx => by have := hb x hx; omega)
    have app : Q (.ref l) (upd (upd (upd H l (.lst (ns.map V.int))) p (.lst st1)) l (.lst (ns.map V.int ++ [V.int 0]))) := by
      have := out (upd (upd H l (.lst (ns.map V.int))) p (.lst st1)) st1 (ns ++ [0]) 0 upd_same ok1 bt1 (by rw [List.length_append]; show ns.length + 1 ≤ n + 1; omega) (fun x hx => by
        rcases List.mem_append.mp hx with hx | hx
        · have := hb x hx; omega
        · rw [List.mem_singleton.mp hx]; omega)
      rw [List.map_append] at this
      exact this
    have sz : (ns.map V.int).length < sizeLine := by rw [List.length_map, sizeLine_eq]; omega
    refine ⟨_, rfl, l, _, rfl, .inl (SqL.of hL), rfl, _, rfl, ?_⟩
    refine ite2 (fun c => ?_) (fun c => ?_)
    · exact ⟨_, rfl, .inl ⟨rfl, _, SqL.of hL⟩, l, _, _, rfl, rfl, hL, sz, _, rfl, app⟩
    refine ⟨_, rfl, rfl, _, rfl, ?_⟩
    refine ite2 (fun c1 => ?_) (fun c1 => ?_)
    · exact ⟨_, rfl, .inl ⟨rfl, _, SqL.of hL⟩, l, _, _, rfl, rfl, hL, sz, _, rfl, app⟩
    have hne : 0 < ns.length := by
      have := dno c
      rw [List.length_map] at this
      simp at this
      exact List.length_pos_iff.mpr this
    refine ⟨_, rfl, _, rfl, l, _, rfl, .inl (SqL.of hL), p, st1, _, rfl, by rw [List.length_map]; omega, ?_, upd_same, ok1, fun place st2 p0 p1 ok2 => ?_⟩
    · rw [List.length_map]
      have : ((ns.length : Nat) : Int).natAbs < 2 ^ 12 := by omega
      exact Nat.lt_trans this (by decide)
    rw [upd_upd]
    rw [List.length_map] at p1
    obtain ⟨i, rfl⟩ : ∃ i : Nat, place = (i : Int) := ⟨place.toNat, by omega⟩
    have hi : i < ns.length := by omega
    have hL2 : upd (upd H l (.lst (ns.map V.int))) p (.lst st2) l = some (.lst (ns.map V.int)) := by rw [upd_ne lp, upd_same]
    have bt2 : But p H (upd (upd H l (.lst (ns.map V.int))) p (.lst st2)) := (But.of (.new hl)).trans .set
    have put : ∀ v : Int, v ≤ m + 1 → Q (.ref l) (upd (upd (upd H l (.lst (ns.map V.int))) p (.lst st2)) l (.lst ((ns.map V.int).set i (V.int v)))) := fun v hv => by
      have := out (upd (upd H l (.lst (ns.map V.int))) p (.lst st2)) st2 (ns.set i v) v upd_same ok2 bt2 (by rw [List.length_set]; omega) (fun x hx => by
        rcases mem_set hx with hx | rfl
        · have := hb x hx; omega
        · exact hv)
      rw [List.map_set] at this
      exact this
    have ixh : ixN (ns.map V.int).length (i : Int) = some i := ixN_nat (by rw [List.length_map]; exact hi)
    refine ⟨_, rfl, rfl, _, rfl, ?_⟩
    refine ite2 (fun c2 => ?_) (fun c2 => ?_)
    · exact ⟨_, rfl, _, rfl, l, _, _, i, rfl, rfl, hL2, ixh, _, rfl, put 0 (by omega)⟩
    refine ⟨_, rfl, rfl, _, rfl, ?_⟩
    refine ite2 (fun c3 => ?_) (fun c3 => ?_)
    · exact ⟨_, rfl, _, rfl, _, rfl, l, _, _, i, rfl, rfl, hL2, ixh, _, rfl, put (-3) (by omega)⟩
    refine ⟨_, rfl, _, _, rfl, rfl, _, rfl, ?_⟩
    refine ite2 (fun c4 => ?_) (fun c4 => ?_)
    · have i0 : 0 < i := by have := of_decide_eq_true c4; omega
      refine ⟨_, rfl, a, ns, rfl, bt2.sqL ap hs, _, _, rfl, rfl, _, rfl, ?_⟩
      refine ite2 (fun c5 => ?_) (fun c5 => ?_)
      · obtain ⟨k, rfl⟩ : ∃ k, i = k + 1 := ⟨i - 1, by omega⟩
        have hk : ns[k]? = some ns[k] := List.getElem?_eq_getElem (by omega)
        refine ⟨_, rfl, _, rfl, _, _, rfl, rfl, l, _, _, .int ns[k], rfl, rfl, SqL.of hL2, ?_, _, _, rfl, rfl, _, rfl, _, rfl, l, _, _, k + 1, rfl, rfl, hL2, ixh, _, rfl, put _ ?_⟩
        · have e : ((k + 1 : Nat) : Int) - 1 = ((k : Nat) : Int) := by omega
          rw [e]
          exact atI_nat (by rw [List.getElem?_map, hk]; rfl)
        · have := hb _ (List.mem_of_getElem? hk)
          omega
      · exact ⟨_, rfl, out0 _ st2 upd_same ok2 bt2 hL2⟩
    · exact ⟨_, rfl, out0 _ st2 upd_same ok2 bt2 hL2⟩
end
end K32

set_option maxRecDepth 100000
set_option maxHeartbeats 4000000
namespace K32
open PySem PySem.Spec PyProof.Rows L2
section
variable {w : World} {K : PySem.W.Frag} {mg : Str → Option Value} {base : Heap}
def spSpoiled (K : PySem.W.Frag) : Sp := fun vs H Q _ => ∃ (p a : Addr) (st : List V) (ns : List Int), vs = [.ref p, .ref a] ∧ H p = some (.lst st) ∧ PoolOk st ∧ a ≠ p ∧ SqL K H a (ns.map V.int) ∧ ns.length ≤ 2000 ∧ (∀ x ∈ ns, x ≤ 2000) ∧
  ∀ (H' : Hp) (l : Addr) (ms : List Int) (st' : List V), But p H H' → H' p = some (.lst st') → PoolOk st' → H l = none → H' l = some (.lst (ms.map V.int)) → ms.length ≤ 5000 → (∀ x ∈ ms, x ≤ 5000) → Q (.ref l) H'
theorem ok_law_spoiled (T : Tx K mg) : Ok PG w K mg base CX0 5 (a_law_spoiled K) p_law_spoiled (spSpoiled K) := by
  refine Ok.of 4 T.f_law_spoiled sc_law_spoiled bi_law_spoiled (by decide) (fun vs H Q E h => ?_) (fun cdv A outer s H vs Q E hr h => ?_)
  · obtain ⟨_, _, _, _, rfl, _⟩ := h
    rfl
  · obtain ⟨p, a, st, ns, rfl, hp, ok, ap, hs, ln, hb, q⟩ := h
    have nd := sc_law_spoiled.nd
    refine ⟨_, pss_cons (ps_set (i := 2) nd rfl (.inl rfl) (pc (ok_law_draw T) (hr.mono (by decide)) T.g_law_draw pass0 (pa_cons (pv 0) (pa_cons pe_int pa_nil))))
      (pss_cons (ps_if (pt_cmpR op_eq (pv 2) pe_int (nomark _)) (pss_one (ps_ret (pe_lc (own := [("place", 3)]) (g := gName 3) (tt := tYes) rfl nd (pi_range1 rfl T.m_range (pa_cons (pc (ok_law_draw T) (hr.mono (by decide)) T.g_law_draw pass0 (pa_cons (pv 0) (pa_cons pe_int pa_nil))) pa_nil))
          (blkOk_by (N := n_law_spoiled) (sc := defScope s_law_spoiled) (by decide +kernel)) (fun _ _ _ _ _ => pg_name (i := 3) nd rfl (Or.inl rfl)) (fun _ _ _ _ _ => pts_nil)
          (fun _ _ _ _ _ => pe_op op_sub (pc (ok_law_draw T) (hr.mono (by decide)) T.g_law_draw pass0 (pa_cons (pv 0) (pa_cons pe_int pa_nil))) pe_int)))) pss_nil)
      (pss_cons (ps_if (pt_cmpR op_lt (pv 2) pe_int (nomark _)) (pss_one (ps_ret (pe_callTy call_list_of (by rfl) T.m_list (by decide +kernel) (pa_cons (pv 1) pa_nil)))) pss_nil)
      (pss_cons (ps_set (i := 4) nd rfl (.inl rfl) (pc (ok_law_spoil_one T) (hr.mono (by decide)) T.g_law_spoil_one pass0 (pa_cons (pv 0) (pa_cons (pv 1) pa_nil))))
      (pss_cons (ps_if (PW.pt (pw_and (pt_cmpR op_eq (pv 2) pe_int (nomark _)) (pw_and1 (pt_cmpR op_le (pe_callB (cr_sum rfl) (by rfl) T.m_sum (by decide +kernel) (pa_cons (pv 4) pa_nil)) pe_int (nomark _)))))
        (pss_one (ps_set (i := 4) nd rfl (.inl rfl) (pc (ok_law_spoil_one T) (hr.mono (by decide)) T.g_law_spoil_one pass0 (pa_cons (pv 0) (pa_cons (pv 4) pa_nil))))) pss_nil)
      (pss_one (ps_ret (pv 4))))))), ?_⟩
    refine ⟨_, rfl, p, st, 8, rfl, by decide, by decide, hp, ok, fun way st1 w0 w1 ok1 => ?_⟩
    have s1 : But p H (upd H p (.lst st1)) := .set
    refine ⟨_, rfl, rfl, _, rfl, ?_⟩
    refine ite2 (fun c => ?_) (fun c => ?_)
    · refine ⟨_, rfl, p, st1, 61, rfl, by decide, by decide, upd_same, ok1, fun n st2 n0 n1 ok2 => ?_⟩
      rw [upd_upd]
      refine ⟨n, rfl, by omega, by omega, fun D hD => ?_⟩
      have hDp : D ≠ p := fun z => by rw [z, upd_same] at hD; cases hD
      have hD0 : H D = none := by rw [upd_ne hDp] at hD; exact hD
      refine lc_range (lo := 0) (n := n.toNat) (fun i H' => ∃ (ms : List Int) (st' : List V), But p H H' ∧ H' p = some (.lst st') ∧ PoolOk st' ∧ H' D = some (.lst (ms.map V.int)) ∧ ms.length = i ∧ ∀ x ∈ ms, x ≤ 33) ⟨[], st2, (But.set).trans (.of (.new hD)), by rw [upd_ne (Ne.symm hDp), upd_same], ok2, upd_same, rfl, fun x hx => by cases hx⟩ ?_ ?_
      · rintro i H' hi ⟨ms, st', bt, hp', ok', hl, hn, hm⟩
        refine ⟨rfl, yesT ?_⟩
        refine ⟨_, rfl, p, st', 33, rfl, by decide, by decide, hp', ok', fun v st3 v0 v1 ok3 => ?_⟩
        refine ⟨_, _, rfl, rfl, ms.map V.int, by rw [upd_ne hDp]; exact hl, by rw [List.length_map, hn, sizeLine_eq]; omega, ms ++ [v - 2], st3, ?_, ?_, ok3, ?_, ?_, ?_⟩
        · intro b o nb hb'
          have nbD : b ≠ D := fun z => by rw [z, hD0] at hb'; cases hb'
          rw [upd_ne nbD, upd_ne nb]
          exact bt b o nb hb'
        · rw [upd_ne (Ne.symm hDp), upd_same]
        · rw [upd_same, List.map_append]; rfl
        · rw [List.length_append, hn]; rfl
        · intro x hx
          rcases List.mem_append.mp hx with hx | hx
          · exact hm x hx
          · rw [List.mem_singleton.mp hx]; omega
      · rintro H' ⟨ms, st', bt, hp', ok', hl, hn, hm⟩
        exact q H' D ms st' bt hp' ok' hD0 hl (by omega) (fun x hx => by have := hm x hx; omega)
    refine ⟨_, rfl, _, _, rfl, rfl, _, rfl, ?_⟩
    refine ite2 (fun c1 => ?_) (fun c1 => ?_)
    · refine ⟨_, rfl, a, _, rfl, .inl (s1.sqL ap hs), fun l hl => ?_⟩
      have lp : l ≠ p := fun z => by rw [z, upd_same] at hl; cases hl
      exact q _ l ns st1 (s1.trans (.of (.new hl))) (by rw [upd_ne (Ne.symm lp), upd_same]) ok1 (by rw [upd_ne lp] at hl; exact hl) upd_same (by omega) (fun x hx => by have := hb x hx; omega)
    refine ⟨_, rfl, _, rfl, p, a, st1, ns, 2000, 2000, rfl, upd_same, ok1, ap, s1.sqL ap hs, ln, by decide, hb, fun H1 l ms st2 bt1 hp1 ok2 hl hl1 lm hm => ?_⟩
    have lp : l ≠ p := fun z => by rw [z, upd_same] at hl; cases hl
    rw [upd_ne lp] at hl
    have fin : Q (.ref l) H1 := q H1 l ms st2 (s1.trans bt1) hp1 ok2 hl hl1 (by omega) (fun x hx => by have := hm x hx; omega)
    refine ⟨_, rfl, rfl, _, rfl, ?_⟩
    refine ite2 (fun c2 => ?_) (fun c2 => ?_)
    · refine ⟨_, rfl, l, ms, rfl, SqL.of hl1, _, _, rfl, rfl, _, rfl, ?_⟩
      refine ite2 (fun c3 => ?_) (fun c3 => ?_)
      · refine ⟨_, rfl, _, rfl, p, l, st2, ms, 2001, 2001, rfl, hp1, ok2, lp, SqL.of hl1, by omega, by decide, fun x hx => by have := hm x hx; omega, fun H2 l2 ms2 st3 bt2 hp2 ok3 hl2 hl3 lm2 hm2 => ?_⟩
        refine ⟨_, rfl, q H2 l2 ms2 st3 ((s1.trans bt1).trans bt2) hp2 ok3 ?_ hl3 (by omega) (fun x hx => by have := hm2 x hx; omega)⟩
        cases e : H l2 with
        | none => rfl
        | some o =>
          have l2p : l2 ≠ p := fun z => by rw [z, hp1] at hl2; cases hl2
          rw [(s1.trans bt1) l2 o l2p e] at hl2
          cases hl2
      · exact ⟨_, rfl, fin⟩
    · exact ⟨_, rfl, fin⟩
/-- the law's own turning -/
def spCounted (K : PySem.W.Frag) : Sp := fun vs H Q _ => ∃ (a : Addr) (ns : List Int), vs = [.ref a] ∧ SqL K H a (ns.map V.int) ∧ Fall ns ∧ ns.length ≤ 5000 ∧ (∀ n ∈ ns, n ≤ 5000) ∧
  ∀ H' p, Same H H' → H p = none → H' p = some (.lst ((T ns).map V.int)) → Q (.ref p) H'
theorem T_row {n : Int} {ns : List Int} : T (n :: ns) = row n.toNat (fun p => ((cnt (n :: ns) ((p : Nat) + 1) : Nat) : Int)) := rfl
theorem flat_one {α : Type} (v : α) : ∀ n : Nat, (List.replicate n [v]).flatten = List.replicate n v
  | 0 => rfl
  | n + 1 => by rw [List.replicate_succ, List.flatten_cons, flat_one v n]; rfl
theorem row_zero (h : Nat) : row h (fun _ => 0) = List.replicate h 0 := by
  unfold row
  rw [List.map_const', List.length_range]
theorem cnt_snoc {ns : List Int} {x k : Int} : cnt (ns ++ [x]) k = cnt ns k + (if x ≥ k then 1 else 0) := by
  unfold cnt
  rw [List.countP_append, List.countP_singleton]
  by_cases h : x ≥ k <;> simp [h]
theorem ok_law_counted (T' : Tx K mg) : Ok PG w K mg base CX0 2 (a_law_counted K) p_law_counted (spCounted K) := by
  refine Ok.of 1 T'.f_law_counted sc_law_counted bi_law_counted (by decide) (fun vs H Q E h => ?_) (fun cdv A outer s H vs Q E hr h => ?_)
  · obtain ⟨_, _, rfl, _⟩ := h
    rfl
  · obtain ⟨a, ns, rfl, hs, hf, ln, hb, q⟩ := h
    have nd := sc_law_counted.nd
    refine ⟨_, pss_cons (ps_if (pt_cmpR op_eq (pe_callB call_len_seq (by rfl) T'.m_len PySem.boot_len (pa_cons (pv 0) pa_nil)) pe_int (nomark _)) (pss_one (ps_ret (pe_lst pa_nil))) pss_nil)
      (pss_cons (ps_set (i := 1) nd rfl (.inl rfl) (pe_op op_rep (pe_lst (pa_cons pe_int pa_nil)) (pe_ix ix_list (pv 0) pe_int (fun _ _ => rfl))))
      (pss_cons (ps_for (passX rfl) rfl (pi_list (pv 0)) (pg_name (i := 2) nd rfl (.inl rfl))
        (pss_one (ps_for (passX rfl) rfl (pi_range1 rfl T'.m_range (pa_cons (pv 2) pa_nil)) (pg_name (i := 3) nd rfl (.inl rfl))
          (pss_one (ps_asg (pe_op op_add (pe_ix ix_list (pv 1) (pv 3) (fun _ _ => rfl)) pe_int) (pg_sub (pv 1) (pv 3) set_list))))))
      (pss_one (ps_ret (pv 1))))), ?_⟩
    refine ⟨_, rfl, a, _, rfl, .inl hs, rfl, _, rfl, ?_⟩
    cases ns with
    | nil =>
      refine iteT ?_
      exact ⟨Nat.zero_le _, fun l hl => q _ l (.new hl) hl upd_same⟩
    | cons n ns =>
      refine iteF ?_
      have n1 := hf.head
      have n2 := hb n (List.mem_cons_self ..)
      refine ⟨by show 1 ≤ sizeLine; decide, fun l0 hl0 => ?_⟩
      refine ⟨_, rfl, a, _, _, .int n, rfl, rfl, (Same.new hl0).seq hs, atI_nat (j := 0) rfl, l0, n, _, rfl, rfl, upd_same, by omega, by omega, by rw [sizeLine_eq]; show 1 * n.toNat ≤ _; omega, fun l hl => ?_⟩
      have hl' : H l = none := by
        cases e : H l with
        | none => rfl
        | some o => rw [Same.new hl0 l o e] at hl; cases hl
      have sm0 : ∀ o, Same H (upd (upd H l0 (.lst [V.int 0])) l o) := fun o => (Same.new hl0).new' hl
      refine ⟨_, rfl, a, rfl, ⟨_, (sm0 _).seq hs⟩, ?_⟩
      refine for_list (xs := (n :: ns).map V.int) (fun i σ H' => ∃ x2 x3, σ = [some (.ref a), some (.ref l), x2, x3] ∧ Same H H' ∧ H' l = some (.lst ((row n.toNat (fun p => ((cnt ((n :: ns).take i) ((p : Nat) + 1) : Nat) : Int))).map V.int)))
        ⟨none, none, rfl, sm0 _, by rw [upd_same, flat_one]; congr 2; rw [show (fun p : Nat => ((cnt ((n :: ns).take 0) ((p : Nat) + 1) : Nat) : Int)) = fun _ => 0 from rfl, row_zero, List.map_replicate]⟩ (fun i σ H' _ z => z.choose_spec.choose_spec.2.1.seq hs) ?_ ?_
      · rintro i x σ H' hx ⟨x2, x3, rfl, sm, hl1⟩
        obtain ⟨m, hm, rfl⟩ := map_get hx
        have mb := mem_head hf (List.mem_of_getElem? hm)
        have mb2 : m ≤ n := mb.2
        refine ⟨_, rfl, m, rfl, by omega, by omega, ?_⟩
        refine for_range (lo := 0) (n := m.toNat) (fun j σ H' => ∃ x3, σ = [some (.ref a), some (.ref l), some (.int m), x3] ∧ Same H H' ∧ H' l = some (.lst ((row n.toNat (fun p => ((cnt ((n :: ns).take i) ((p : Nat) + 1) : Nat) : Int) + if p < j then 1 else 0)).map V.int)))
          ⟨x3, rfl, sm, by rw [hl1]; congr 3⟩ ?_ ?_
        · rintro j σ H2 hj ⟨x4, rfl, sm2, hl2⟩
          have jn : j < n.toNat := by omega
          have z : ((0 : Int) + (j : Nat)) = (j : Nat) := Int.zero_add _
          rw [z]
          refine ⟨_, rfl, _, rfl, l, _, _, .int _, rfl, rfl, SqL.of hl2, atI_nat (by rw [List.getElem?_map, row_get jn]; rfl), _, _, rfl, rfl, _, rfl, _, rfl, l, _, _, j, rfl, rfl, hl2, ixN_nat (by rw [List.length_map]; unfold row; rw [List.length_map, List.length_range]; exact jn), _, rfl, ?_, ?_⟩
          · intro b o e
            have nb : b ≠ l := fun z => by rw [z, hl'] at e; cases e
            rw [upd_ne nb]
            exact sm2 b o e
          · rw [upd_same]
            congr 2
            rw [← List.map_set, row_set]
            congr 1
            refine row_ext fun p _ => ?_
            by_cases e : p = j
            · subst e
              simp
            · simp only [if_neg e]
              by_cases e2 : p < j
              · rw [if_pos e2, if_pos (by omega)]
              · rw [if_neg e2, if_neg (by omega)]
        · rintro σ H2 ⟨x4, rfl, sm2, hl2⟩
          refine ⟨_, _, rfl, sm2, ?_⟩
          rw [hl2]
          congr 3
          refine row_ext fun p _ => ?_
          rw [List.take_succ, hm, Option.toList_some, cnt_snoc]
          by_cases e : p < m.toNat
          · rw [if_pos e, if_pos (by omega)]
            omega
          · rw [if_neg e, if_neg (by omega)]
            omega
      · rintro σ H' ⟨x2, x3, rfl, sm, hl1⟩
        refine ⟨_, rfl, q H' l sm hl' ?_⟩
        rw [List.length_map, List.take_length] at hl1
        exact hl1
/-- the law's own look at a row -/
def spFirst (K : PySem.W.Frag) : Sp := fun vs H Q _ => ∃ (a : Addr) (ns : List Int), vs = [.ref a] ∧ SqL K H a (ns.map V.int) ∧ ns.length ≤ 6000 ∧ (∀ i, Wrong ns i → Q (.int (i : Nat)) H) ∧ (Fall ns → Q (.int (-1)) H)
theorem ok_law_first_wrong (T : Tx K mg) : Ok PG w K mg base CX0 2 (a_law_first_wrong K) p_law_first_wrong (spFirst K) := by
  refine Ok.of 1 T.f_law_first_wrong sc_law_first_wrong bi_law_first_wrong (by decide) (fun vs H Q E h => ?_) (fun cdv A outer s H vs Q E hr h => ?_)
  · obtain ⟨_, _, rfl, _⟩ := h
    rfl
  · obtain ⟨a, ns, rfl, hs, ln, q1, q2⟩ := h
    have nd := sc_law_first_wrong.nd
    refine ⟨_, pss_cons (ps_for (passX rfl) rfl (pi_range1 rfl T.m_range (pa_cons (pe_callB call_len_seq (by rfl) T.m_len PySem.boot_len (pa_cons (pv 0) pa_nil)) pa_nil)) (pg_name (i := 1) nd rfl (.inl rfl))
        (pss_cons (ps_if (pt_cmpR op_lt (pe_ix ix_list (pv 0) (pv 1) (fun _ _ => rfl)) pe_int (nomark _)) (pss_one (ps_ret (pv 1))) pss_nil)
        (pss_one (ps_if (PW.pt (pw_and (pt_cmpR op_gt (pv 1) pe_int (nomark _)) (pw_and1 (pt_cmpR op_gt (pe_ix ix_list (pv 0) (pv 1) (fun _ _ => rfl)) (pe_ix ix_list (pv 0) (pe_op op_sub (pv 1) pe_int) (fun _ _ => rfl)) (nomark _))))) (pss_one (ps_ret (pv 1))) pss_nil))))
      (pss_one (ps_ret (pe_un un_neg pe_int))), ?_⟩
    refine ⟨_, rfl, a, _, rfl, .inl hs, _, rfl, by omega, by rw [List.length_map]; omega, ?_⟩
    refine for_range (lo := 0) (n := (ns.map V.int).length) (fun i σ H' => ∃ x1, σ = [some (.ref a), x1] ∧ H' = H ∧ ∀ j, j < i → At ns j) ⟨none, rfl, rfl, fun j z => absurd z (Nat.not_lt_zero j)⟩ ?_ ?_
    · rintro i σ H' hi ⟨x1, rfl, rfl, hj⟩
      rw [List.length_map] at hi
      have z : ((0 : Int) + (i : Nat)) = (i : Nat) := Int.zero_add _
      rw [z]
      have hn : ns[i]? = some ns[i] := List.getElem?_eq_getElem hi
      have hn' : (ns.map V.int)[i]? = some (.int ns[i]) := by rw [List.getElem?_map, hn]; rfl
      refine ⟨_, rfl, _, rfl, a, _, _, .int ns[i], rfl, rfl, hs, atI_nat hn', _, _, rfl, rfl, _, rfl, ?_⟩
      refine ite2 (fun c => ?_) (fun c => ?_)
      · exact ⟨_, rfl, q1 i ⟨hj, at_no1 hn (of_decide_eq_true c)⟩⟩
      have c0 : 1 ≤ ns[i] := by have := dno c; omega
      have go : At ns i → ∀ j, j < i + 1 → At ns j := fun c j hj2 => if z : j < i then hj j z else (show j = i by omega) ▸ c
      refine ⟨_, rfl, _, _, rfl, rfl, _, rfl, ?_⟩
      refine ite2 (fun c1 => ?_) (fun c1 => ?_)
      · obtain ⟨k, rfl⟩ : ∃ k, i = k + 1 := ⟨i - 1, by have := of_decide_eq_true c1; omega⟩
        have hk : ns[k]? = some ns[k] := List.getElem?_eq_getElem (by omega)
        refine ⟨_, rfl, _, rfl, a, _, _, .int ns[k + 1], rfl, rfl, hs, atI_nat hn', _, rfl, _, rfl, _, _, rfl, rfl, a, _, _, .int ns[k], rfl, rfl, hs, ?_, _, _, rfl, rfl, _, rfl, ?_⟩
        · have e : ((k + 1 : Nat) : Int) - 1 = ((k : Nat) : Int) := by omega
          rw [e]
          exact atI_nat (by rw [List.getElem?_map, hk]; rfl)
        · refine ite2 (fun c2 => ?_) (fun c2 => ?_)
          · exact ⟨_, rfl, q1 _ ⟨hj, at_no2 hn hk (of_decide_eq_true c2)⟩⟩
          · refine ⟨_, rfl, rfl, go (at_yes hn c0 fun j m hj3 em => ?_)⟩
            obtain rfl : j = k := by omega
            rw [hk] at em
            cases em
            have := dno c2
            omega
      · refine ⟨_, rfl, rfl, go (at_yes hn c0 fun j m hj3 em => ?_)⟩
        have := dno c1
        omega
    · rintro σ H' ⟨x1, rfl, rfl, hj⟩
      rw [List.length_map] at hj
      exact ⟨_, rfl, q2 (fall_of hj)⟩
end
end K32

set_option maxRecDepth 100000
set_option maxHeartbeats 4000000
/-! # rows of numbers: ==, != -/
namespace L2
open PySem PySem.Spec PyProof.Rows
theorem dp_ints {K : PySem.W.Frag} {H : Hp} : ∀ (ns : List Int), DpAll K H (ns.map V.int) (ns.map PyData.int)
  | [] => .nil
  | n :: ns => .cons (.int n) (dp_ints ns)
theorem eqvAll_ints : ∀ (ns ms : List Int), PyData.eqvAll (ns.map PyData.int) (ms.map PyData.int) = decide (ns = ms)
  | [], [] => rfl
  | [], _ :: _ => rfl
  | _ :: _, [] => rfl
  | n :: ns, m :: ms => by
    rw [List.map_cons, List.map_cons, PyData.eqvAll, eqvAll_ints ns ms]
    show (decide (n = m) && decide (ns = ms)) = _
    by_cases h : n = m <;> by_cases h' : ns = ms <;> simp [h, h']
theorem shaped_tup (ns : List Int) : SeqAt.shaped (.tuple (ns.map PyData.int)) = true := by
  simp [SeqAt.shaped, PyData.canLay0, PyData.depth, PySem.W.ke_canLayAll0, PySem.W.ke_depthAll]
theorem shaped_lst (ns : List Int) : SeqAt.shaped (.list (ns.map PyData.int)) = true := by
  simp [SeqAt.shaped, PyData.canLay0, PyData.depth, PySem.W.ke_canLayAll0, PySem.W.ke_depthAll]
section
variable {X : Cx}
/-- two rows of numbers, both tuples or both lists -/
def rEqRow (K : PySem.W.Frag) (neg : Bool) : R2 := fun x y H Q => ∃ (a b : Addr) (ns ms : List Int), x = .ref a ∧ y = .ref b ∧ ((SqT K H a (ns.map V.int) ∧ SqT K H b (ms.map V.int)) ∨ (SqL K H a (ns.map V.int) ∧ SqL K H b (ms.map V.int))) ∧ Q (.bl (if neg = true then !decide (ns = ms) else decide (ns = ms))) H
theorem op_eqRow (hu : X.A.units + 64 < cLine) : OpR X (compareOp .Eq) (rEqRow X.K false) := by
  intro pins s σ H x y v u Q I rx ry h
  obtain ⟨a, b, ns, ms, rfl, rfl, hs, q⟩ := h
  rcases hs with ⟨h1, h2⟩ | ⟨h1, h2⟩
  · refine op_eqD hu pins s σ H _ _ v u Q I rx ry ⟨.tuple (ns.map PyData.int), .tuple (ms.map PyData.int), .tup h1 (dp_ints ns), .tup h2 (dp_ints ms), shaped_tup ns, shaped_tup ms, ?_⟩
    rw [PyData.eqv, eqvAll_ints]
    exact q
  · refine op_eqD hu pins s σ H _ _ v u Q I rx ry ⟨.list (ns.map PyData.int), .list (ms.map PyData.int), .lst h1 (dp_ints ns), .lst h2 (dp_ints ms), shaped_lst ns, shaped_lst ms, ?_⟩
    rw [PyData.eqv, eqvAll_ints]
    exact q
theorem op_neRow (hu : X.A.units + 64 < cLine) : OpR X (compareOp .NotEq) (rEqRow X.K true) := by
  intro pins s σ H x y v u Q I rx ry h
  obtain ⟨a, b, ns, ms, rfl, rfl, hs, q⟩ := h
  rcases hs with ⟨h1, h2⟩ | ⟨h1, h2⟩
  · refine op_neD hu pins s σ H _ _ v u Q I rx ry ⟨.tuple (ns.map PyData.int), .tuple (ms.map PyData.int), .tup h1 (dp_ints ns), .tup h2 (dp_ints ms), shaped_tup ns, shaped_tup ms, ?_⟩
    rw [PyData.eqv, eqvAll_ints]
    exact q
  · refine op_neD hu pins s σ H _ _ v u Q I rx ry ⟨.list (ns.map PyData.int), .list (ms.map PyData.int), .lst h1 (dp_ints ns), .lst h2 (dp_ints ms), shaped_lst ns, shaped_lst ms, ?_⟩
    rw [PyData.eqv, eqvAll_ints]
    exact q
end
end L2

set_option maxRecDepth 100000
set_option maxHeartbeats 4000000
namespace K32
open PySem PySem.Spec PyProof.Rows L2
section
variable {w : World} {K : PySem.W.Frag} {mg : Str → Option Value} {base : Heap}
/-- what the try tells: the error's word, or the turned row in a new list -/
def spTry (K : PySem.W.Frag) : Sp := fun vs H Q _ => ∃ (a : Addr) (ns : List Int), vs = [.ref a] ∧ SqL K H a (ns.map V.int) ∧ ns.length ≤ 5000 ∧ (∀ n ∈ ns, n ≤ 5000) ∧
  (∀ i, Wrong ns i → ∀ H' t, Same H H' → SqT K H' t [.str "NotFalling", .int (i : Nat), .bl true, .bl true, .bl false, .bl false] → Q (.ref t) H') ∧
  (Fall ns → ∀ H' t l, Same H H' → SqT K H' t [.str "turned", .ref l] → H l = none → H' l = some (.lst ((K32.T ns).map V.int)) → Q (.ref t) H')
theorem ok_law_try_turned (T : Tx K mg) : Ok PG w K mg base CX0 5 (a_law_try_turned K) p_law_try_turned (spTry K) := by
  refine Ok.of 4 T.f_law_try_turned sc_law_try_turned bi_law_try_turned (by decide) (fun vs H Q E h => ?_) (fun cdv A outer s H vs Q E hr h => ?_)
  · obtain ⟨_, _, rfl, _⟩ := h
    rfl
  · obtain ⟨a, ns, rfl, hs, ln, hb, q1, q2⟩ := h
    have nd := sc_law_try_turned.nd
    refine ⟨_, pss_cons (ps_set (i := 1) nd rfl (.inl rfl) pe_non)
      (pss_cons (ps_set (i := 2) nd rfl (.inl rfl) (pe_tup (pa_cons pe_str pa_nil)))
      (pss_cons (ps_try_any rfl rfl nd takes0
          (fun W pn xe tk _ => pss_one (ps_set (i := 1) nd rfl (.inl rfl) (pcS (ok_turned T) (hr.mono (by decide)) T.g_turned (fun σ => passAt tk σ) (pa_cons (pv 0) pa_nil))))
          (.as (i := 3) ⟨rfl, by decide, .inl T.e_NotFalling.gC⟩ rfl rfl
            (fun a oe cls d pn hz hf => pss_one (ps_set (i := 2) nd rfl (.inl rfl) (pe_tup (pa_cons pe_str (pa_cons (pe_xf T.xNotFalling.1 T.nNotFalling_place hz hf (pv 3))
              (pa_cons (pe_callB (call_isD T.xNotFalling.2 hz hf) (by rfl) T.m_isinstance (by decide +kernel) (pa_cons (pv 3) (pa_cons (pgC T.gNightsError) pa_nil)))
              (pa_cons (pe_callB (call_isD T.xNotFalling.2 hz hf) (by rfl) T.m_isinstance (by decide +kernel) (pa_cons (pv 3) (pa_cons (pe_bltn (v := .ty "ValueError") (by rfl) T.m_ValueError (by decide +kernel) rfl) pa_nil)))
              (pa_cons (pe_callB (call_isD T.xNotFalling.2 hz hf) (by rfl) T.m_isinstance (by decide +kernel) (pa_cons (pv 3) (pa_cons (pgC T.e_BadNumber.gC) pa_nil)))
              (pa_cons (pe_callB (call_isD T.xNotFalling.2 hz hf) (by rfl) T.m_isinstance (by decide +kernel) (pa_cons (pv 3) (pa_cons (pgC T.e_UnlikeSums.gC) pa_nil))) pa_nil)))))))))
          .nil))
      (pss_cons (ps_if (pt_cmpR op_notN (pv 1) pe_non (nomark _)) (pss_one (ps_set (i := 2) nd rfl (.inl rfl) (pe_tup (pa_cons pe_str (pa_cons (pv 1) pa_nil))))) pss_nil)
      (pss_one (ps_ret (pv 2)))))), ?_⟩
    refine ⟨by show 1 ≤ sizeLine; decide, fun wd hwd => ?_⟩
    have s1 : Same H (upd H wd (.tup [.str "none"])) := .new hwd
    refine ⟨_, rfl, a, ns, rfl, s1.seq hs, ln, hb, fun i hw => ?_, fun hf H' p sm hp hl => ?_⟩
    · intro H' d sm hd
      have s2 : Same H (upd H' d (xN (i : Nat))) := (s1.trans sm).new' hd
      refine ⟨true, T.mNotFalling_NotFalling, fun _ e he => ?_, fun z => nomatch z⟩
      refine ⟨_, rfl, rfl, rfl, d, _, _, rfl, upd_same, rfl, ?_⟩
      refine ⟨_, rfl, rfl, _, _, true, d, _, rfl, fun u r => r, rfl, upd_same, T.kNotFalling_NightsError, ?_⟩
      refine ⟨_, rfl, rfl, _, _, true, d, _, rfl, fun u r => r, rfl, upd_same, T.kNotFalling_ValueError, ?_⟩
      refine ⟨_, rfl, rfl, _, _, false, d, _, rfl, fun u r => r, rfl, upd_same, T.kNotFalling_BadNumber, ?_⟩
      refine ⟨_, rfl, rfl, _, _, false, d, _, rfl, fun u r => r, rfl, upd_same, T.kNotFalling_UnlikeSums, ?_⟩
      refine ⟨by show 6 ≤ sizeLine; decide, fun w2 hw2 => ?_⟩
      refine ⟨_, rfl, rfl, _, rfl, nope (by simp) ?_⟩
      exact ⟨_, rfl, q1 i hw _ w2 (s2.new' hw2) (SqT.of upd_same)⟩
    · refine ⟨_, rfl, rfl, _, rfl, yep (by simp) ?_⟩
      refine ⟨_, rfl, by show 2 ≤ sizeLine; decide, fun w2 hw2 => ?_⟩
      have hp0 : H p = none := by
        cases e : H p with
        | none => rfl
        | some o => rw [s1 p o e] at hp; cases hp
      refine ⟨_, rfl, q2 hf _ w2 p ((s1.trans sm).new' hw2) (SqT.of upd_same) hp0 ?_⟩
      rw [upd_ne (fun z => by rw [← z, hl] at hw2; cases hw2)]
      exact hl
end
end K32

set_option maxRecDepth 100000
set_option maxHeartbeats 4000000
namespace K32
open PySem PySem.Spec PyProof.Rows L2
theorem Wrong.uniq {ns : List Int} {i j : Nat} (h : Wrong ns i) (h' : Wrong ns j) : i = j := by
  rcases Nat.lt_trichotomy i j with c | c | c
  · exact absurd (h'.1 i c) h.2
  · exact c
  · exact absurd (h.1 j c) h'.2
theorem eqd_atoms {K : PySem.W.Frag} {n : Nat} {H : Hp} {xs : List V} (h : ∀ x ∈ xs, Atom x) (i : Nat) (u v : V) (h1 : xs[i]? = some u) (h2 : xs[i]? = some v) : Eqd K n H u v := by
  rw [h1] at h2
  cases h2
  exact .atom (h u (List.mem_of_getElem? h1))
theorem eqd_tup {K : PySem.W.Frag} {n : Nat} {H : Hp} {a b : Addr} {xs : List V} (h1 : SqT K H a xs) (h2 : SqT K H b xs) (l : xs.length ≤ 1000) (h : ∀ x ∈ xs, Atom x) : Eqd K (n + 1) H (.ref a) (.ref b) :=
  .inr ⟨a, b, _, _, rfl, rfl, .inl ⟨h1, h2⟩, rfl, sL l, eqd_atoms h⟩
theorem eqd_rows {K : PySem.W.Frag} {n : Nat} {H : Hp} {a b : Addr} {ns : List Int} (h1 : SqL K H a (ns.map V.int)) (h2 : SqL K H b (ns.map V.int)) (l : ns.length ≤ 10000) : Eqd K (n + 1) H (.ref a) (.ref b) :=
  .inr ⟨a, b, _, _, rfl, rfl, .inr ⟨h1, h2⟩, rfl, by rw [List.length_map, sizeLine_eq]; omega, Eqd.ints⟩
/-- a word and a row -/
theorem eqd_word {K : PySem.W.Frag} {H : Hp} {a b l p : Addr} {z : Str} {ns : List Int} (h1 : SqT K H a [.str z, .ref l]) (h2 : SqT K H b [.str z, .ref p]) (hl : SqL K H l (ns.map V.int)) (hp : SqL K H p (ns.map V.int)) (le : ns.length ≤ 10000) : Eqd K 2 H (.ref a) (.ref b) :=
  .inr ⟨a, b, _, _, rfl, rfl, .inl ⟨h1, h2⟩, rfl, sL (by show 2 ≤ 1000; decide), fun i u v e1 e2 => by
    match i with
    | 0 => cases e1; cases e2; exact .atom (.str z)
    | 1 => cases e1; cases e2; exact eqd_rows hl hp le
    | i + 2 => cases e1⟩
theorem T_small {ns : List Int} (hf : Fall ns) (h1 : ns.length ≤ 5000) (h2 : ∀ n ∈ ns, n ≤ 5000) : (K32.T ns).length ≤ 5000 ∧ ∀ x ∈ K32.T ns, x ≤ 5000 := by
  constructor
  · rw [T_len]
    cases ns with
    | nil => decide
    | cons n ns => have := h2 n (List.mem_cons_self ..); show n.toNat ≤ 5000; omega
  · intro x hx
    obtain ⟨p, _, rfl⟩ := List.mem_map.mp hx
    have := cnt_len (ns := ns) (k := (p : Int) + 1)
    omega
section
variable {w : World} {K : PySem.W.Frag} {mg : Str → Option Value} {base : Heap}
def spRight (K : PySem.W.Frag) : Sp := fun vs H Q _ => ∃ (a : Addr) (ns : List Int), vs = [.ref a] ∧ SqL K H a (ns.map V.int) ∧ ns.length ≤ 5000 ∧ (∀ n ∈ ns, n ≤ 5000) ∧ ∀ H', Same H H' → Q (.bl true) H'
theorem ok_law_turned_right (T : Tx K mg) : Ok PG w K mg base CX0 6 (a_law_turned_right K) p_law_turned_right (spRight K) := by
  refine Ok.of 5 T.f_law_turned_right sc_law_turned_right bi_law_turned_right (by decide) (fun vs H Q E h => ?_) (fun cdv A outer s H vs Q E hr h => ?_)
  · obtain ⟨_, _, rfl, _⟩ := h
    rfl
  · obtain ⟨a, ns, rfl, hs, ln, hb, q⟩ := h
    have nd := sc_law_turned_right.nd
    refine ⟨_, pss_cons (ps_set (i := 1) nd rfl (.inl rfl) (pc (ok_law_first_wrong T) (hr.mono (by decide)) T.g_law_first_wrong pass0 (pa_cons (pv 0) pa_nil)))
      (pss_cons (ps_set (i := 2) nd rfl (.inl rfl) (pe_callTy call_list_of (by rfl) T.m_list (by decide +kernel) (pa_cons (pv 0) pa_nil)))
      (pss_cons (ps_set (i := 3) nd rfl (.inl rfl) (pc (ok_law_try_turned T) (hr.mono (by decide)) T.g_law_try_turned pass0 (pa_cons (pv 2) pa_nil)))
      (pss_cons (ps_if (pt_cmpR (op_neRow hr.units) (pv 2) (pv 0) (nomark _)) (pss_one (ps_ret pe_bl)) pss_nil)
      (pss_cons (ps_if (pt_cmpR op_ge (pv 1) pe_int (nomark _)) (pss_one (ps_ret (pc (ok_law_same T 2) (hr.mono (by decide)) T.g_law_same pass0 (pa_cons (pv 3) (pa_cons (pe_tup (pa_cons pe_str (pa_cons (pv 1) (pa_cons pe_bl (pa_cons pe_bl (pa_cons pe_bl (pa_cons pe_bl pa_nil))))))) pa_nil))))) pss_nil)
      (pss_cons (ps_set (i := 4) nd rfl (.inl rfl) (pc (ok_law_counted T) (hr.mono (by decide)) T.g_law_counted pass0 (pa_cons (pv 0) pa_nil)))
      (pss_cons (ps_if (pt_not (pt_val (pc (ok_law_same T 2) (hr.mono (by decide)) T.g_law_same pass0 (pa_cons (pv 3) (pa_cons (pe_tup (pa_cons pe_str (pa_cons (pv 4) pa_nil))) pa_nil))))) (pss_one (ps_ret pe_bl)) pss_nil)
      (pss_cons (ps_expr (pe_bm PySem.F.plainAttrs_list PySem.F.slot_list_append PySem.F.type_list_append mt_append (pe_ix ix_tup (pv 3) pe_int (fun _ _ => rfl)) (pa_cons pe_int pa_nil)))
      (pss_cons (ps_if (pt_cmpR (op_neRow hr.units) (pv 2) (pv 0) (nomark _)) (pss_one (ps_ret pe_bl)) pss_nil)
      (pss_one (ps_ret (pc (ok_law_same T 2) (hr.mono (by decide)) T.g_law_same pass0 (pa_cons (pc (ok_law_try_turned T) (hr.mono (by decide)) T.g_law_try_turned pass0 (pa_cons (pv 4) pa_nil)) (pa_cons (pe_tup (pa_cons pe_str (pa_cons (pv 0) pa_nil))) pa_nil))))))))))))), ?_⟩
    refine ⟨_, rfl, a, ns, rfl, hs, by omega, fun i hw => ?_, fun hf => ?_⟩
    · refine ⟨_, rfl, a, _, rfl, .inl hs, fun hd hh => ?_⟩
      have s1 : Same H (upd H hd (.lst (ns.map V.int))) := .new hh
      refine ⟨_, rfl, hd, ns, rfl, SqL.of upd_same, ln, hb, fun i' hw' H1 t sm ht => ?_, fun hf => absurd (hf i) hw.2⟩
      obtain rfl := hw.uniq hw'
      refine ⟨_, rfl, _, rfl, hd, a, ns, ns, rfl, rfl, .inr ⟨sm.seq (SqL.of upd_same), sm.seq (s1.seq hs)⟩, _, rfl, nope (by simp) ?_⟩
      refine ⟨_, rfl, _, _, rfl, rfl, _, rfl, yep (by simp) ?_⟩
      refine ⟨_, rfl, _, rfl, by show 6 ≤ sizeLine; decide, fun w2 hw2 => ?_⟩
      refine ⟨_, _, rfl, eqd_tup ((Same.new hw2).seqT ht) (SqT.of upd_same) (by show 6 ≤ 1000; decide) ?_, q _ ((s1.trans sm).new' hw2)⟩
      intro x hx
      simp only [List.mem_cons, List.not_mem_nil, or_false] at hx
      rcases hx with rfl | rfl | rfl | rfl | rfl | rfl <;> constructor
    · refine ⟨_, rfl, a, _, rfl, .inl hs, fun hd hh => ?_⟩
      have s1 : Same H (upd H hd (.lst (ns.map V.int))) := .new hh
      refine ⟨_, rfl, hd, ns, rfl, SqL.of upd_same, ln, hb, fun i' hw' => absurd (hf i') hw'.2, fun _ H1 t l sm ht hl hll => ?_⟩
      have hd1 : H1 hd = some (.lst (ns.map V.int)) := sm _ _ upd_same
      have nl : l ≠ hd := fun z => by rw [z, upd_same] at hl; cases hl
      have hl0 : H l = none := by rw [upd_ne nl] at hl; exact hl
      have sm1 := s1.trans sm
      obtain ⟨t1, t2⟩ := T_small hf ln hb
      refine ⟨_, rfl, _, rfl, hd, a, ns, ns, rfl, rfl, .inr ⟨SqL.of hd1, sm1.seq hs⟩, _, rfl, nope (by simp) ?_⟩
      refine ⟨_, rfl, _, _, rfl, rfl, _, rfl, nope (by simp) ?_⟩
      refine ⟨_, rfl, a, ns, rfl, sm1.seq hs, hf, ln, hb, fun H2 p sm2 hp hpl => ?_⟩
      have npl : p ≠ l := fun z => by rw [z, hll] at hp; cases hp
      refine ⟨_, rfl, _, rfl, by show 2 ≤ sizeLine; decide, fun w2 hw2 => ?_⟩
      have sm3 : Same H1 (upd H2 w2 (.tup [.str "turned", .ref p])) := sm2.new' hw2
      have hl3 : upd H2 w2 (.tup [.str "turned", .ref p]) l = some (.lst ((K32.T ns).map V.int)) := sm3 _ _ hll
      have hp3 : upd H2 w2 (.tup [.str "turned", .ref p]) p = some (.lst ((K32.T ns).map V.int)) := Same.new hw2 _ _ hpl
      refine ⟨_, _, rfl, eqd_word (sm3.seqT ht) (SqT.of upd_same) (SqL.of hl3) (SqL.of hp3) (by omega), _, rfl, nope (by simp) ?_⟩
      refine ⟨_, rfl, t, _, 1, .ref l, rfl, rfl, sm3.seqT ht, rfl, .inl ⟨rfl, _, SqL.of hl3⟩, l, _, _, rfl, rfl, hl3, by rw [List.length_map, sizeLine_eq]; omega, ?_⟩
      generalize hG : upd (upd H2 w2 (.tup [.str "turned", .ref p])) l (.lst ((K32.T ns).map V.int ++ [V.int 1])) = G
      have sG : Same H G := fun b o e => by
        have nb : b ≠ l := fun z => by rw [z, hl0] at e; cases e
        rw [← hG, upd_ne nb]
        exact (sm1.trans sm3) b o e
      have hdG : G hd = some (.lst (ns.map V.int)) := by
        rw [← hG, upd_ne (Ne.symm nl)]
        exact sm3 _ _ hd1
      have hpG : G p = some (.lst ((K32.T ns).map V.int)) := by
        rw [← hG, upd_ne npl]
        exact hp3
      refine ⟨_, rfl, _, rfl, hd, a, ns, ns, rfl, rfl, .inr ⟨SqL.of hdG, sG.seq hs⟩, _, rfl, nope (by simp) ?_⟩
      refine ⟨_, rfl, p, K32.T ns, rfl, SqL.of hpG, t1, t2, fun i hw => absurd (T_fall hf i) hw.2, fun _ H4 t4 l4 sm4 ht4 _ hl4 => ?_⟩
      rw [T_T hf] at hl4
      refine ⟨_, rfl, by show 2 ≤ sizeLine; decide, fun w5 hw5 => ?_⟩
      have s5 := Same.new (o := .tup [.str "turned", .ref a]) hw5
      refine ⟨_, _, rfl, eqd_word (s5.seqT ht4) (SqT.of upd_same) (s5.seq (SqL.of hl4)) (((sG.trans sm4).trans s5).seq hs) (by omega), q _ ((sG.trans sm4).trans s5)⟩
def spLaw (K : PySem.W.Frag) : Sp := fun vs H Q _ => ∃ (a : Addr) (ns : List Int), vs = [.ref a] ∧ SqL K H a (ns.map V.int) ∧ ∀ H', Q (.bl true) H'
end
end K32

set_option maxRecDepth 100000
set_option maxHeartbeats 8000000
namespace K32
open PySem PySem.Spec PyProof.Rows L2
section
variable {w : World} {K : PySem.W.Frag} {mg : Str → Option Value} {base : Heap}
theorem none_of {H H' : Hp} {l p : Addr} {o : HO} (b : But p H H') (hp : H' p = some o) (h : H' l = none) : H l = none := by
  cases e : H l with
  | none => rfl
  | some u =>
    have n : l ≠ p := fun z => by rw [z, hp] at h; cases h
    rw [b l u n e] at h
    cases h
theorem law_tail (T : Tx K mg) (cdv : Value) (A : Around) (outer : List Env) (s : Shared) (H : Hp) (E : XK) (hr : Room 6 (A.deeper (envOfC "law" (defScope s_law) s.heap.objs.size (a_law K) cdv))) :
    ∃ t, PSs (cxOf CX0 PG w K mg base n_law "law" (defScope s_law) (a_law K) cdv A outer s H E) ((defBody s_law).drop 3) t ∧ ∀ (D : Ends) (p : Addr) (st : List V) (tot : Int) (s0 : Option V) (H' : Hp),
      H' p = some (.lst st) → PoolOk st → 0 ≤ tot → tot ≤ 2000 → (∀ H2, D.rt (.bl true) H2) → t D [s0, some (.ref p), some (.int tot), none, none, none] H' := by
  have nd := sc_law.nd
  have hr2 := hr.mono (show 2 ≤ 6 by decide)
  have hr4 := hr.mono (show 4 ≤ 6 by decide)
  have hr5 := hr.mono (show 5 ≤ 6 by decide)
  refine ⟨_, pss_cons (ps_set (i := 3) nd rfl (.inl rfl) (pc (ok_law_falling T) hr4 T.g_law_falling pass0 (pa_cons (pv 1) (pa_cons (pv 2) pa_nil))))
    (pss_cons (ps_set (i := 4) nd rfl (.inl rfl) (pc (ok_law_falling T) hr4 T.g_law_falling pass0 (pa_cons (pv 1) (pa_cons (pc (ok_law_draw T) hr2 T.g_law_draw pass0 (pa_cons (pv 1) (pa_cons pe_int pa_nil))) pa_nil))))
    (pss_cons (ps_set (i := 5) nd rfl (.inl rfl) (pc (ok_law_spoiled T) hr5 T.g_law_spoiled pass0 (pa_cons (pv 1) (pa_cons (pv 3) pa_nil))))
    (pss_cons (ps_if (PW.pt (pw_or (pt_not (pt_val (pc (ok_law_turned_right T) hr T.g_law_turned_right pass0 (pa_cons (pv 5) pa_nil)))) (pw_or1 (pt_not (pt_val (pc (ok_law_turned_right T) hr T.g_law_turned_right pass0 (pa_cons (pv 3) pa_nil))))))) (pss_one (ps_ret pe_bl)) pss_nil)
    (pss_cons (ps_if (PW.pt (pw_or (pt_not (pt_val (pc (ok_law_turned_right T) hr T.g_law_turned_right pass0 (pa_cons (pv 4) pa_nil)))) (pw_or1 (pt_not (pt_val (pc (ok_law_turned_right T) hr T.g_law_turned_right pass0 (pa_cons (pe_lst pa_nil) pa_nil))))))) (pss_one (ps_ret pe_bl)) pss_nil)
    (pss_one (ps_ret (pc (ok_law_same T 2) hr5 T.g_law_same pass0 (pa_cons (pc (ok_law_try_turned T) hr5 T.g_law_try_turned pass0 (pa_cons (pe_callTy call_list_of (by rfl) T.m_list (by decide +kernel) (pa_cons (pv 3) pa_nil)) pa_nil)) (pa_cons (pe_tup (pa_cons pe_str (pa_cons (pc (ok_law_counted T) hr2 T.g_law_counted pass0 (pa_cons (pv 3) pa_nil)) pa_nil))) pa_nil))))))))), ?_⟩
  intro D p st tot s0 H0 hp ok t0 t1 q
  refine ⟨_, rfl, _, rfl, p, st, tot, rfl, t0, t1, hp, ok, fun H1 r rs st1 b1 hp1 ok1 hr0 hr1 lr fr br => ?_⟩
  refine ⟨_, rfl, _, rfl, p, st1, 40, rfl, by decide, by decide, hp1, ok1, fun k st2 k0 k1 ok2 => ?_⟩
  have n1 : r ≠ p := fun z => by rw [z, hp] at hr0; cases hr0
  refine ⟨p, st2, k, rfl, k0, by omega, upd_same, ok2, fun H2 o os st3 b2 hp2 ok3 ho0 ho1 lo fo bo => ?_⟩
  have n2 : o ≠ p := fun z => by rw [z, upd_same] at ho0; cases ho0
  have hr2' : H2 r = some (.lst (rs.map V.int)) := b2 _ _ n1 (by rw [upd_ne n1]; exact hr1)
  refine ⟨_, rfl, _, rfl, p, r, st3, rs, rfl, hp2, ok3, n1, SqL.of hr2', lr, br, fun H3 b bs st4 b3 hp3 ok4 hb0 hb1 lb bb => ?_⟩
  have hr3 : H3 r = some (.lst (rs.map V.int)) := b3 _ _ n1 hr2'
  have ho3 : H3 o = some (.lst (os.map V.int)) := b3 _ _ n2 ho1
  have br5 : ∀ n ∈ rs, n ≤ 5000 := fun x hx => by have := br x hx; omega
  refine ⟨_, rfl, b, bs, rfl, SqL.of hb1, lb, bb, fun H4 s4 => ⟨_, rfl, nope rfl ?_⟩⟩
  refine ⟨_, rfl, r, rs, rfl, s4.seq (SqL.of hr3), by omega, br5, fun H5 s5 => ⟨_, rfl, nope rfl ?_⟩⟩
  have s35 := s4.trans s5
  refine ⟨_, rfl, o, os, rfl, s35.seq (SqL.of ho3), by omega, fun x hx => by have := bo x hx; omega, fun H6 s6 => ⟨_, rfl, nope rfl ?_⟩⟩
  refine ⟨Nat.zero_le _, fun e he => ?_⟩
  refine ⟨e, [], rfl, SqL.of upd_same, Nat.zero_le _, (fun x hx => by cases hx), fun H7 s7 => ⟨_, rfl, nope rfl ?_⟩⟩
  have s37 : Same H3 H7 := (s35.trans s6).trans ((Same.new he).trans s7)
  refine ⟨_, rfl, r, _, rfl, .inl (s37.seq (SqL.of hr3)), fun c hc => ?_⟩
  have s8 : Same H3 (upd H7 c (.lst (rs.map V.int))) := s37.new' hc
  refine ⟨c, rs, rfl, SqL.of upd_same, by omega, br5, fun i hw => absurd (fr i) hw.2, fun _ H9 t l s9 ht _ hl => ?_⟩
  refine ⟨_, rfl, r, rs, rfl, (s8.trans s9).seq (SqL.of hr3), fr, by omega, br5, fun H10 d s10 _ hd => ?_⟩
  refine ⟨by show 2 ≤ sizeLine; decide, fun w2 hw2 => ?_⟩
  have s11 := s10.new' (o := .tup [.str "turned", .ref d]) hw2
  obtain ⟨t1', _⟩ := T_small fr (by omega) br5
  exact ⟨_, _, rfl, eqd_word (s11.seqT ht) (SqT.of upd_same) (s11.seq (SqL.of hl)) ((Same.new hw2).seq (SqL.of hd)) (by omega), q _⟩
theorem fn_law (T : Tx K mg) {fd : FuncData} (F : FunD K "law" "law" (defArgs s_law) (defBody s_law) (defScope s_law) [] [] (a_law K) fd) : FnOk PG w K mg base CX0 7 (a_law K) fd p_law (spLaw K) := by
  refine F.ok (k := 6) sc_law (fun vs H Q E h => ?_) (fun cdv A outer s H vs Q E hr h => ?_)
  · obtain ⟨_, _, rfl, _⟩ := h
    rfl
  · obtain ⟨a, ns, rfl, hs, q⟩ := h
    have nd := sc_law.nd
    have hr2 := hr.mono (show 2 ≤ 6 by decide)
    obtain ⟨tl, dl, rl⟩ := law_tail (w := w) (base := base) T cdv A outer s H E hr
    refine ⟨_, pss_cons (ps_set (i := 1) nd rfl (.inl rfl) (pc (ok_law_pool T) hr2 T.g_law_pool pass0 (pa_cons (pv 0) (pa_cons pe_int pa_nil))))
      (pss_cons (ps_set (i := 2) nd rfl (.inl rfl) (pc (ok_law_draw T) hr2 T.g_law_draw pass0 (pa_cons (pv 1) (pa_cons pe_int pa_nil))))
      (pss_cons (ps_if (pt_cmpR op_eq (pc (ok_law_draw T) hr2 T.g_law_draw pass0 (pa_cons (pv 1) (pa_cons pe_int pa_nil))) pe_int (nomark _))
        (pss_one (ps_set (i := 2) nd rfl (.inl rfl) (pc (ok_law_draw T) hr2 T.g_law_draw pass0 (pa_cons (pv 1) (pa_cons (pe_ix ix_list (pe_lst (pa_cons pe_int (pa_cons pe_int (pa_cons pe_int (pa_cons pe_int pa_nil))))) (pc (ok_law_draw T) hr2 T.g_law_draw pass0 (pa_cons (pv 1) (pa_cons pe_int pa_nil))) (fun _ _ => rfl)) pa_nil))))) pss_nil) dl)), ?_⟩
    refine ⟨_, rfl, a, ns, 0, rfl, hs, fun p st hp ok => ?_⟩
    refine ⟨_, rfl, p, st, 40, rfl, by decide, by decide, upd_same, ok, fun v st1 v0 v1 ok1 => ?_⟩
    refine ⟨_, rfl, p, st1, 4, rfl, by decide, by decide, upd_same, ok1, fun v2 st2 _ _ ok2 => ?_⟩
    refine ⟨rfl, _, rfl, ?_⟩
    refine ite2 (fun c => ?_) (fun c => ?_)
    · refine ⟨_, rfl, by show 4 ≤ sizeLine; decide, fun l4 hl4 => ?_⟩
      have n4 : l4 ≠ p := fun z => by rw [z, upd_same] at hl4; cases hl4
      refine ⟨_, rfl, p, st2, 4, rfl, by decide, by decide, by rw [upd_ne (Ne.symm n4), upd_same], ok2, fun v3 st3 v30 v31 ok3 => ?_⟩
      have hg : upd (upd (upd (upd (upd H p (.lst st)) p (.lst st1)) p (.lst st2)) l4 (.lst [.int 301, .int 301, .int 301, .int 1801])) p (.lst st3) l4 = some (.lst [.int 301, .int 301, .int 301, .int 1801]) := by rw [upd_ne n4, upd_same]
      obtain ⟨m, hm, m0, m1⟩ : ∃ m : Int, atI [V.int 301, .int 301, .int 301, .int 1801] v3 = some (.int m) ∧ 0 < m ∧ m ≤ 1801 := by
        rcases (show v3 = 0 ∨ v3 = 1 ∨ v3 = 2 ∨ v3 = 3 by omega) with rfl | rfl | rfl | rfl
        · exact ⟨301, rfl, by decide, by decide⟩
        · exact ⟨301, rfl, by decide, by decide⟩
        · exact ⟨301, rfl, by decide, by decide⟩
        · exact ⟨1801, rfl, by decide, by decide⟩
      refine ⟨l4, _, v3, .int m, rfl, rfl, SqL.of hg, hm, p, st3, m, rfl, m0, ?_, upd_same, ok3, fun v4 st4 v40 v41 ok4 => ?_⟩
      · have : m.natAbs < 2 ^ 12 := by omega
        exact Nat.lt_trans this (by decide)
      exact rl _ p st4 v4 _ _ upd_same ok4 v40 (by omega) (fun _ => q _)
    · exact rl _ p st2 v _ _ upd_same ok2 v0 (by omega) (fun _ => q _)
end
end K32

set_option maxRecDepth 100000
set_option maxHeartbeats 0
namespace K32
open PySem PySem.W PySem.Spec PySem.Calls PyProof.Rows L2 He He5 HX
theorem facts {w : World} {K : Frag} {h : Heap} {mg : Str → Option Value} {f : Addr} (X : K.In h) (G : h.Ns mainGlobals mg) (hfa : mg ("law" : Str) = some (.ref f)) (c : SaysX bx fn er "/claim/cut.py" K) :
    ∃ fd : FuncData, (∀ (s : Shared) (v : Value), BindsTo s fd ⟨[v], []⟩ [("script", v)]) ∧ ∀ base : Heap, K.In base → base.Ns mainGlobals mg → FnOk PG w K mg base CX0 7 f fd ["script"] (spLaw K) := by
  have T := tx_of c X G
  obtain ⟨fd, F⟩ := T.f_law
  have e := hfa.symm.trans T.g_law
  cases e
  exact ⟨fd, fun s v => FunD.bindsA (ps := ["script"]) F (fun _ _ _ _ _ _ us hl => match us, hl with | [_], _ => rfl) s [v] rfl, fun base _ _ => fn_law T F⟩
end K32
open PySem PySem.W PySem.Calls PyProof.Rows
theorem PySem.Challenge.cw_nightsoff_k32_turned_rows_holds : PySem.Challenge.rw_nightsoff_k32_turned_rows.Holds := by
  w_on; o_law
  refine HandSHeadRun.head_any (r := OpenLaw.row PySem.Challenge.rw_nightsoff_k32_turned_rows) (q := view (OpenLaw.row PySem.Challenge.rw_nightsoff_k32_turned_rows).prog [20]) (H := K32.hk) (ob := K32.ob) (M := 20000) (loose := K32.names) (d := HandSHeadRun.topDef (OpenLaw.row PySem.Challenge.rw_nightsoff_k32_turned_rows).prog 20) (kwd := []) K32.ob_eq
    (by kernel_rfl) (fun s => by kernel_rfl) K32.run (by kernel_rfl) (by kernel_rfl) (by kernel_rfl) (by rfl) (by first | assumption | decide +kernel) (by decide +kernel) ⟨rfl, rfl, rfl, rfl, rfl, by decide +kernel⟩ ?hw ?hc
  case hw => w_witness2
  case hc =>
    refine L2.walk_ofX (l := PySem.Challenge.rw_nightsoff_k32_turned_rows) (n := 63) (k := 7) (x := "script") (CX := fun _ => L2.CX0) rfl (by decide) (by kernel_rfl) ⟨rfl, by decide, by decide⟩ ?F (fun _ _ _ _ _ z => z)
    intro w mg fa h Y G hmg0
    obtain ⟨K, KX, c⟩ := Y
    have hmg : mg ("law" : PySem.Str) = some (.ref fa) := by
      have e : (HandSHeadRun.topDef (OpenLaw.row PySem.Challenge.rw_nightsoff_k32_turned_rows).prog 20).name = ("law" : PySem.Str) := by kernel_rfl
      rw [← e]
      exact hmg0
    obtain ⟨fd, hb, hF⟩ := K32.facts (w := w) KX G hmg c
    exact ⟨K, fd, K32.spLaw K, KX, hb, fun H a ns hl _ _ hS => ⟨a, ns, rfl, hS, fun _ => rfl⟩, hF⟩
