import PyProof.Rows.All
import Wide.All
import OpenK.AllK
import Wide.FinOn
import HandS.ForMost
import HandS.IsInst
import HandS.Deep
import HandS.EndBits
import HandS.StrMore
import PyProof.StrBlock
import PyProof.StrLawsChain
import PyProof.FitsStr
import PySem.Challenge.RW_onehistory_k01_names_paths_signs
set_option Elab.async false
set_option linter.all false
set_option maxRecDepth 100000
set_option maxHeartbeats 8000000
section
/-! Defs that keep a promise wherever no repr is under way: their calls, the makings of instances, the end of a law. -/
namespace Hv
open PySem PySem.Spec PyProof.Rows L2

/-- as FnOk, but for callers around whom no guard stands (so that repr may be called within) -/
structure Keeps (P : Program) (w : World) (K : PySem.W.Frag) (mg : Str → Option Value) (base : Heap) (CX : CXT) (k : Nat) (f : Addr) (fd : FuncData) (ps : List Str) (sp : Sp) : Prop where
  many : ∀ vs H Q E, sp vs H Q E → vs.length = ps.length
  go : ∀ (A : Around) (outer : List Env) (s : Shared) (H : Hp) (args : Args) (us : List Value) (vs : List V) (Q : VK) (E : XK),
    Room k A → A.guards = some [] → Env0 P w K mg base A outer s H → BindsTo s fd args (ps.zip us) →
      Vals vs us → sp vs H Q E → codeAny (model P w) A (.call (.ref f) args) (CR CX outer P w H s Q E) s

section
variable {P : Program} {w : World} {K : PySem.W.Frag} {mg : Str → Option Value} {base : Heap} {CX : CXT}
theorem Keeps.up {j k : Nat} {f : Addr} {fd : FuncData} {ps : List Str} {sp : Sp} (F : Keeps P w K mg base CX j f fd ps sp) (h : j ≤ k) : Keeps P w K mg base CX k f fd ps sp :=
  ⟨F.many, fun A outer s H args us vs Q E room => F.go A outer s H args us vs Q E (room.mono h)⟩

/-- a def of the text by its body's walk -/
theorem keeps_of {k : Nat} {f : Addr} {x qual : Str} {st : Stmt} {fd : FuncData} {N ps : List Str} {sp : Sp} (F : Fun K x qual st f fd) (S : FnScope N ps (defScope st))
    (many : ∀ vs H Q E, sp vs H Q E → vs.length = ps.length)
    (walk : ∀ (cdv : Value) (A : Around) (outer : List Env) (s : Shared) (H : Hp) (vs : List V) (Q : VK) (E : XK),
      Room k (A.deeper (envOfC qual (defScope st) s.heap.objs.size f cdv)) → A.guards = some [] → sp vs H Q E →
      ∃ t, PSs (cxOf CX P w K mg base N qual (defScope st) f cdv A outer s H E) (defBody st) t ∧
        t { nx := fun _ H' => Q .non H', rt := Q } (start N vs) H) :
    Keeps P w K mg base CX (k + 1) f fd ps sp := by
  obtain ⟨oc, od, kV, doc, pm, an, cdv, ct, osl, rfl, look, code⟩ := F.ex
  constructor
  · exact many
  · intro A outer s H args us vs Q E room calm env bind vals want
    have size := many _ _ _ _ want
    have inK : K.In s.heap := env.mod.kin.keeps fun b o e => (env.bs b o e).1
    have free : s.heap.NoLimit := env.mod.nolimit.keeps fun b o e => (env.bs b o e).1
    have sorts : ∀ y ∈ ps.zip us, (defScope st).names.lookup y.1 = some .local ∨
        ((defScope st).names.lookup y.1 = some .cell ∧ ((cellsFrom (s.heap.objs.size + 1) (defScope st).names []).lookup y.1).isSome = true) := by
      rintro ⟨n, v⟩ hy
      rcases S.par n (List.of_mem_zip hy).1 with q | q
      · exact Or.inl q
      · exact Or.inr ⟨q, PySem.W.cellsFrom_some _ _ _ (Or.inl q)⟩
    refine codeAny_call_function room.depth (inK _ _ look) rfl S.co S.gen rfl
      (PySem.W.codeRec_of inK code) (bind _ _ _ _ ?_)
    refine wpAny_newFunctionEnv_cells S.kind sorts fun ev hev s1 hx => ?_
    subst hev
    refine ⟨free.keeps hx.toInCall.keep, codeAny_func ?_⟩
    obtain ⟨t, derived, reads⟩ := walk cdv A outer s H vs Q E (room.deeper _) calm want
    have inv := inv_start (CX := CX) (E := E) S room.hd env size vals hx
    refine wpAny_mono (derived.run [] s1 (start N vs) H _ inv reads) ?_ ?_
    · intro fl s' hs
      have stop : ∀ {σ' : L2.St} {H' : Hp} {v : V} {u : Value},
          Inv (cxOf CX P w K mg base N qual (defScope st) f cdv A outer s H E) [] σ' H' s' →
          RelV v u → Q v H' → CE outer P w H s Q u s' := by
        intro σ' H' v u J rv q
        exact ⟨v, H', J.os, J.bare, J.base, J.hok, rv, q⟩
      cases fl with
      | ret u => exact let ⟨v, σ', H', J, rv, q⟩ := hs; stop J rv q
      | next => exact let ⟨σ', H', J, q⟩ := hs; stop (v := V.non) (u := Value.none) J rfl q
      | brk => exact let ⟨_, _, _, q⟩ := hs; q.elim
      | cont => exact let ⟨_, _, _, q⟩ := hs; q.elim
    · exact fun e s' hs => hs
/-- the same where nothing that is raised leaves the def -/
theorem keeps0 {k : Nat} {f : Addr} {x qual : Str} {st : Stmt} {fd : FuncData} {N ps : List Str} {sp : Sp} (F : Fun K x qual st f fd) (S : FnScope N ps (defScope st))
    (many : ∀ vs H Q E, sp vs H Q E → vs.length = ps.length)
    (walk : ∀ (cdv : Value) (A : Around) (outer : List Env) (s : Shared) (H : Hp) (vs : List V) (Q : VK) (E : XK),
      Room k (A.deeper (envOfC qual (defScope st) s.heap.objs.size f cdv)) → A.guards = some [] → sp vs H Q E →
      ∃ t, PSs (cxOf CX0 P w K mg base N qual (defScope st) f cdv A outer s H E).nox (defBody st) t ∧
        t { nx := fun _ H' => Q .non H', rt := Q } (start N vs) H) :
    Keeps P w K mg base CX0 (k + 1) f fd ps sp :=
  keeps_of F S many fun cdv A outer s H vs Q E room calm want => let ⟨t, d, r⟩ := walk cdv A outer s H vs Q E room calm want; ⟨t, d.nox, r⟩
end

section
variable {X : Cx} {CX : CXT} {k : Nat} {f C : Addr} {fd : FuncData} {ps : List Str} {sp : Sp} {dvs : List V} {ds : List Value} {E : XK}
/-- the value of a call of such a def -/
theorem callR_fn (F : Keeps X.prog X.w X.K X.mg X.base CX k f fd ps sp) (room : Room k X.A) (calm : X.A.guards = some []) (bind : Binds X.K fd ps ds) (dv : Vals dvs ds) (pass : Passes CX X E) :
    CallR X (.ref f) (fun vs H Q => sp (vs ++ dvs) H Q E) := by
  intro pins s σ H vs us Q I vals want
  have all : Vals (vs ++ dvs) (us ++ ds) := vals.append dv
  have size : (us ++ ds).length = ps.length := all.length.symm.trans (F.many _ _ _ _ want)
  refine wpAny_call (codeAny_mono (F.go X.A X.stack s H ⟨us, []⟩ (us ++ ds) (vs ++ dvs) Q E room calm I.env0
    (bind s us I.kIn size) all want) ?_)
  intro r s' hr
  rcases r with e | fl
  · exact pass pins σ H s e s' I hr
  · cases fl <;> first | exact I.after hr | exact hr.elim
/-- C(..), an own class with such an __init__ -/
theorem callR_make (M : Mk X.K C f) (F : Keeps X.prog X.w X.K X.mg X.base CX k f fd ps sp) (room : Room (k + 1) X.A) (calm : X.A.guards = some []) (bind : Binds X.K fd ps ds) (dv : Vals dvs ds) (pass : Passes CX X E) :
    CallR X (.ref C) (fun vs H Q => ∀ x dx, H x = none → H dx = none → dx ≠ x →
      sp (.ref x :: (vs ++ dvs)) (upd (upd H dx (.own x)) x (.ins C dx [])) (fun v H2 => v = .non ∧ Q (.ref x) H2) E) := by
  intro pins s σ H vs us Q I vals want
  have at0 := want (s.heap.objs.size + 1) s.heap.objs.size (I.hok.fresh (Nat.le_succ _)) (I.hok.fresh (Nat.le_refl _))
    (Nat.ne_of_lt (Nat.lt_succ_self _))
  have J := Inv.made (C := C) I
  have all : Vals (V.ref (s.heap.objs.size + 1) :: (vs ++ dvs)) (Value.ref (s.heap.objs.size + 1) :: (us ++ ds)) :=
    .cons rfl (vals.append dv)
  have size : (Value.ref (s.heap.objs.size + 1) :: us ++ ds).length = ps.length :=
    (all.length.symm.trans (F.many _ _ _ _ at0) : _)
  have calm2 : (X.A.under (.builtin "type.__call__" ⟨Value.ref C :: us, []⟩)).guards = some [] := by
    show pushGuards (Code.builtin "type.__call__" ⟨Value.ref C :: us, []⟩).guards X.A.guards = some []
    rw [calm]; rfl
  refine wpAny_call (make_map (f := f) I.kIn M.makes M.init (beq_iff_eq.mp M.fn) (codeAny_mono
    (F.go _ X.stack _ _ ⟨Value.ref (s.heap.objs.size + 1) :: us, []⟩ (Value.ref (s.heap.objs.size + 1) :: (us ++ ds)) _ _ E
      (room.make C us []) calm2 (J.env0.make C us []) (bind _ (Value.ref (s.heap.objs.size + 1) :: us) J.kIn size) all at0) ?_))
  intro r s' hr
  rcases r with e | fl
  · exact pass pins σ _ _ e s' J hr
  · cases fl <;> first | exact hr.elim | skip
    obtain ⟨v, H', J2, rv, ev, q⟩ := J.after hr
    subst ev
    exact ⟨rv, ⟨V.ref (s.heap.objs.size + 1), H', J2, rfl, q⟩⟩

variable {x m : Str} {p pos apos : Pos} {e o : Expr} {es : List Expr} {ta : TE} {t : TA} {r : List V → Hp → VK → Prop}
/-- x(e, ..), x a name of the module that holds the thing at f -/
theorem pe_v (c : CallR X (.ref f) r) (hg : Gl X x) (hm : X.mg x = some (.ref f)) (kept : PySem.W.keepIn X.K (.ref f) = true) (ha : PA X (e :: es) t)
    (nd : (x == ("__debug__" : Str)) = false := by decide) (h1 : starEach (e :: es) X.env = (false, eval e X.env) :: starEach es X.env := by rfl)
    (h2 : (backTo pos (starEach es X.env)).any (·.1) = false := by rfl) : PE X (.Call (.Name x p) (e :: es) [] pos) (tCB r t) := by
  constructor
  intro pins s σ H Q I h
  refine wpAny_Call_Name_kw (ld_glob I hg hm ?_ nd)
  refine PySem.W.callWith_K (h₀ := X.base) I.ok.mod.kin kept (thn (ha.run pos pins s σ H _ I h) ?_) h1 h2
  rintro us s1 ⟨vs, H1, J, vals, q⟩
  exact ⟨J.kIn, c pins s1 σ H1 vs us Q J vals q⟩
theorem pe_v0 (c : CallR X (.ref f) r) (hg : Gl X x) (hm : X.mg x = some (.ref f)) (kept : PySem.W.keepIn X.K (.ref f) = true)
    (nd : (x == ("__debug__" : Str)) = false := by decide) : PE X (.Call (.Name x p) [] [] pos) (tCB r tNil) := by
  constructor
  intro pins s σ H Q I h
  refine wpAny_Call_Name_kw (ld_glob I hg hm ?_ nd)
  exact PySem.W.callWith_K0 I.kIn kept (c pins s σ H [] [] Q I .nil h)
/-- o.m(e, ..) of an instance of the class at C -/
def tMth (C : Addr) (m : Str) (r : List V → Hp → VK → Prop) (ta : TE) (t : TA) : TE := fun σ H Q => ta σ H fun x H1 =>
  ∃ a dx fs, x = .ref a ∧ H1 a = some (.ins C dx fs) ∧ fs.lookup m = none ∧ t σ H1 fun vs H2 => r (x :: vs) H2 Q
theorem pe_w {pl : Sem Bool} (he : PE X o ta) (cl : Cls X.K C) (hm : Meth X.K C m f) (c : CallR X (.ref f) r) (ha : PA X (e :: es) t)
    (h1 : starEach (e :: es) X.env = (false, eval e X.env) :: starEach es X.env := by rfl) (h2 : (backTo pos (starEach es X.env)).any (·.1) = false := by rfl)
    (h3 : eval (.Call (.Attribute o m apos) (e :: es) [] pos) X.env = (do
      let ov ← eval o X.env
      standAt apos.atName
      let (g, first) ← holding [ov] (getMethod ov m pl)
      callWith pos g first (backTo pos (starEach (e :: es) X.env)) (backToKw pos (keywordEach [] X.env))) := by rfl) :
    PE X (.Call (.Attribute o m apos) (e :: es) [] pos) (tMth C m r ta t) := by
  constructor
  intro pins s σ H Q I h
  refine PySem.W.methodCall_KW (pl := pl) (thn (he.run pins s σ H _ I h) ?_) h3
  rintro u s1 ⟨y, H1, J, ry, a, dx, fs, rfl, ea, no, q⟩
  cases (show u = Value.ref a from ry)
  refine getmeth_ok J ea cl hm no ?_
  refine PySem.W.callWith_K (first := [.ref a]) (h₀ := X.base) I.ok.mod.kin hm.kp (thn (ha.run pos pins s1 σ H1 _ J q) ?_) h1 h2
  rintro us s2 ⟨vs, H2, J2, vals, q2⟩
  exact ⟨J2.kIn, c pins s2 σ H2 (.ref a :: vs) (.ref a :: us) Q J2 (.cons rfl vals) q2⟩
theorem pe_w0 {pl : Sem Bool} (he : PE X o ta) (cl : Cls X.K C) (hm : Meth X.K C m f) (c : CallR X (.ref f) r)
    (h3 : eval (.Call (.Attribute o m apos) [] [] pos) X.env = (do
      let ov ← eval o X.env
      standAt apos.atName
      let (g, first) ← holding [ov] (getMethod ov m pl)
      callWith pos g first (backTo pos (starEach [] X.env)) (backToKw pos (keywordEach [] X.env))) := by rfl) :
    PE X (.Call (.Attribute o m apos) [] [] pos) (tMth C m r ta tNil) := by
  constructor
  intro pins s σ H Q I h
  refine PySem.W.methodCall_KW (pl := pl) (thn (he.run pins s σ H _ I h) ?_) h3
  rintro u s1 ⟨y, H1, J, ry, a, dx, fs, rfl, ea, no, q⟩
  cases (show u = Value.ref a from ry)
  refine getmeth_ok J ea cl hm no ?_
  exact PySem.W.callWith_K0 (first := [.ref a]) J.kIn hm.kp (c pins s1 σ H1 [.ref a] [.ref a] Q J (.cons rfl .nil) q)
end
end Hv
end

section
namespace Hv
open PySem PySem.Spec PyProof.Rows L2
section
variable {P : Program} {w : World} {K : PySem.W.Frag} {mg mb : Str → Option Value} {k : Nat} {fa a : Addr} {fd : FuncData} {x : Str} {sp : Sp} {s₁ : Shared} {vs : List Value} {ns : List Int}
/-- the law's call, from the heap behind the top, over an abstract heap that bears the script at most -/
theorem call_over (inK : K.In s₁.heap) (globs : s₁.heap.Ns mainGlobals mg) (blt : s₁.heap.Ns builtinsNs mb) (boot : ∀ x : Str, x ≠ "__name__" → mb x = bootBuiltins x)
    (free : s₁.heap.NoLimit) (nogens : s₁.gens = #[]) (obj : s₁.heap.get? a = some { cls := .type "list", data := .seq vs.toArray }) (room : Room k callerA)
    (F : ∀ base : Heap, K.In base → base.Ns mainGlobals mg → Keeps P w K mg base CX0 k fa fd [x] sp)
    (bind : ∀ (s : Shared) (u : Value), BindsTo s fd ⟨[u], []⟩ [(x, u)])
    (H : Hp) (only : Only H) (ok : HOk P w H s₁.heap) (alone : ∀ b, H b ≠ none → b = a) (apart : H a ≠ none → K.lookup a = none)
    (want : sp [.ref a] H (fun v _ => v = .bl true) E0) :
    codeAny (model P w) callerA (.call (.ref fa) ⟨[.ref a], []⟩)
      (fun r s' => r = .ok (.ret (.bool true)) ∧ OldK s₁.heap s'.heap ∧ s'.os = s₁.os ∧ AllBare s'.gens) s₁ := by
  have keep : ∀ {b : Addr} {o : Obj}, s₁.heap.get? b = some o → H b = none → (hidT s₁.heap H).get? b = some o :=
    fun e n => hidT_get e n
  have plain : ∀ {b : Addr} {o : Obj} {es : Array DictEntry} {ep : Nat}, s₁.heap.get? b = some o → o.data = .dict es ep → H b = none := by
    intro b o es ep e d
    by_cases hb : H b = none
    · exact hb
    · obtain rfl := alone b hb
      rw [obj] at e
      cases e
      cases (show Data.seq vs.toArray _ = Data.dict es ep from d)
  have names : ∀ {b : Addr} {m : Str → Option Value}, s₁.heap.Ns b m → (hidT s₁.heap H).Ns b m := by
    rintro b m ⟨o, es, ep, e, d, r⟩
    exact ⟨o, es, ep, keep e (plain e d), d, r⟩
  have inBase : K.In (hidT s₁.heap H) := by
    intro b o e
    refine keep (inK b o e) ?_
    by_cases hb : H b = none
    · exact hb
    · have eb := alone b hb
      subst eb
      rw [apart hb] at e
      cases e
  have limit : (hidT s₁.heap H).NoLimit := let ⟨mc, h1, h2⟩ := free; ⟨mc, names h1, h2⟩
  have md : Mod K mg (hidT s₁.heap H) := ⟨inBase, names globs, ⟨mb, names blt, boot⟩, limit⟩
  have env : Env0 P w K mg (hidT s₁.heap H) callerA [] s₁ H :=
    { frames := rfl, mod := md, bs := fun b o e => of_hidT e, bsz := Nat.le_of_eq (hidT_size _ _), funs := trivial,
      frf := fun b hb => absurd (show b ∈ ([] : List Addr) from hb) (by simp), hok := ok, bare := .of_eq nogens }
  refine codeAny_mono ((F _ inBase (names globs)).go callerA [] s₁ H ⟨[.ref a], []⟩ [.ref a] [.ref a] _ _ room rfl env
    (bind s₁ (.ref a)) (.cons rfl .nil) want) ?_
  intro r s' hr
  rcases r with e | fl
  · exact hr.elim
  · cases fl <;> first | exact hr.elim | skip
    obtain ⟨v, H', os, bare, un, ok', rv, q⟩ := hr
    subst q
    cases (show _ = Value.bool true from rv)
    refine ⟨rfl, OldK.of_keep ?_, os, bare⟩
    intro b o e
    rcases only b with z | ⟨ob, xs, z⟩
    · exact un.keep b o e z (by intro y; exact absurd (show b ∈ ([] : List Addr) from y) (by simp)) (by simp)
    · have old := (ok b _ z).1
      have new := (ok' b _ (un.frzs b ob _ z)).1
      rw [e] at old
      cases old
      exact new
/-- the same, the abstract heap made here -/
theorem call_law (inK : K.In s₁.heap) (globs : s₁.heap.Ns mainGlobals mg) (blt : s₁.heap.Ns builtinsNs mb) (boot : ∀ x : Str, x ≠ "__name__" → mb x = bootBuiltins x)
    (free : s₁.heap.NoLimit) (nogens : s₁.gens = #[]) (obj : s₁.heap.get? a = some { cls := .type "list", data := .seq vs.toArray }) (areInts : IntsAre vs ns)
    (few : ns.length ≤ sizeLine) (room : Room k callerA)
    (F : ∀ base : Heap, K.In base → base.Ns mainGlobals mg → Keeps P w K mg base CX0 k fa fd [x] sp)
    (bind : ∀ (s : Shared) (u : Value), BindsTo s fd ⟨[u], []⟩ [(x, u)])
    (want : ∀ H : Hp, Only H → SqL K H a (ns.map V.int) → sp [.ref a] H (fun v _ => v = .bl true) E0) :
    codeAny (model P w) callerA (.call (.ref fa) ⟨[.ref a], []⟩)
      (fun r s' => r = .ok (.ret (.bool true)) ∧ OldK s₁.heap s'.heap ∧ s'.os = s₁.os ∧ AllBare s'.gens) s₁ := by
  have rv := vals_ints areInts
  have size := areInts.length
  have go := fun H only sq ok alone apart => call_over inK globs blt boot free nogens obj room F bind H only ok alone apart (want H only sq)
  by_cases hk : ∃ o, K.lookup a = some o
  · obtain ⟨o, hk⟩ := hk
    have e := inK a o hk
    rw [obj] at e
    cases e
    refine go (fun _ => none) (fun _ => Or.inl rfl) ?_ ?_ (fun b z => absurd rfl z) (fun z => absurd rfl z)
    · refine Or.inr ⟨_, vs.toArray, _, hk, rfl, rfl, rfl, ?_, ?_⟩
      · rw [List.size_toArray, size]; exact few
      · simpa using rv
    · intro b u z
      cases (show (none : Option HO) = some u from z)
  · have hk' : K.lookup a = none := by
      cases h : K.lookup a with
      | none => rfl
      | some o => exact absurd ⟨o, h⟩ hk
    let ob : Obj := { cls := .type "list", data := .seq vs.toArray }
    let H : Hp := fun b => if b = a then some (.frz ob (.lst (ns.map V.int))) else none
    have at_a : H a = some (.frz ob (.lst (ns.map V.int))) := if_pos rfl
    have off_a : ∀ {b}, b ≠ a → H b = none := fun h => if_neg h
    refine go H (fun b => ?_) (Or.inl (Or.inr ⟨ob, at_a⟩)) (fun b u z => ?_) (fun b z => ?_) fun _ => hk'
    · by_cases hb : b = a
      · subst hb; exact Or.inr ⟨_, _, at_a⟩
      · exact Or.inl (off_a hb)
    · by_cases hb : b = a
      · subst hb
        rw [at_a] at z
        cases z
        exact ⟨obj, by rw [List.length_map]; exact few, vs, _, rv, obj⟩
      · rw [off_a hb] at z; cases z
    · by_cases hb : b = a
      · exact hb
      · exact absurd (off_a hb) z
end
/-- the end: a law's row from the promise of its def -/
theorem walkK {l : PySem.W.OpenLaw} {n k : Nat} {q : Program} {loose : List Str} {XP : (Str → Option Value) → Heap → Prop} {YP : World → Heap → Prop} {d : DefRec} {K : Params → PySem.W.Frag} {sp : PySem.W.Frag → Sp} {x : Str}
    (hn : l.most = some n) (few : n ≤ sizeLine) (plain : d.params.defaults = []) (room : Room k callerA)
    (hY : ∀ (w : World) (h : Heap), YP w h → (K w.params).In h)
    (F : ∀ (w : World) (mg : Str → Option Value) (fa : Addr) (h : Heap), (K w.params).In h → h.Ns mainGlobals mg → mg d.name = some (.ref fa) →
      ∃ fd : FuncData, (∀ (s : Shared) (u : Value), BindsTo s fd ⟨[u], []⟩ [(x, u)]) ∧
        ∀ base : Heap, (K w.params).In base → base.Ns mainGlobals mg → Keeps l.prog w (K w.params) mg base CX0 k fa fd [x] (sp (K w.params)))
    (want : ∀ (K : PySem.W.Frag) (H : Hp) (a : Addr) (ns : List Int), ns.length ≤ n → (∀ i ∈ ns, Builtin.Int.intBits i ≤ 1048576) → Only H → SqL K H a (ns.map V.int) → sp K [.ref a] H (fun v _ => v = .bl true) E0) :
    PySem.W.WalkO q loose XP YP l.row.toRowW d [] (fun f vs => PySem.call f vs) := by
  refine Att.attach_callB hn plain fun w s₀ s₁ mg mb fa o pm cd doc a vs ns G Y ho hd hcd hmg hobj hints hlen bits hg => ?_
  have inK := hY w _ Y
  obtain ⟨fd, bind, keeps⟩ := F w mg fa _ inK G.T.g hmg
  exact call_law inK G.T.g G.T.b G.T.builtins G.T.nolimit hg hobj hints (Nat.le_trans hlen few) room keeps bind
    fun H only sq => want _ H a ns hlen bits only sq
end Hv
end

section
/-! Rules of our own: order of texts, repr of data, kinds of values, comprehensions that keep and change items. -/
namespace Hv
open PySem PySem.Spec PyProof.Rows L2
section
variable {X : Cx}
theorem op_leS : OpR X (compareOp .LtE) (fun x y H Q => ∃ i j, x = .str i ∧ y = .str j ∧ Q (.bl (!decide (j.cps.toList < i.cps.toList))) H) := by
  intro pins s σ H x y v u Q I rx ry h
  obtain ⟨i, j, rfl, rfl, q⟩ := h
  obtain ⟨t, rfl⟩ := rx
  obtain ⟨t', rfl⟩ := ry
  exact PySem.P.le_str ⟨.bl _, H, I, rfl, q⟩

/-- data of the heap: as Dp, with dicts whose keys are ints and texts -/
inductive Da (K : PySem.W.Frag) (H : Hp) : V → PyData → Prop
  | dp {v : V} {d : PyData} : Dp K H v d → Da K H v d
/-- repr of a list or tuple of data -/
theorem call_reprD (calm : X.A.guards = some []) (hu : X.A.units + 70 < cLine) : CallR X (.builtin "repr") (fun xs H Q => ∃ (a : Addr) (d : PyData),
    xs = [.ref a] ∧ Dp X.K H (.ref a) d ∧ d.showable = true ∧ d.hasDict = false ∧ d.depth ≤ 60 ∧ d.shown.length ≤ sizeLine ∧ Q (.str d.shown) H) := by
  intro pins s σ H xs us Q I r h
  obtain ⟨a, d, rfl, dp, sh, nd, dep, sz, q⟩ := h
  obtain ⟨u, rfl, ru⟩ := Vals.one r
  cases (show u = Value.ref a from ru)
  obtain ⟨as, rd⟩ := Dp.reads I d (.ref a) (.ref a) dp rfl
  refine repr_of_reads' rd sh (fun z => by rw [nd] at z; cases z) calm (by omega) (fun _ _ e => e) ?_ sz
  intro h' tk n k
  exact ⟨.str d.shown, H, I.kept (t' := n) k, ⟨_, rfl⟩, q⟩
end
/-- a value is the text told, or of another kind than a text -/
inductive Kd (K : PySem.W.Frag) (H : Hp) : V → Option Str → Prop
  | str (z : Str) : Kd K H (.str z) (some z)
  | oth {x : V} {t : Value} (ty : TyX K H x t) (no : PySem.W.kitOne K t (.type "str") = some false) : Kd K H x none
/-- isinstance(x, str) -/
theorem Kd.ty {K : PySem.W.Frag} {H : Hp} {x : V} {o : Option Str} (h : Kd K H x o) : ∃ t, TyX K H x t ∧ PySem.W.kitOne K t (.type "str") = some o.isSome := by
  cases h with
  | str z => exact ⟨_, .base (.str z), kit_ty (show kitB "str" "str" = some true by decide +kernel)⟩
  | oth ty no => exact ⟨_, ty, no⟩
theorem same_ty {K : PySem.W.Frag} {H H' : Hp} {x : V} {t : Value} (s : Same H H') (h : TyX K H x t) : TyX K H' x t := by
  cases h with
  | base b =>
    refine .base ?_
    cases b with
    | non => exact .non
    | bl y => exact .bl y
    | int i => exact .int i
    | str y => exact .str y
    | flt y => exact .flt y
    | lst e => exact .lst (s _ _ e)
    | frz e => exact .frz (s _ _ e)
    | tup e => exact .tup (s _ _ e)
    | dK e => exact .dK (s _ _ e)
    | dT e => exact .dT (s _ _ e)
    | ins e a b c d f => exact .ins (s _ _ e) a b c d f
  | byt b => exact .byt b
  | set e => exact .set (s _ _ e)
  | kList e c => exact .kList e c
  | kTuple e c => exact .kTuple e c
  | kDict e c => exact .kDict e c
  | fTuple e => exact .fTuple (s _ _ e)
  | fDict e => exact .fDict (s _ _ e)
theorem same_kd {K : PySem.W.Frag} {H H' : Hp} {x : V} {o : Option Str} (s : Same H H') (h : Kd K H x o) : Kd K H' x o := by
  cases h with
  | str z => exact .str z
  | oth ty no => exact .oth (same_ty s ty) no
theorem same_new {H : Hp} {p : Addr} {o : HO} (h : H p = none) : Same H (upd H p o) := fun b u e => by
  rw [upd_ne (ne_of_none e h)]; exact e
theorem same_put {H H' : Hp} {D : Addr} {o : HO} (s : Same H H') (h : H D = none) : Same H (upd H' D o) := fun b u e => by
  rw [upd_ne (ne_of_none e h)]; exact s b u e

/-- a comprehension that walks a text and makes of each sign a value by f, or leaves it out -/
theorem lc_text {x : Str} {f : Nat → Option V} {g : TG} {tt : TT} {te : TE} {vs : List Nat} {σ : L2.St} {H1 : Hp} {D : Addr} {Qd : Hp → Prop}
    (new : H1 D = none) (short : x.cps.size < sizeLine)
    (turn : ∀ (c : Nat) (H : Hp) (Post : Bool → V → Hp → Prop), Same H1 H →
      (∀ y H4, f c = some y → Same H H4 → Post true y H4) → (∀ H4, f c = none → Same H H4 → Post false .non H4) →
      g (.str ⟨#[c]⟩) (wipe σ vs) H fun σ2 H2 => wipe σ2 vs = wipe σ vs ∧ tt σ2 H2 fun b H3 => if b = true then te σ2 H3 fun y H4 => Post true y H4 else Post false .non H3)
    (done : ∀ H, Same H1 H → H D = some (.lst (x.cps.toList.filterMap f)) → Qd H) :
    ∃ W : Nat → Nat → Hp → Prop, (∃ m, W 0 m (upd H1 D (.lst []))) ∧ ∀ i m H, W i m H →
      ((Its x).stop i H ∧ Qd H) ∨ ((Its x).go i H ∧ ∃ Nx : Hp → Prop, (∀ H', Nx H' → ∃ m', m' < m ∧ W (i + 1) m' H') ∧ ∀ v H', (Its x).yld i H v H' → g v (wipe σ vs) H' fun σ2 H2 => wipe σ2 vs = wipe σ vs ∧ tt σ2 H2 fun b H3 =>
        if b = true then te σ2 H3 fun y H4 => ∃ acc, H4 D = some (.lst acc) ∧ acc.length < sizeLine ∧ Nx (upd H4 D (.lst (acc ++ [y]))) else Nx H3) := by
  refine ⟨fun i m H => m = x.cps.size - i ∧ i ≤ x.cps.size ∧ Same H1 H ∧ H D = some (.lst ((x.cps.toList.take i).filterMap f)), ⟨_, rfl, Nat.zero_le _, ?_, ?_⟩, ?_⟩
  · exact same_new new
  · exact upd_same
  · rintro i m H ⟨rfl, hi, sm, at_D⟩
    by_cases lt : i < x.cps.size
    · refine .inr ⟨lt, fun H => Same H1 H ∧ H D = some (.lst ((x.cps.toList.take (i + 1)).filterMap f)), fun H' q => ⟨_, by omega, rfl, lt, q⟩, ?_⟩
      rintro v H' ⟨rfl, c, hc, rfl⟩
      have hc' : x.cps.toList[i]? = some c := by simpa using hc
      have step : (x.cps.toList.take (i + 1)).filterMap f = (x.cps.toList.take i).filterMap f ++ (match f c with | some y => [y] | none => []) := by
        rw [List.take_add_one, hc', Option.toList_some, List.filterMap_append]
        cases e : f c <;> simp [List.filterMap, e]
      have small : ((x.cps.toList.take i).filterMap f).length < sizeLine := by
        refine Nat.lt_of_le_of_lt (List.length_filterMap_le _ _) (Nat.lt_of_le_of_lt ?_ short)
        rw [List.length_take]
        simp only [Array.length_toList]
        omega
      refine turn c H' (fun b y H4 => if b = true then ∃ acc, H4 D = some (.lst acc) ∧ acc.length < sizeLine ∧ (Same H1 (upd H4 D (.lst (acc ++ [y]))) ∧ upd H4 D (.lst (acc ++ [y])) D = some (.lst ((x.cps.toList.take (i + 1)).filterMap f))) else (Same H1 H4 ∧ H4 D = some (.lst ((x.cps.toList.take (i + 1)).filterMap f)))) sm ?_ ?_
      · intro y H4 e k
        rw [if_pos rfl]
        refine ⟨_, k _ _ at_D, small, same_put (sm.trans k) new, ?_⟩
        rw [upd_same, step, e]
      · intro H4 e k
        rw [if_neg (by decide)]
        refine ⟨sm.trans k, ?_⟩
        rw [k _ _ at_D, step, e, List.append_nil]
    · have e : i = x.cps.size := by omega
      subst e
      refine .inl ⟨Nat.le_refl _, done H sm ?_⟩
      rw [at_D]
      congr 3
      exact List.take_of_length_le (by simp)
end Hv
end

section
/-! Texts: pieces, the stroke ahead, single signs. -/
namespace Hv
open PySem PySem.Spec PyProof.Rows L2
theorem str_ext {a b : Str} (h : a.cps.toList = b.cps.toList) : a = b := by
  obtain ⟨⟨a⟩⟩ := a
  obtain ⟨⟨b⟩⟩ := b
  simp only at h
  rw [h]
theorem str_len (z : Str) : z.length = z.cps.toList.length := by simp [Str.length]
theorem parts_short (x : Str) (w : Nat) : ∀ (cuts : List Nat) (a : Nat), ∀ p ∈ StrLaws.partsFrom x w a cuts, p.length ≤ x.length
  | [], a, p, h => by
    rw [show p = Builtin.Str.strSub x a x.length by simpa [StrLaws.partsFrom] using h]
    exact le_strSub x a x.length
  | c :: r, a, p, h => by
    rcases List.mem_cons.mp (show p ∈ Builtin.Str.strSub x a c :: StrLaws.partsFrom x w (c + w) r from h) with e | e
    · rw [e]; exact le_strSub x a c
    · exact parts_short x w r _ p e
theorem split_short (x y : Str) : ∀ p ∈ Txt.split x y, p.length ≤ x.length := by
  intro p h
  unfold Txt.split at h
  split at h
  · rw [show p = x by simpa using h]; exact Nat.le_refl _
  · split at h
    · rw [show p = x by simpa using h]; exact Nat.le_refl _
    · rw [StrLaws.partsBetween_eq] at h
      exact parts_short x _ _ _ p h
/-- a stroke stands ahead -/
def slash (z : Str) : Bool := decide (z.cps.toList.head? = some 47)
def unslash (z : Str) : Str := ⟨(z.cps.toList.drop (if slash z then 1 else 0)).toArray⟩
theorem code_slash : (Str.ofString "/") = (⟨#[47]⟩ : Str) := by decide +kernel
theorem head_get {α : Type} (l : List α) : l[0]? = l.head? := by cases l <;> rfl
theorem sub_slash (z : Str) : Builtin.Str.subAt z (⟨#[47]⟩ : Str) 0 = slash z := by
  have q := StrLaws.subAt_one z 47 0
  rw [head_get] at q
  rw [Bool.eq_iff_iff]
  unfold slash
  rw [decide_eq_true_iff, ← q]
  constructor
  · intro h
    refine ⟨?_, h⟩
    rw [StrLaws.subAt_eq] at h
    have h' : ((z.cps.toList.drop 0).take 1 == [47]) = true := h
    have e2 := str_len z
    cases e : z.cps.toList with
    | nil => rw [e] at h'; cases h'
    | cons c r =>
      rw [e, List.length_cons] at e2
      show 0 + 1 ≤ z.length
      omega
  · exact fun h => h.2
theorem take_tail (z : Str) : List.take (z.cps.size - 1) z.cps.toList.tail = z.cps.toList.tail :=
  List.take_of_length_le (by simp)
/-- removeprefix('/') -/
theorem prefix_slash (z : Str) : Txt.removeprefix z (Str.ofString "/") = unslash z := by
  rw [code_slash]
  unfold Txt.removeprefix unslash
  rw [sub_slash]
  cases h : slash z with
  | false => exact str_ext (by simp [Txt.affix])
  | true =>
    refine str_ext ?_
    rw [if_pos rfl]
    show (if (z.length - 1 == z.length) = true then z else Builtin.Str.strSub z 1 z.length).cps.toList = _
    have ne : z.length ≠ 0 := by
      intro e
      have q := of_decide_eq_true h
      rw [str_len] at e
      rw [List.length_eq_zero_iff.mp e] at q
      cases q
    rw [if_neg (by rw [beq_iff_eq]; omega)]
    simp [Builtin.Str.strSub, Str.length, take_tail]
/-- z[int(z[:1] == '/'):] -/
theorem cut_slash (z : Str) : cutS z (some (if slash z then (1 : Int) else 0)) none = unslash z := by
  refine str_ext ?_
  unfold cutS unslash
  cases h : slash z with
  | false =>
    simp only [Bool.false_eq_true, if_false]
    show ((z.cps.toList.drop (HT.sIx z.length 0 (some ((0 : Nat) : Int)))).take (HT.sIx z.length z.length none - HT.sIx z.length 0 (some ((0 : Nat) : Int)))).toArray.toList = _
    rw [HT.sIx_nat, HT.sIx_none, Nat.zero_min]
    simp [str_len, List.take_of_length_le]
  | true =>
    simp only [if_true]
    show ((z.cps.toList.drop (HT.sIx z.length 0 (some ((1 : Nat) : Int)))).take (HT.sIx z.length z.length none - HT.sIx z.length 0 (some ((1 : Nat) : Int)))).toArray.toList = _
    rw [HT.sIx_nat, HT.sIx_none]
    have ne : 1 ≤ z.length := by
      have q := of_decide_eq_true h
      rw [str_len]
      cases e : z.cps.toList with
      | nil => rw [e] at q; cases q
      | cons c r => simp
    rw [show min 1 z.length = 1 by omega]
    simp [str_len, take_tail]
/-- z[:1] == '/' -/
theorem first_slash (z : Str) : decide (cutS z none (some 1) = (Str.ofString "/")) = slash z := by
  rw [code_slash]
  unfold slash
  refine decide_eq_decide.mpr ?_
  have e : (cutS z none (some 1)).cps.toList = z.cps.toList.take 1 := by
    unfold cutS
    show ((z.cps.toList.drop (HT.sIx z.length 0 none)).take (HT.sIx z.length z.length (some ((1 : Nat) : Int)) - HT.sIx z.length 0 none)).toArray.toList = _
    rw [HT.sIx_nat, HT.sIx_none, str_len]
    cases z.cps.toList <;> simp
  constructor
  · intro q
    rw [q] at e
    cases h : z.cps.toList with
    | nil => rw [h] at e; simp at e
    | cons c r => rw [h] at e; simpa using e.symm
  · intro q
    refine str_ext ?_
    rw [e]
    cases h : z.cps.toList with
    | nil => rw [h] at q; cases q
    | cons c r => rw [h] at q; simpa using q
theorem unslash_short (z : Str) : (unslash z).length ≤ z.length := by
  rw [str_len, str_len]
  show (z.cps.toList.drop _).length ≤ _
  rw [List.length_drop]
  omega
theorem sub_codes (x : Str) (i j : Nat) : ∀ c ∈ (Builtin.Str.strSub x i j).cps.toList, c ∈ x.cps.toList := by
  intro c h
  have e : (Builtin.Str.strSub x i j).cps.toList = (x.cps.toList.drop i).take (j - i) := by simp [Builtin.Str.strSub]
  rw [e] at h
  exact List.mem_of_mem_drop (List.mem_of_mem_take h)
theorem parts_codes (x : Str) (w : Nat) : ∀ (cuts : List Nat) (a : Nat), ∀ p ∈ StrLaws.partsFrom x w a cuts, ∀ c ∈ p.cps.toList, c ∈ x.cps.toList
  | [], a, p, h => by
    rw [show p = Builtin.Str.strSub x a x.length by simpa [StrLaws.partsFrom] using h]
    exact sub_codes x a x.length
  | c :: r, a, p, h => by
    rcases List.mem_cons.mp (show p ∈ Builtin.Str.strSub x a c :: StrLaws.partsFrom x w (c + w) r from h) with e | e
    · rw [e]; exact sub_codes x a c
    · exact parts_codes x w r _ p e
theorem split_codes (x y : Str) : ∀ p ∈ Txt.split x y, ∀ c ∈ p.cps.toList, c ∈ x.cps.toList := by
  intro p h
  unfold Txt.split at h
  split at h
  · rw [show p = x by simpa using h]; exact fun _ h => h
  · split at h
    · rw [show p = x by simpa using h]; exact fun _ h => h
    · rw [StrLaws.partsBetween_eq] at h
      exact parts_codes x _ _ _ p h
theorem unslash_codes (z : Str) : ∀ c ∈ (unslash z).cps.toList, c ∈ z.cps.toList := fun c h => List.mem_of_mem_drop (show c ∈ z.cps.toList.drop _ from h)
end Hv
end

section
namespace Hv
open PySem PySem.Spec PyProof.Rows L2
/-- what is walked gives these items, whatever comes beside what is tracked at H1 -/
structure Gives (J : It) (H1 : Hp) (items : List V) : Prop where
  go : ∀ i H, Same H1 H → i < items.length → J.go i H
  yld : ∀ i H x H', Same H1 H → J.yld i H x H' → i < items.length → H' = H ∧ items[i]? = some x
  stop : ∀ H, Same H1 H → J.stop items.length H
theorem gives_list {K : PySem.W.Frag} {H : Hp} {a : Addr} {xs : List V} (h : SqL K H a xs) : Hv.Gives (Itl K a) H xs where
  go := fun i H' s lt => ⟨xs, xs[i], s.seq h, by simp [lt]⟩
  yld := fun i H' x H'' s y lt => ⟨y.1, y.2 xs (s.seq h)⟩
  stop := fun H' s => ⟨xs, s.seq h, Nat.le_refl _⟩
theorem same_tup {K : PySem.W.Frag} {H H' : Hp} {a : Addr} {xs : List V} (e : Same H H') (h : SqT K H a xs) : SqT K H' a xs := by
  rcases h with (h | ⟨o, h⟩) | h
  · exact Or.inl (Or.inl (e _ _ h))
  · exact Or.inl (Or.inr ⟨o, e _ _ h⟩)
  · exact Or.inr h
theorem gives_tup {K : PySem.W.Frag} {H : Hp} {a : Addr} {xs : List V} (h : SqT K H a xs) : Hv.Gives (Itt K a) H xs where
  go := fun i H' s lt => ⟨xs, xs[i], same_tup s h, by simp [lt]⟩
  yld := fun i H' x H'' s y lt => ⟨y.1, y.2 xs (same_tup s h)⟩
  stop := fun H' s => ⟨xs, same_tup s h, Nat.le_refl _⟩
theorem gives_rng {H : Hp} {lo : Int} {n : Nat} : Hv.Gives (Itr lo n) H ((List.range n).map fun (i : Nat) => V.int (lo + (i : Int))) where
  go := fun i H' s lt => by show i < n; simpa using lt
  yld := fun i H' x H'' s y lt => ⟨y.1, by rw [y.2]; simp at lt; simp [lt]⟩
  stop := fun H' s => by show n ≤ _; simp
theorem gives_text {H : Hp} {z : Str} : Hv.Gives (Its z) H (z.cps.toList.map fun c => V.str ⟨#[c]⟩) where
  go := fun i H' s lt => by show i < z.cps.size; simpa using lt
  yld := fun i H' x H'' s y lt => by
    obtain ⟨e, c, hc, rfl⟩ := y
    refine ⟨e, ?_⟩
    rw [List.getElem?_map, show z.cps.toList[i]? = some c by simpa using hc]; rfl
  stop := fun H' s => by show z.cps.size ≤ _; simp
/-- a comprehension: of each item f's value, or it is left out -/
theorem lc_any {J : It} {items : List V} {f : V → Option V} {g : TG} {tt : TT} {te : TE} {vs : List Nat} {σ : L2.St} {H1 : Hp} {D : Addr} {Qd : Hp → Prop}
    (gives : Hv.Gives J H1 items) (new : H1 D = none) (short : items.length ≤ sizeLine)
    (turn : ∀ (x : V) (H : Hp) (Post : Bool → V → Hp → Prop), x ∈ items → Same H1 H →
      (∀ y H4, f x = some y → Same H H4 → Post true y H4) → (∀ H4, f x = none → Same H H4 → Post false .non H4) →
      g x (wipe σ vs) H fun σ2 H2 => wipe σ2 vs = wipe σ vs ∧ tt σ2 H2 fun b H3 => if b = true then te σ2 H3 fun y H4 => Post true y H4 else Post false .non H3)
    (done : ∀ H, Same H1 H → H D = some (.lst (items.filterMap f)) → Qd H) :
    ∃ W : Nat → Nat → Hp → Prop, (∃ m, W 0 m (upd H1 D (.lst []))) ∧ ∀ i m H, W i m H →
      (J.stop i H ∧ Qd H) ∨ (J.go i H ∧ ∃ Nx : Hp → Prop, (∀ H', Nx H' → ∃ m', m' < m ∧ W (i + 1) m' H') ∧ ∀ v H', J.yld i H v H' → g v (wipe σ vs) H' fun σ2 H2 => wipe σ2 vs = wipe σ vs ∧ tt σ2 H2 fun b H3 =>
        if b = true then te σ2 H3 fun y H4 => ∃ acc, H4 D = some (.lst acc) ∧ acc.length < sizeLine ∧ Nx (upd H4 D (.lst (acc ++ [y]))) else Nx H3) := by
  refine ⟨fun i m H => m = items.length - i ∧ i ≤ items.length ∧ Same H1 H ∧ H D = some (.lst ((items.take i).filterMap f)), ⟨_, rfl, Nat.zero_le _, same_new new, upd_same⟩, ?_⟩
  rintro i m H ⟨rfl, hi, sm, at_D⟩
  by_cases lt : i < items.length
  · refine .inr ⟨gives.go i H sm lt, fun H => Same H1 H ∧ H D = some (.lst ((items.take (i + 1)).filterMap f)), fun H' q => ⟨_, by omega, rfl, lt, q⟩, ?_⟩
    intro v H' y
    obtain ⟨rfl, hv⟩ := gives.yld i H v H' sm y lt
    have step : (items.take (i + 1)).filterMap f = (items.take i).filterMap f ++ (match f v with | some y => [y] | none => []) := by
      rw [List.take_add_one, hv, Option.toList_some, List.filterMap_append]
      cases e : f v <;> simp [List.filterMap, e]
    have small : ((items.take i).filterMap f).length < sizeLine := by
      refine Nat.lt_of_le_of_lt (List.length_filterMap_le _ _) (Nat.lt_of_lt_of_le ?_ short)
      rw [List.length_take]
      omega
    refine turn v H' (fun b y H4 => if b = true then ∃ acc, H4 D = some (.lst acc) ∧ acc.length < sizeLine ∧ (Same H1 (upd H4 D (.lst (acc ++ [y]))) ∧ upd H4 D (.lst (acc ++ [y])) D = some (.lst ((items.take (i + 1)).filterMap f))) else (Same H1 H4 ∧ H4 D = some (.lst ((items.take (i + 1)).filterMap f)))) (List.mem_of_getElem? hv) sm ?_ ?_
    · intro y H4 e k
      rw [if_pos rfl]
      refine ⟨_, k _ _ at_D, small, same_put (sm.trans k) new, ?_⟩
      rw [upd_same, step, e]
    · intro H4 e k
      rw [if_neg (by decide)]
      refine ⟨sm.trans k, ?_⟩
      rw [k _ _ at_D, step, e, List.append_nil]
  · have e : i = items.length := by omega
    subst e
    refine .inl ⟨gives.stop H sm, done H sm ?_⟩
    rw [at_D, List.take_of_length_le (Nat.le_refl _)]
theorem pi_or {X : Cx} {tg e : Expr} {w1 w2 : TI} (h1 : PI X tg e w1) (h2 : PI X tg e w2) : PI X tg e (fun σ H R => w1 σ H R ∨ w2 σ H R) := by
  constructor
  intro pins s σ H R I h
  exact h.elim (h1.run pins s σ H R I) (h2.run pins s σ H R I)

end Hv
end

section
/-! Lists of texts beside the empty list. -/
namespace Hv
open PySem PySem.Spec PyProof.Rows L2
def Tx (n : Nat) (z : Str) : Prop := z.cps.size ≤ n ∧ ∀ c ∈ z.cps.toList, c < 128
theorem Tx.ok {n : Nat} {z : Str} (h : Tx n z) : PyData.strOk z = true := by
  unfold PyData.strOk
  rw [← Array.all_toList, List.all_eq_true]
  intro c hc
  have := h.2 c hc
  exact decide_eq_true (by omega)
theorem Tx.up {n m : Nat} {z : Str} (h : Tx n z) (le : n ≤ m) : Tx m z := ⟨Nat.le_trans h.1 le, h.2⟩
theorem dp_strs {K : PySem.W.Frag} {H : Hp} : ∀ zs : List Str, DpAll K H (zs.map V.str) (zs.map PyData.str)
  | [] => .nil
  | z :: r => .cons (.str z) (dp_strs r)
theorem lay_strs : ∀ zs : List Str, (∀ z ∈ zs, PyData.strOk z = true) → PyData.canLayAll0 (zs.map PyData.str) = true
  | [], _ => by simp only [List.map_nil, PyData.canLayAll0]
  | z :: r, h => by
    simp only [List.map_cons, PyData.canLayAll0, PyData.canLay0, Bool.and_eq_true]
    exact ⟨h z (List.mem_cons_self ..), lay_strs r fun y hy => h y (List.mem_cons_of_mem _ hy)⟩
theorem deep_strs : ∀ zs : List Str, PyData.depthAll (zs.map PyData.str) = 0
  | [] => by simp only [List.map_nil, PyData.depthAll]
  | z :: r => by simp only [List.map_cons, PyData.depthAll, PyData.depth, deep_strs r]; rfl
theorem shaped_strs {zs : List Str} (h : ∀ z ∈ zs, PyData.strOk z = true) : SeqAt.shaped (.list (zs.map PyData.str)) = true := by
  unfold SeqAt.shaped
  rw [Bool.and_eq_true]
  refine ⟨by simp only [PyData.canLay0]; exact lay_strs zs h, decide_eq_true ?_⟩
  simp only [PyData.depth, deep_strs]
  decide
theorem shaped_nil : SeqAt.shaped (.list []) = true := shaped_strs (zs := []) (fun _ h => nomatch h)
theorem eqv_nil (zs : List Str) : PyData.eqv (.list (zs.map PyData.str)) (.list []) = zs.isEmpty := by
  cases zs with
  | nil => simp only [List.map_nil, PyData.eqv, PyData.eqvAll, List.isEmpty_nil]
  | cons z r => simp only [List.map_cons, PyData.eqv, PyData.eqvAll, List.isEmpty_cons]
/-- a list of texts == [] -/
theorem eq_nil_of {K : PySem.W.Frag} {H : Hp} {Q : VK} {p q : Addr} {zs : List Str} (hp : SqL K H p (zs.map V.str)) (hq : SqL K H q []) (ok : ∀ z ∈ zs, PyData.strOk z = true) (h : Q (.bl zs.isEmpty) H) :
    rEqD K (.ref p) (.ref q) H Q :=
  ⟨.list (zs.map PyData.str), .list [], .lst hp (dp_strs zs), .lst hq .nil, shaped_strs ok, shaped_nil, by rw [eqv_nil]; exact h⟩
theorem ne_nil_of {K : PySem.W.Frag} {H : Hp} {Q : VK} {p q : Addr} {zs : List Str} (hp : SqL K H p (zs.map V.str)) (hq : SqL K H q []) (ok : ∀ z ∈ zs, PyData.strOk z = true) (h : Q (.bl (!zs.isEmpty)) H) :
    rNeD K (.ref p) (.ref q) H Q :=
  ⟨.list (zs.map PyData.str), .list [], .lst hp (dp_strs zs), .lst hq .nil, shaped_strs ok, shaped_nil, by rw [eqv_nil]; exact h⟩
theorem hu_of' {A : Around} {k : Nat} (hr : Room k A) : A.units + 64 < cLine := by have := hr.un; omega
theorem hu_rep {A : Around} {k : Nat} (hr : Room k A) : A.units + 70 < cLine := by have := hr.un; omega
theorem small_mem (c : Nat) : decide (c ∈ (Str.ofString "abcdefghijklmnopqrstuvwxyz").cps.toList) = (decide (97 ≤ c) && decide (c ≤ 122)) := by
  have e : (Str.ofString "abcdefghijklmnopqrstuvwxyz").cps.toList = (List.range 26).map (97 + ·) := by decide +kernel
  rw [e, Bool.eq_iff_iff, decide_eq_true_iff, Bool.and_eq_true, decide_eq_true_iff, decide_eq_true_iff, List.mem_map]
  constructor
  · rintro ⟨i, hi, rfl⟩
    have := List.mem_range.mp hi
    omega
  · rintro ⟨h1, h2⟩
    exact ⟨c - 97, List.mem_range.mpr (by omega), by omega⟩
theorem op_mulS {X : Cx} : OpR X (binaryOp .Mult) (fun x y H Q => ∃ (z : Str) (n : Int), x = .str z ∧ y = .int n ∧ PySem.MulOk z n ∧ Q (.str (Txt.mul z n)) H) := by
  intro pins s σ H x y v u Q I rx ry h
  obtain ⟨z, n, rfl, rfl, ok, q⟩ := h
  obtain ⟨t, rfl⟩ := rx
  obtain ⟨t', rfl⟩ := ry
  exact PySem.SB.mul ok fun t' k => ⟨.str _, H, I.tok k, ⟨t', rfl⟩, q⟩
/-- an item of a written list of texts -/
theorem item_strs {zs : List Str} {r : Int} (h0 : 0 ≤ r) (h1 : r < (zs.length : Int)) : ∃ z ∈ zs, atI (zs.map V.str) r = some (.str z) := by
  obtain ⟨n, rfl⟩ := Int.eq_ofNat_of_zero_le h0
  have lt : n < zs.length := by omega
  refine ⟨zs[n], List.getElem_mem lt, ?_⟩
  exact atI_nat (by rw [List.getElem?_map, List.getElem?_eq_getElem lt]; rfl)
/-- what repr tells of three truths -/
theorem rep3 (a b c : Bool) : (PyData.list [.bool a, .bool b, .bool c]).showable = true ∧ (PyData.list [.bool a, .bool b, .bool c]).hasDict = false ∧
    (PyData.list [.bool a, .bool b, .bool c]).depth ≤ 60 ∧ (PyData.list [.bool a, .bool b, .bool c]).shown.length ≤ sizeLine := by
  cases a <;> cases b <;> cases c <;> exact ⟨by decide +kernel, by decide +kernel, by decide +kernel, by decide +kernel⟩
theorem item_any {xs : List V} {r : Int} (h0 : 0 ≤ r) (h1 : r < (xs.length : Int)) : ∃ v ∈ xs, atI xs r = some v := by
  obtain ⟨n, rfl⟩ := Int.eq_ofNat_of_zero_le h0
  have lt : n < xs.length := by omega
  exact ⟨xs[n], List.getElem_mem lt, atI_nat (by rw [List.getElem?_eq_getElem lt])⟩
end Hv
end

section
namespace K1
open PySem PySem.Spec PyProof.Rows L2 Hv
def top (i : Nat) : Stmt := PySem.Challenge.pw_onehistory_k01_names_paths_signs.main.body.getD i (.Pass ⟨0, 0, 0, 0⟩)
abbrev s_is_name : Stmt := top 7
theorem sc_is_name : FnScope ["thing", "sign"] ["thing"] (defScope s_is_name) :=
  ⟨rfl, rfl, rfl, by decide +kernel, rfl, by decide +kernel, by decide +kernel⟩
theorem lt_one (c d : Nat) : decide (([c] : List Nat) < [d]) = decide (c < d) := by
  simp [List.cons_lt_cons_iff]
theorem ndec_lt (a b : Nat) : (!decide (a < b)) = decide (b ≤ a) := by
  by_cases h : a < b
  · rw [decide_eq_true h, decide_eq_false (by omega : ¬ b ≤ a)]; rfl
  · rw [decide_eq_false h, decide_eq_true (by omega : b ≤ a)]; rfl
theorem code_a : (Str.ofString "a").cps.toList = [97] := by decide +kernel
theorem code_z : (Str.ofString "z").cps.toList = [122] := by decide +kernel
/-- small letters -/
def letterB (c : Nat) : Bool := decide (97 ≤ c) && decide (c ≤ 122)
def nameB (z : Str) : Bool := decide (1 ≤ z.cps.size) && decide (z.cps.size ≤ 8) && z.cps.toList.all letterB
/-- a def of one thing of any kind that tells a truth of it -/
def spTell (K : PySem.W.Frag) (g : Str → Bool) (short : Nat) : Sp := fun vs H Q _ => ∃ (x : V) (o : Option Str), vs = [x] ∧ Kd K H x o ∧
  (∀ z, o = some z → z.cps.size ≤ short) ∧ ∀ H', Same H H' → Q (.bl (o.elim false g)) H'
/-- where the defs stand -/
structure Ad where
  is_name : Addr
  is_path : Addr
  is_signs : Addr
  are_steps : Addr
  is_step : Addr
structure Txt (K : PySem.W.Frag) (mg : Str → Option Value) (a : Ad) : Prop where
  b_isi : mg "isinstance" = none
  b_str : mg "str" = none
  b_len : mg "len" = none
  b_all : mg "all" = none
  c_letters : ∃ t, mg "MOST_LETTERS" = some (.int 8 t)
  c_steps : ∃ t, mg "MOST_STEPS" = some (.int 8 t)
  c_signs : ∃ t, mg "MOST_SIGNS" = some (.int 200 t)
  c_top : ∃ t, mg "TOP" = some (.str "/" t)
  c_here : ∃ t, mg "HERE" = some (.str "." t)
  c_up : ∃ t, mg "UP" = some (.str ".." t)
  g_is_name : mg "is_name" = some (.ref a.is_name)
  g_is_step : mg "_is_step" = some (.ref a.is_step)
  g_are_steps : mg "_are_steps" = some (.ref a.are_steps)
  k_is_name : PySem.W.keepIn K (.ref a.is_name) = true
  k_is_step : PySem.W.keepIn K (.ref a.is_step) = true
  k_are_steps : PySem.W.keepIn K (.ref a.are_steps) = true
section
variable {P : Program} {w : World} {K : PySem.W.Frag} {mg : Str → Option Value} {base : Heap} {a : Ad}
theorem ok_is_name {f : Addr} {fd : FuncData} (F : Fun K "is_name" "is_name" s_is_name f fd) (T : Txt K mg a) : Keeps P w K mg base CX0 1 f fd ["thing"] (spTell K nameB 1000) := by
  refine keeps0 F sc_is_name (fun vs H Q E h => ?_) (fun cdv A outer s H vs Q E hr calm h => ?_)
  · obtain ⟨x, o, rfl, _⟩ := h
    rfl
  · obtain ⟨x, o, rfl, kd, sz, k⟩ := h
    obtain ⟨tl, ml⟩ := T.c_letters
    refine ⟨_, pss_cons (ps_if (pw_or (pt_not (pt_val (pe_callB call_isi (by rfl) T.b_isi (by decide +kernel) (pa_cons (pv 0) (pa_cons (pe_bltn (v := .ty "str") (by rfl) T.b_str (by decide +kernel) rfl) pa_nil)))))
        (pw_or1 (pt_not (pt_chain op_le op_le pe_int (pe_callB call_len_str (by rfl) T.b_len PySem.boot_len (pa_cons (pv 0) pa_nil)) (pe_glob (v := .int 8) (by rfl) ml ⟨_, rfl⟩))))).pt (pss_one (ps_ret pe_bl)) pss_nil)
      (pss_one (ps_ret (pe_callB (cr_all rfl) (by rfl) T.b_all (by decide +kernel) (pa_cons
        (pe_lc (own := [("sign", 1)]) (g := gName 1) (tt := tYes) rfl sc_is_name.nd (pi_str (pv 0)) (blkOk_by (N := ["thing", "sign"]) (sc := defScope s_is_name) (by decide +kernel))
          (fun _ _ _ _ _ => pg_name (i := 1) sc_is_name.nd rfl (Or.inl rfl)) (fun _ _ _ _ _ => pts_nil) (fun _ _ _ _ _ => pe_chain op_leS op_leS pe_str (pv 1) pe_str)) pa_nil)))), ?_⟩
    cases kd with
    | oth ty no =>
      refine ⟨_, rfl, x, .ty "str", _, _, false, rfl, .ty _, ty, no, _, rfl, ?_⟩
      refine iteT (iteT ?_)
      exact k H (Same.refl H)
    | str z =>
      have hz := sz z rfl
      refine ⟨_, rfl, .str z, .ty "str", _, _, true, rfl, .ty _, .base (.str z), kit_ty (show kitB "str" "str" = some true by decide +kernel), _, rfl, ?_⟩
      refine iteF ?_
      have hs : z.length ≤ sizeLine := Nat.le_of_lt (small1000 hz)
      have bad : nameB z = false → Q (.bl false) H := fun e => by have q := k H (Same.refl H); simpa [e] using q
      refine ⟨_, rfl, z, rfl, hs, _, _, rfl, rfl, _, rfl, ?_⟩
      refine ite2 (fun h1 => ?_) (fun h1 => ?_)
      · refine ⟨_, _, rfl, rfl, _, rfl, ?_⟩
        have h1' : 1 ≤ z.cps.size := by have q := of_decide_eq_true h1; unfold Str.length at q; omega
        refine ite2 (fun h2 => ?_) (fun h2 => ?_)
        · refine bad ?_
          have h2' : ¬ z.cps.size ≤ 8 := by
            intro q; unfold Str.length at h2
            rw [decide_eq_true (by omega : (z.cps.size : Int) ≤ 8)] at h2
            cases h2
          simp [nameB, h2']
        · have h2' : z.cps.size ≤ 8 := by
            refine Classical.byContradiction fun q => h2 ?_
            unfold Str.length
            rw [decide_eq_false (by omega : ¬ (z.cps.size : Int) ≤ 8)]
            rfl
          refine ⟨_, rfl, z, rfl, fun D hD => ?_⟩
          refine lc_text (f := fun c => some (.bl (letterB c))) hD (by have := small1000 hz; exact this) (fun c H' Post sm y1 y2 => ?_) fun H' sm at_D => ?_
          · refine ⟨rfl, ?_⟩
            have e1 : (!decide (([c] : List Nat) < (Str.ofString "a").cps.toList)) = decide (97 ≤ c) := by
              rw [code_a, lt_one, ndec_lt]
            have e2 : (!decide ((Str.ofString "z").cps.toList < ([c] : List Nat))) = decide (c ≤ 122) := by
              rw [code_z, lt_one, ndec_lt]
            refine ⟨_, rfl, _, _, rfl, rfl, _, rfl, ?_⟩
            refine ite2 (fun g1 => ?_) (fun g1 => ?_)
            · refine ⟨_, _, rfl, rfl, ?_⟩
              refine y1 _ _ ?_ (Same.refl H')
              have g1' := e1.symm.trans g1
              show some (V.bl (letterB c)) = some (V.bl _)
              rw [show letterB c = (decide (97 ≤ c) && decide (c ≤ 122)) from rfl, g1', Bool.true_and, ← e2]
            · refine y1 _ _ ?_ (Same.refl H')
              have g1' : decide (97 ≤ c) = false := by
                rw [← e1]; simpa using g1
              rw [show letterB c = (decide (97 ≤ c) && decide (c ≤ 122)) from rfl, g1', Bool.false_and]
          · refine ⟨D, z.cps.toList.map letterB, rfl, ?_, ?_⟩
            · refine SqL.of ?_
              rw [at_D, List.map_map]
              congr 2
              rw [List.filterMap_eq_map']
              rfl
            · have q := k H' sm
              rw [List.all_map]
              have e : nameB z = z.cps.toList.all letterB := by simp [nameB, h1', h2']
              have e2 : (Option.some z).elim false nameB = z.cps.toList.all (id ∘ letterB) := e
              rw [e2] at q
              exact q
      · refine ⟨_, rfl, iteT ?_⟩
        refine bad ?_
        have h1' : ¬ 1 ≤ z.cps.size := by
          intro q; unfold Str.length at h1
          exact h1 (decide_eq_true (by omega : (1 : Int) ≤ (z.cps.size : Int)))
        simp [nameB, h1']
abbrev s_is_signs : Stmt := top 9
theorem sc_is_signs : FnScope ["thing", "sign"] ["thing"] (defScope s_is_signs) :=
  ⟨rfl, rfl, rfl, by decide +kernel, rfl, by decide +kernel, by decide +kernel⟩
def codeB (c : Nat) : Bool := (decide (32 ≤ c) && decide (c ≤ 126)) || decide (c = 10)
def signsB (z : Str) : Bool := decide (z.cps.size ≤ 200) && z.cps.toList.all codeB
theorem code_blank : (Str.ofString " ").cps.toList = [32] := by decide +kernel
theorem code_tilde : (Str.ofString "~").cps.toList = [126] := by decide +kernel
theorem code_feed : (Str.ofString "\n") = (⟨#[10]⟩ : Str) := by decide +kernel
theorem one_feed (c : Nat) : decide (V.str ⟨#[c]⟩ = V.str (Str.ofString "\n")) = decide (c = 10) := by
  rw [code_feed]
  refine decide_eq_decide.mpr ⟨fun h => ?_, fun h => by rw [h]⟩
  injection h with h
  injection h with h
  injection h with h
  injection h with h _
theorem ok_is_signs {f : Addr} {fd : FuncData} (F : Fun K "is_signs" "is_signs" s_is_signs f fd) (T : Txt K mg a) : Keeps P w K mg base CX0 1 f fd ["thing"] (spTell K signsB 1000) := by
  refine keeps0 F sc_is_signs (fun vs H Q E h => ?_) (fun cdv A outer s H vs Q E hr calm h => ?_)
  · obtain ⟨x, o, rfl, _⟩ := h
    rfl
  · obtain ⟨x, o, rfl, kd, sz, k⟩ := h
    obtain ⟨tl, ml⟩ := T.c_signs
    refine ⟨_, pss_cons (ps_if (pw_or (pt_not (pt_val (pe_callB call_isi (by rfl) T.b_isi (by decide +kernel) (pa_cons (pv 0) (pa_cons (pe_bltn (v := .ty "str") (by rfl) T.b_str (by decide +kernel) rfl) pa_nil)))))
        (pw_or1 (pt_cmpR op_gt (pe_callB call_len_str (by rfl) T.b_len PySem.boot_len (pa_cons (pv 0) pa_nil)) (pe_glob (v := .int 200) (by rfl) ml ⟨_, rfl⟩) (nomark _)))).pt (pss_one (ps_ret pe_bl)) pss_nil)
      (pss_one (ps_ret (pe_callB (cr_all rfl) (by rfl) T.b_all (by decide +kernel) (pa_cons
        (pe_lc (own := [("sign", 1)]) (g := gName 1) (tt := tYes) rfl sc_is_signs.nd (pi_str (pv 0)) (blkOk_by (N := ["thing", "sign"]) (sc := defScope s_is_signs) (by decide +kernel))
          (fun _ _ _ _ _ => pg_name (i := 1) sc_is_signs.nd rfl (Or.inl rfl)) (fun _ _ _ _ _ => pts_nil) (fun _ _ _ _ _ => pe_or (pe_chain op_leS op_leS pe_str (pv 1) pe_str) (pe_one (pe_cmpR op_eq (pv 1) pe_str (nomark _))))) pa_nil)))), ?_⟩
    cases kd with
    | oth ty no =>
      refine ⟨_, rfl, x, .ty "str", _, _, false, rfl, .ty _, ty, no, _, rfl, ?_⟩
      exact k H (Same.refl H)
    | str z =>
      have hz := sz z rfl
      have hs : z.length ≤ sizeLine := Nat.le_of_lt (small1000 hz)
      refine ⟨_, rfl, .str z, .ty "str", _, _, true, rfl, .ty _, .base (.str z), kit_ty (show kitB "str" "str" = some true by decide +kernel), _, rfl, ?_⟩
      refine iteF ?_
      refine ⟨_, rfl, z, rfl, hs, _, _, rfl, rfl, _, rfl, ?_⟩
      refine ite2 (fun h1 => ?_) (fun h1 => ?_)
      · have h1' : ¬ z.cps.size ≤ 200 := by have q := of_decide_eq_true h1; unfold Str.length at q; omega
        have q := k H (Same.refl H)
        rw [show (some z).elim false signsB = signsB z from rfl, show signsB z = false by simp [signsB, h1']] at q
        exact q
      · have h1' : z.cps.size ≤ 200 := by
          refine Classical.byContradiction fun q => h1 ?_
          unfold Str.length
          exact decide_eq_true (by omega : (200 : Int) < (z.cps.size : Int))
        refine ⟨_, rfl, z, rfl, fun D hD => ?_⟩
        refine lc_text (f := fun c => some (.bl (codeB c))) hD (by have := small1000 hz; exact this) (fun c H' Post sm y1 y2 => ?_) fun H' sm at_D => ?_
        · refine ⟨rfl, ?_⟩
          have e1 : (!decide (([c] : List Nat) < (Str.ofString " ").cps.toList)) = decide (32 ≤ c) := by
            rw [code_blank, lt_one, ndec_lt]
          have e2 : (!decide ((Str.ofString "~").cps.toList < ([c] : List Nat))) = decide (c ≤ 126) := by
            rw [code_tilde, lt_one, ndec_lt]
          have un : codeB c = ((decide (32 ≤ c) && decide (c ≤ 126)) || decide (c = 10)) := rfl
          have last : (decide (32 ≤ c) && decide (c ≤ 126)) = false → Post true (.bl (decide (V.str ⟨#[c]⟩ = V.str (Str.ofString "\n")))) H' := fun e => by
            refine y1 _ _ ?_ (Same.refl H')
            rw [un, e, Bool.false_or, one_feed]
          refine ⟨_, rfl, _, _, rfl, rfl, _, rfl, ?_⟩
          refine ite2 (fun g1 => ?_) (fun g1 => ?_)
          · have g1' := e1.symm.trans g1
            refine ⟨_, _, rfl, rfl, _, rfl, ?_⟩
            refine ite2 (fun g2 => ?_) (fun g2 => ?_)
            · refine y1 _ _ ?_ (Same.refl H')
              have g2' := e2.symm.trans g2
              rw [un, g1', g2']; rfl
            · refine ⟨_, rfl, rfl, last ?_⟩
              rw [← e2, g1', Bool.true_and]
              simpa using g2
          · have g1' : decide (32 ≤ c) = false := by
              rw [← e1]; simpa using g1
            refine ⟨_, rfl, ?_⟩
            refine ⟨_, rfl, rfl, last ?_⟩
            rw [g1', Bool.false_and]
        · refine ⟨D, z.cps.toList.map codeB, rfl, ?_, ?_⟩
          · refine SqL.of ?_
            rw [at_D, List.map_map]
            congr 2
            rw [List.filterMap_eq_map']
            rfl
          · have q := k H' sm
            rw [List.all_map]
            have e : signsB z = z.cps.toList.all codeB := by simp [signsB, h1']
            have e2 : (Option.some z).elim false signsB = z.cps.toList.all (id ∘ codeB) := e
            rw [e2] at q
            exact q
abbrev s_is_step : Stmt := top 11
theorem sc_is_step : FnScope ["thing"] ["thing"] (defScope s_is_step) :=
  ⟨rfl, rfl, rfl, by decide +kernel, rfl, by decide +kernel, by decide +kernel⟩
def stepB (z : Str) : Bool := decide (z = Str.ofString "..") || nameB z
theorem str_eqV (a b : Str) : decide (V.str a = V.str b) = decide (a = b) := decide_eq_decide.mpr ⟨fun h => by injection h, fun h => by rw [h]⟩
theorem ok_is_step {f : Addr} {fd fd1 : FuncData} (F : Fun K "_is_step" "_is_step" s_is_step f fd) (T : Txt K mg a) (G : Keeps P w K mg base CX0 1 a.is_name fd1 ["thing"] (spTell K nameB 1000)) (b : Binds K fd1 ["thing"] []) :
    Keeps P w K mg base CX0 2 f fd ["thing"] (spTell K stepB 1000) := by
  refine keeps0 F sc_is_step (fun vs H Q E h => ?_) (fun cdv A outer s H vs Q E hr calm h => ?_)
  · obtain ⟨x, o, rfl, _⟩ := h
    rfl
  · obtain ⟨x, o, rfl, kd, sz, k⟩ := h
    obtain ⟨tl, ml⟩ := T.c_up
    refine ⟨_, pss_one (ps_ret (pe_and (pe_callB call_isi (by rfl) T.b_isi (by decide +kernel) (pa_cons (pv 0) (pa_cons (pe_bltn (v := .ty "str") (by rfl) T.b_str (by decide +kernel) rfl) pa_nil)))
      (pe_one (pe_or (pe_cmpR op_eq (pv 0) (pe_glob (v := .str "..") (by rfl) ml ⟨_, rfl⟩) (nomark _)) (pe_one (pe_v (callR_fn G hr calm b .nil pass0) (by rfl) T.g_is_name T.k_is_name (pa_cons (pv 0) pa_nil))))))), ?_⟩
    cases kd with
    | oth ty no =>
      exact ⟨_, rfl, x, .ty "str", _, _, false, rfl, .ty _, ty, no, _, rfl, k H (Same.refl H)⟩
    | str z =>
      refine ⟨_, rfl, .str z, .ty "str", _, _, true, rfl, .ty _, .base (.str z), kit_ty (show kitB "str" "str" = some true by decide +kernel), _, rfl, ?_⟩
      refine ⟨_, rfl, rfl, _, rfl, ?_⟩
      refine ite2 (fun h1 => ?_) (fun h1 => ?_)
      · have q := k H (Same.refl H)
        rw [show (some z).elim false stepB = stepB z from rfl, show stepB z = true by rw [str_eqV] at h1; simp [stepB, h1]] at q
        exact q
      · refine ⟨_, rfl, .str z, some z, rfl, .str z, sz, fun H' sm => ?_⟩
        have q := k H' sm
        rw [show (some z).elim false stepB = stepB z from rfl, show stepB z = nameB z by rw [str_eqV] at h1; simp only [stepB, Bool.not_eq_true] at h1 ⊢; rw [h1, Bool.false_or]] at q
        exact q
/-- steps: a list of things of any kind -/
inductive Kds (K : PySem.W.Frag) (H : Hp) : List V → List (Option Str) → Prop
  | nil : Kds K H [] []
  | cons {x : V} {xs : List V} {o : Option Str} {os : List (Option Str)} : Kd K H x o → Kds K H xs os → Kds K H (x :: xs) (o :: os)
abbrev s_are_steps : Stmt := top 10
theorem sc_are_steps : FnScope ["things", "thing"] ["things"] (defScope s_are_steps) :=
  ⟨rfl, rfl, rfl, by decide +kernel, rfl, by decide +kernel, by decide +kernel⟩
def stepsB (os : List (Option Str)) : Bool := decide (os.length ≤ 8) && os.all fun o => o.elim false stepB
/-- things as a list of texts -/
def spSteps (K : PySem.W.Frag) : Sp := fun vs H Q _ => ∃ (p : Addr) (zs : List Str), vs = [.ref p] ∧ SqL K H p (zs.map V.str) ∧ zs.length ≤ 10000 ∧ (∀ z ∈ zs, z.cps.size ≤ 1000) ∧
  ∀ H', Same H H' → Q (.bl (decide (zs.length ≤ 8) && zs.all stepB)) H'
theorem ok_are_steps {f : Addr} {fd fd1 : FuncData} (F : Fun K "_are_steps" "_are_steps" s_are_steps f fd) (T : Txt K mg a) (G : Keeps P w K mg base CX0 2 a.is_step fd1 ["thing"] (spTell K stepB 1000)) (b : Binds K fd1 ["thing"] []) :
    Keeps P w K mg base CX0 3 f fd ["things"] (spSteps K) := by
  refine keeps0 F sc_are_steps (fun vs H Q E h => ?_) (fun cdv A outer s H vs Q E hr calm h => ?_)
  · obtain ⟨p, zs, rfl, _⟩ := h
    rfl
  · obtain ⟨p, zs, rfl, sq, few, sz, k⟩ := h
    obtain ⟨tl, ml⟩ := T.c_steps
    refine ⟨_, pss_one (ps_ret (pe_and (pe_cmpR op_le (pe_callB call_len_seq (by rfl) T.b_len PySem.boot_len (pa_cons (pv 0) pa_nil)) (pe_glob (v := .int 8) (by rfl) ml ⟨_, rfl⟩) (nomark _))
      (pe_one (pe_callB (cr_all rfl) (by rfl) T.b_all (by decide +kernel) (pa_cons
        (pe_lc (own := [("thing", 1)]) (g := gName 1) (tt := tYes) rfl sc_are_steps.nd (pi_list (pv 0)) (blkOk_by (N := ["things", "thing"]) (sc := defScope s_are_steps) (by decide +kernel))
          (fun _ _ _ _ _ => pg_name (i := 1) sc_are_steps.nd rfl (Or.inl rfl)) (fun _ _ _ _ _ => pts_nil)
          (fun _ _ _ _ _ => pe_v (callR_fn G hr calm b .nil pass0) (by rfl) T.g_is_step T.k_is_step (pa_cons (pv 1) pa_nil))) pa_nil))))), ?_⟩
    refine ⟨_, rfl, p, _, rfl, .inl sq, _, _, rfl, rfl, _, rfl, ?_⟩
    have el : (zs.map V.str).length = zs.length := List.length_map ..
    refine ite2 (fun h1 => ?_) (fun h1 => ?_)
    · have h1' : zs.length ≤ 8 := by have q := of_decide_eq_true h1; rw [el] at q; omega
      refine ⟨_, rfl, p, rfl, ⟨_, sq⟩, fun D hD => ?_⟩
      refine lc_any (f := fun x => match x with | .str z => some (.bl (stepB z)) | _ => none) (gives_list sq) hD (by rw [el]; exact Nat.le_trans few (by decide)) (fun x H' Post mem sm y1 y2 => ?_) fun H' sm at_D => ?_
      · obtain ⟨z, hz, rfl⟩ := List.mem_map.mp mem
        refine ⟨rfl, ?_⟩
        exact ⟨_, rfl, .str z, some z, rfl, .str z, (fun z' e => by cases e; exact sz z hz), fun H4 k4 => y1 _ _ rfl k4⟩
      · refine ⟨D, zs.map stepB, rfl, ?_, ?_⟩
        · refine SqL.of ?_
          rw [at_D, List.filterMap_map, List.map_map]
          congr 2
          rw [show ((fun x => match x with | V.str z => some (V.bl (stepB z)) | x => none) ∘ V.str : Str → Option V) = fun z => some (V.bl (stepB z)) from rfl, List.filterMap_eq_map']
          rfl
        · have q := k H' sm
          rw [List.all_map]
          rw [decide_eq_true h1', Bool.true_and] at q
          exact q
    · have h1' : ¬ zs.length ≤ 8 := by
        intro q
        refine h1 (decide_eq_true ?_)
        rw [el]; omega
      have q := k H (Same.refl H)
      rw [decide_eq_false h1', Bool.false_and] at q
      exact q
abbrev s_is_path : Stmt := top 8
theorem sc_is_path : FnScope ["thing"] ["thing"] (defScope s_is_path) :=
  ⟨rfl, rfl, rfl, by decide +kernel, rfl, by decide +kernel, by decide +kernel⟩
/-- the steps' texts of a path that isn't the top or here -/
def cuts (z : Str) : List Str := Txt.split (unslash z) (Str.ofString "/")
def pathB (z : Str) : Bool := decide (z = Str.ofString "/") || decide (z = Str.ofString ".") || (decide ((cuts z).length ≤ 8) && (cuts z).all stepB)
theorem ok_is_path {f : Addr} {fd fd1 : FuncData} (F : Fun K "is_path" "is_path" s_is_path f fd) (T : Txt K mg a) (G : Keeps P w K mg base CX0 3 a.are_steps fd1 ["things"] (spSteps K)) (b : Binds K fd1 ["things"] []) :
    Keeps P w K mg base CX0 4 f fd ["thing"] (spTell K pathB 1000) := by
  refine keeps0 F sc_is_path (fun vs H Q E h => ?_) (fun cdv A outer s H vs Q E hr calm h => ?_)
  · obtain ⟨x, o, rfl, _⟩ := h
    rfl
  · obtain ⟨x, o, rfl, kd, sz, k⟩ := h
    obtain ⟨tt, mt⟩ := T.c_top
    obtain ⟨th, mh⟩ := T.c_here
    refine ⟨_, pss_cons (ps_if (pt_not (pt_val (pe_callB call_isi (by rfl) T.b_isi (by decide +kernel) (pa_cons (pv 0) (pa_cons (pe_bltn (v := .ty "str") (by rfl) T.b_str (by decide +kernel) rfl) pa_nil))))) (pss_one (ps_ret pe_bl)) pss_nil)
      (pss_cons (ps_if (pw_or (pt_cmpR op_eq (pv 0) (pe_glob (v := .str "/") (by rfl) mt ⟨_, rfl⟩) (nomark _)) (pw_or1 (pt_cmpR op_eq (pv 0) (pe_glob (v := .str ".") (by rfl) mh ⟨_, rfl⟩) (nomark _)))).pt (pss_one (ps_ret pe_bl)) pss_nil)
      (pss_one (ps_ret (pe_v (callR_fn G hr calm b .nil pass0) (by rfl) T.g_are_steps T.k_are_steps (pa_cons
        (pe_split (pe_bm PySem.F.plainAttrs_str PySem.F.slot_str_removeprefix PySem.F.type_str_removeprefix mt_removeprefix (pv 0) (pa_cons (pe_glob (v := .str "/") (by rfl) mt ⟨_, rfl⟩) pa_nil)) pe_str) pa_nil))))), ?_⟩
    cases kd with
    | oth ty no =>
      exact ⟨_, rfl, x, .ty "str", _, _, false, rfl, .ty _, ty, no, _, rfl, k H (Same.refl H)⟩
    | str z =>
      have hz := sz z rfl
      have hs : z.length ≤ sizeLine := Nat.le_of_lt (small1000 hz)
      refine ⟨_, rfl, .str z, .ty "str", _, _, true, rfl, .ty _, .base (.str z), kit_ty (show kitB "str" "str" = some true by decide +kernel), _, rfl, ?_⟩
      refine iteF ?_
      refine ⟨_, rfl, rfl, _, rfl, ?_⟩
      have un : (some z).elim false pathB = (decide (z = Str.ofString "/") || decide (z = Str.ofString ".") || (decide ((cuts z).length ≤ 8) && (cuts z).all stepB)) := rfl
      rw [un] at k
      have go : decide (V.str z = V.str (Str.ofString "/")) = true ∨ decide (V.str z = V.str (Str.ofString ".")) = true → Q (.bl true) H := fun e => by
        have q := k H (Same.refl H)
        rw [str_eqV, str_eqV] at e
        rcases e with e | e
        · rw [e, Bool.true_or, Bool.true_or] at q; exact q
        · rw [e, Bool.or_true, Bool.true_or] at q; exact q
      refine ite2 (fun h1 => ?_) (fun h1 => ?_)
      · exact go (.inl h1)
      · refine ⟨_, rfl, rfl, _, rfl, ?_⟩
        refine ite2 (fun h2 => ?_) (fun h2 => ?_)
        · exact go (.inr h2)
        · rw [str_eqV] at h1 h2
          refine ⟨_, rfl, rfl, z, _, rfl, rfl, hs, ⟨_, rfl⟩, _, _, rfl, rfl, (by decide +kernel), ?_, ?_⟩
          · rw [prefix_slash]
            have e1 := unslash_short z
            have e2 : z.length ≤ 1000 := hz
            refine Nat.le_trans (Nat.add_le_add_right (Nat.le_trans e1 e2) 2) (by decide)
          · intro p hp
            have e1 := unslash_short z
            have e2 : z.length ≤ 1000 := hz
            have e3 := PyProof.Rows.split_le (unslash z) (Str.ofString "/")
            rw [prefix_slash]
            refine ⟨p, cuts z, rfl, SqL.of upd_same, (show (Txt.split (unslash z) (Str.ofString "/")).length ≤ 10000 by omega), fun y hy => ?_, fun H' sm => ?_⟩
            · have e4 := split_short (unslash z) (Str.ofString "/") y hy
              exact Nat.le_trans (Nat.le_trans e4 e1) e2
            · have q := k H' ((same_new hp).trans sm)
              rw [Bool.not_eq_true] at h1 h2
              rw [h1, h2, Bool.false_or, Bool.false_or] at q
              exact q
end
end K1
end

section
open PySem PySem.Spec PyProof.Rows L2 Hv
local macro_rules | `(tactic| walk_at "rd") => `(tactic| repeat (first
  | refine ⟨_, rfl, ?_⟩
  | refine ⟨_, _, rfl, rfl, ?_⟩
  | refine ⟨_, _, rfl, ?_⟩
  | refine And.intro (show (0 : Int) < _ by omega) ?_
  | refine And.intro (show CDiv _ _ from ⟨by omega, by omega⟩) ?_
  | refine And.intro (show CMul _ _ from Or.inl ⟨by omega, by omega⟩) ?_
  | refine And.intro (show CMul _ _ from Or.inr ⟨by omega, by omega⟩) ?_
  | refine And.intro (show CPow _ _ from ⟨by decide, by decide, by decide⟩) ?_))
namespace K1
abbrev s_begun : Stmt := top 13
theorem sc_begun : FnScope ["_law_script", "_law_k", "_law_cell", "_law_number", "_law_mixed"] ["_law_script", "_law_k"] (defScope s_begun) :=
  ⟨rfl, rfl, rfl, by decide +kernel, rfl, by decide +kernel, by decide +kernel⟩
abbrev s_take : Stmt := top 14
theorem sc_take : FnScope ["_law_state", "_law_many", "_law_digit", "_law_made", "_law_turn"] ["_law_state", "_law_many"] (defScope s_take) :=
  ⟨rfl, rfl, rfl, by decide +kernel, rfl, by decide +kernel, by decide +kernel⟩
/-- the built-in names that the draws ask -/
structure TxtB (mg : Str → Option Value) : Prop where
  b_max : mg "max" = none
  b_int : mg "int" = none
  b_range : mg "range" = none
/-- a draw's state: a whole number, one below 2^31, a truth -/
def Pool (H : Hp) (p : Addr) : Prop := ∃ (a b : Int) (c : Bool), H p = some (.lst [.int a, .int b, .bl c]) ∧ 0 ≤ a ∧ 0 ≤ b ∧ b < 2147483647
/-- all but what stands at p is as it was -/
def But (p : Addr) (H H' : Hp) : Prop := ∀ b o, b ≠ p → H b = some o → H' b = some o
def spBegun (K : PySem.W.Frag) : Sp := fun vs H Q _ => ∃ (a : Addr) (ns : List Int) (k : Int), vs = [.ref a, .int k] ∧ SqL K H a (ns.map V.int) ∧ ns.length ≤ 63 ∧ 0 ≤ k ∧ k < 64 ∧
  ∀ p H', H p = none → Same H H' → Pool H' p → Q (.ref p) H'
def spTake : Sp := fun vs H Q _ => ∃ (p : Addr) (m : Int), vs = [.ref p, .int m] ∧ Pool H p ∧ 0 < m ∧ m < 1073741824 ∧
  ∀ (r : Int) H', 0 ≤ r → r < m → But p H H' → Pool H' p → Q (.int r) H'
section
variable {P : Program} {w : World} {K : PySem.W.Frag} {mg : Str → Option Value} {base : Heap}
theorem ok_begun {f : Addr} {fd : FuncData} (F : Fun K "_law_begun" "_law_begun" s_begun f fd) (T : TxtB mg) : Keeps P w K mg base CX0 1 f fd ["_law_script", "_law_k"] (spBegun K) := by
  refine keeps0 F sc_begun (fun vs H Q E h => ?_) (fun cdv A outer s H vs Q E hr calm h => ?_)
  · obtain ⟨a, ns, k, rfl, _⟩ := h
    rfl
  · obtain ⟨a, ns, k, rfl, sq, few, k0, k1, out⟩ := h
    refine ⟨_, pss_cons (ps_set (i := 2) sc_begun.nd rfl (Or.inl rfl) (pe_ix ix_list (pe_op op_cat (pe_slice sl_list (pv 0) (po_some (pv 1)) (po_some (pe_op op_add (pv 1) pe_int))) (pe_lst (pa_cons pe_int pa_nil))) pe_int (fun _ _ => rfl)))
      (pss_cons (ps_set (i := 3) sc_begun.nd rfl (Or.inl rfl) (pe_callB (call_max2 rfl) (by rfl) T.b_max (by decide +kernel) (pa_cons (pv 2) (pa_cons (pe_op op_sub (pe_un un_neg pe_int) (pv 2)) pa_nil))))
      (pss_cons (ps_set (i := 4) sc_begun.nd rfl (Or.inl rfl) (pe_op op_mod (pe_op op_add (pe_op op_add (pe_op op_add (pe_op op_mod (pv 3) pe_int) (pe_op op_mul pe_int (pv 1))) (pe_op op_mul (pe_op op_mul pe_int (pv 1)) (pv 1))) pe_int) pe_int))
      (pss_one (ps_ret (pe_lst (pa_cons (pv 3) (pa_cons (pv 4) (pa_cons (pe_cmpR op_ge (pv 3) (pe_op op_pow pe_int pe_int) (nomark _)) pa_nil)))))))), ?_⟩
    obtain ⟨ms, hms⟩ : ∃ ms : List Int, cutV (ns.map V.int) (some k) (some (k + 1)) = ms.map V.int := by
      unfold cutV
      rw [← List.map_drop, ← List.map_take]
      exact ⟨_, rfl⟩
    have fewm : ms.length ≤ 63 := by
      have e := cutV_length (ns.map V.int) (some k) (some (k + 1))
      rw [hms, List.length_map, List.length_map] at e
      omega
    obtain ⟨c, hc⟩ : ∃ c : Int, atI (ms.map V.int ++ [V.int 0]) 0 = some (.int c) := by
      cases ms with
      | nil => exact ⟨0, rfl⟩
      | cons m r => exact ⟨m, atI_nat (by rfl)⟩
    refine ⟨_, rfl, _, rfl, k, rfl, _, rfl, _, _, rfl, rfl, k + 1, rfl, a, _, rfl, sq, fun p1 n1 => ⟨(by show 1 ≤ sizeLine; decide), fun p2 n2 => ?_⟩⟩
    have d12 : p1 ≠ p2 := fun e => by rw [← e, upd_same] at n2; cases n2
    refine ⟨p1, p2, _, _, rfl, rfl, (by rw [upd_ne d12]; exact upd_same), upd_same, ?_, fun p3 n3 => ?_⟩
    · rw [hms, List.length_map]
      show ms.length + 1 ≤ sizeLine
      exact Nat.le_trans (Nat.add_le_add_right fewm 1) (by decide)
    refine ⟨p3, _, 0, _, rfl, rfl, SqL.of upd_same, (by rw [hms]; exact hc), ?_⟩
    walk_at "rd"
    refine ⟨(by show 3 ≤ sizeLine; decide), fun p4 n4 => ?_⟩
    have s1 : Same H (upd H p1 (HO.lst (cutV (ns.map V.int) (some k) (some (k + 1))))) := same_new n1
    have s2 := s1.trans (same_new (o := HO.lst [V.int 0]) n2)
    have s3 := s2.trans (same_new (o := HO.lst (cutV (ns.map V.int) (some k) (some (k + 1)) ++ [V.int 0])) n3)
    refine out p4 _ (s3.free n4) (s3.trans (same_new n4)) ⟨_, _, _, upd_same, ?_, Int.emod_nonneg _ (by decide), Int.lt_trans (Int.emod_lt_of_pos _ (by decide)) (by decide)⟩
    show 0 ≤ (if -1 - c > c then -1 - c else c)
    split <;> omega
theorem ok_take {f : Addr} {fd : FuncData} (F : Fun K "_law_take" "_law_take" s_take f fd) (T : TxtB mg) : Keeps P w K mg base CX0 1 f fd ["_law_state", "_law_many"] spTake := by
  refine keeps0 F sc_take (fun vs H Q E h => ?_) (fun cdv A outer s H vs Q E hr calm h => ?_)
  · obtain ⟨a, m, rfl, _⟩ := h
    rfl
  · obtain ⟨p, m, rfl, ⟨a, b, c, hp, a0, b0, b1⟩, m0, m1, out⟩ := h
    refine ⟨_, pss_cons (ps_if (pt_val (pe_ix ix_list (pv 0) pe_int (fun _ _ => rfl)))
        (pss_cons (ps_set (i := 2) sc_take.nd rfl (Or.inl rfl) (pe_op op_mod (pe_ix ix_list (pv 0) pe_int (fun _ _ => rfl)) (pv 1)))
        (pss_cons (ps_asg (pe_op op_fdiv (pe_ix ix_list (pv 0) pe_int (fun _ _ => rfl)) (pv 1)) (pg_sub (pv 0) pe_int set_list))
        (pss_cons (ps_asg (pe_cmpR op_gt (pe_ix ix_list (pv 0) pe_int (fun _ _ => rfl)) pe_int (nomark _)) (pg_sub (pv 0) pe_int set_list))
        (pss_one (ps_ret (pv 2)))))) pss_nil)
      (pss_cons (ps_set (i := 3) sc_take.nd rfl (Or.inl rfl) pe_int)
      (pss_cons (ps_for PassesOwn.never rfl (pi_range1 (by rfl) T.b_range (pa_cons (pe_op op_add pe_int (pe_callTy call_int1 (by rfl) T.b_int (by decide +kernel) (pa_cons (pe_cmpR op_gt (pv 1) (pe_op op_pow pe_int pe_int) (nomark _)) pa_nil))) pa_nil)) (pg_name (i := 4) sc_take.nd rfl (Or.inl rfl))
        (pss_cons (ps_asg (pe_op op_mod (pe_op op_add (pe_op op_mul (pe_ix ix_list (pv 0) pe_int (fun _ _ => rfl)) pe_int) pe_int) pe_int) (pg_sub (pv 0) pe_int set_list))
        (pss_one (ps_set (i := 3) sc_take.nd rfl (Or.inl rfl) (pe_op op_add (pe_op op_mul (pv 3) pe_int) (pe_op op_mod (pe_op op_mul (pe_ix ix_list (pv 0) pe_int (fun _ _ => rfl)) (pe_ix ix_list (pv 0) pe_int (fun _ _ => rfl))) pe_int))))))
      (pss_one (ps_ret (pe_op op_mod (pe_op op_fdiv (pv 3) pe_int) (pv 1)))))), ?_⟩
    refine ⟨_, rfl, p, _, 2, _, rfl, rfl, SqL.of hp, atI_nat (by rfl), _, rfl, ?_⟩
    cases c with
    | true =>
      refine iteT ?_
      refine ⟨_, rfl, p, _, 0, _, rfl, rfl, SqL.of hp, atI_nat (by rfl), ?_⟩
      walk_at "rd"
      refine ⟨p, _, 0, _, rfl, rfl, SqL.of hp, atI_nat (by rfl), ?_⟩
      walk_at "rd"
      refine ⟨p, _, 0, 0, rfl, rfl, hp, rfl, ?_⟩
      refine ⟨_, rfl, p, _, 0, _, rfl, rfl, SqL.of upd_same, atI_nat (by rfl), ?_⟩
      walk_at "rd"
      refine ⟨p, _, 2, 2, rfl, rfl, upd_same, rfl, ?_⟩
      refine ⟨_, rfl, out (a % m) _ (Int.emod_nonneg _ (by omega)) (Int.emod_lt_of_pos _ m0) (fun b o nb e => by rw [upd_ne nb, upd_ne nb]; exact e) ⟨a / m, b, _, upd_same, Int.ediv_nonneg a0 (by omega), b0, b1⟩⟩
    | false =>
      refine iteF ?_
      walk_at "rd"
      refine Or.inr ⟨_, rfl, ?_⟩
      walk_at "rd"
      refine ⟨(by show -(2 ^ 62) ≤ 1 + (if _ then (1 : Int) else 0); split <;> omega), (by show 1 + (if _ then (1 : Int) else 0) < 2 ^ 62; split <;> omega), ?_⟩
      refine for_range (fun i σ H' => ∃ (made : Int) (v : Option V), σ = [some (.ref p), some (.int m), none, some (.int made), v] ∧ But p H H' ∧ Pool H' p ∧ 0 ≤ made)
        ⟨0, none, rfl, fun b o _ e => e, ⟨a, b, false, hp, a0, b0, b1⟩, Int.le_refl 0⟩ ?_ ?_
      · rintro i σ H' hi ⟨made, v, rfl, but, ⟨a', b', c', hp', a0', b0', b1'⟩, made0⟩
        refine ⟨_, rfl, p, _, 1, _, rfl, rfl, SqL.of hp', atI_nat (by rfl), ?_⟩
        walk_at "rd"
        refine ⟨p, _, 1, 1, rfl, rfl, hp', rfl, ?_⟩
        walk_at "rd"
        refine ⟨p, _, 1, _, rfl, rfl, SqL.of upd_same, atI_nat (by rfl), ?_⟩
        walk_at "rd"
        refine ⟨p, _, 1, _, rfl, rfl, SqL.of upd_same, atI_nat (by rfl), ?_⟩
        walk_at "rd"
        refine ⟨fun b o nb e => by rw [upd_ne nb]; exact but b o nb e, ⟨a', _, c', upd_same, a0', Int.emod_nonneg _ (by decide), Int.emod_lt_of_pos _ (by decide)⟩, by omega⟩
      · rintro σ H' ⟨made, v, rfl, but, pool, made0⟩
        walk_at "rd"
        exact out (made / 64 % m) H' (Int.emod_nonneg _ (by omega)) (Int.emod_lt_of_pos _ m0) but pool
end
end K1
end

section
open PySem PySem.Spec PyProof.Rows L2 Hv
local macro_rules | `(tactic| walk_at "rd") => `(tactic| repeat (first
  | refine ⟨_, rfl, ?_⟩
  | refine ⟨_, _, rfl, rfl, ?_⟩
  | refine ⟨_, _, rfl, ?_⟩
  | refine And.intro (show (0 : Int) < _ by omega) ?_
  | refine And.intro (show CDiv _ _ from ⟨by omega, by omega⟩) ?_
  | refine And.intro (show CMul _ _ from Or.inl ⟨by omega, by omega⟩) ?_
  | refine And.intro (show CMul _ _ from Or.inr ⟨by omega, by omega⟩) ?_
  | refine And.intro (show CPow _ _ from ⟨by decide, by decide, by decide⟩) ?_))
namespace K1
/-- a thing of any kind, of which a truth is told; its text, if it is one, is short and plain -/
def spTellT (K : PySem.W.Frag) (g : Str → Bool) : Sp := fun vs H Q _ => ∃ (x : V) (o : Option Str), vs = [x] ∧ Kd K H x o ∧
  (∀ z, o = some z → Tx 1000 z) ∧ ∀ H', Same H H' → Q (.bl (o.elim false g)) H'
abbrev s_lis_name : Stmt := top 15
theorem sc_lis_name : FnScope ["_law_thing", "_law_sign"] ["_law_thing"] (defScope s_lis_name) :=
  ⟨rfl, rfl, rfl, by decide +kernel, rfl, by decide +kernel, by decide +kernel⟩
section
variable {P : Program} {w : World} {K : PySem.W.Frag} {mg : Str → Option Value} {base : Heap} {a : Ad}
theorem ok_lis_name {f : Addr} {fd : FuncData} (F : Fun K "_law_is_name" "_law_is_name" s_lis_name f fd) (T : Txt K mg a) : Keeps P w K mg base CX0 1 f fd ["_law_thing"] (spTellT K nameB) := by
  refine keeps0 F sc_lis_name (fun vs H Q E h => ?_) (fun cdv A outer s H vs Q E hr calm h => ?_)
  · obtain ⟨x, o, rfl, _⟩ := h
    rfl
  · obtain ⟨x, o, rfl, kd, sz, k⟩ := h
    refine ⟨_, pss_cons (ps_if (pw_or (pt_not (pt_val (pe_callB call_isi (by rfl) T.b_isi (by decide +kernel) (pa_cons (pv 0) (pa_cons (pe_bltn (v := .ty "str") (by rfl) T.b_str (by decide +kernel) rfl) pa_nil)))))
        (pw_or1 (pt_not (pt_chain op_le op_le pe_int (pe_callB call_len_str (by rfl) T.b_len PySem.boot_len (pa_cons (pv 0) pa_nil)) pe_int)))).pt (pss_one (ps_ret pe_bl)) pss_nil)
      (pss_one (ps_ret (pe_cmpR (op_eqD (hu_of' hr)) (pe_lc (own := [("_law_sign", 1)]) (g := gName 1) rfl sc_lis_name.nd (pi_str (pv 0)) (blkOk_by (N := ["_law_thing", "_law_sign"]) (sc := defScope s_lis_name) (by decide +kernel))
          (fun _ _ _ _ _ => pg_name (i := 1) sc_lis_name.nd rfl (Or.inl rfl)) (fun _ _ _ _ _ => pts_one (pt_cmpR op_notin_str (pv 1) pe_str (by with_unfolding_all rfl))) (fun _ _ _ _ _ => pv 1)) (pe_lst pa_nil) (nomark _)))), ?_⟩
    cases kd with
    | oth ty no =>
      exact ⟨_, rfl, x, .ty "str", _, _, false, rfl, .ty _, ty, no, _, rfl, k H (Same.refl H)⟩
    | str z =>
      have hz := (sz z rfl).1
      have hs : z.length ≤ sizeLine := Nat.le_of_lt (small1000 hz)
      have q0 := fun H' sm => k H' sm
      rw [show (some z).elim false nameB = nameB z from rfl] at q0
      have bad : nameB z = false → Q (.bl false) H := fun e => by have q := q0 H (Same.refl H); rw [e] at q; exact q
      refine ⟨_, rfl, .str z, .ty "str", _, _, true, rfl, .ty _, .base (.str z), kit_ty (show kitB "str" "str" = some true by decide +kernel), _, rfl, ?_⟩
      refine iteF ?_
      refine ⟨_, rfl, z, rfl, hs, _, _, rfl, rfl, _, rfl, ?_⟩
      refine ite2 (fun h1 => ?_) (fun h1 => ?_)
      · refine ⟨_, _, rfl, rfl, _, rfl, ?_⟩
        have h1' : 1 ≤ z.cps.size := by have q := of_decide_eq_true h1; unfold Str.length at q; omega
        refine ite2 (fun h2 => ?_) (fun h2 => ?_)
        · refine bad ?_
          have h2' : ¬ z.cps.size ≤ 8 := by
            intro q; unfold Str.length at h2
            rw [decide_eq_true (by omega : (z.cps.size : Int) ≤ 8)] at h2
            cases h2
          simp [nameB, h2']
        · have h2' : z.cps.size ≤ 8 := by
            refine Classical.byContradiction fun q => h2 ?_
            unfold Str.length
            rw [decide_eq_false (by omega : ¬ (z.cps.size : Int) ≤ 8)]
            rfl
          refine ⟨_, rfl, z, rfl, fun D hD => ?_⟩
          refine lc_text (f := fun c => if letterB c = true then none else some (.str ⟨#[c]⟩)) hD (by have := small1000 hz; exact this) (fun c H' Post sm y1 y2 => ?_) fun H' sm at_D => ?_
          · refine ⟨rfl, ?_⟩
            have e : (!(!(Builtin.Str.occurrences (Str.ofString "abcdefghijklmnopqrstuvwxyz") ⟨#[c]⟩ 0 (Str.ofString "abcdefghijklmnopqrstuvwxyz").length 1).isEmpty)) = !letterB c := by
              rw [StrLaws.found_one, small_mem]; rfl
            refine ⟨_, rfl, _, _, rfl, rfl, _, rfl, ?_⟩
            rw [e]
            cases hl : letterB c with
            | true => exact iteF (y2 H' (by rw [if_pos hl]) (Same.refl H'))
            | false => exact iteT ⟨_, rfl, y1 _ H' (by rw [hl]; rfl) (Same.refl H')⟩
          · have e1 : z.cps.toList.filterMap (fun c => if letterB c = true then none else some (V.str ⟨#[c]⟩)) = (((z.cps.toList.filter fun c => !letterB c).map fun c => (⟨#[c]⟩ : Str)).map V.str) := by
              rw [List.map_map]
              induction z.cps.toList with
              | nil => rfl
              | cons c r ih => cases hl : letterB c <;> simp [hl, ih]
            refine ⟨(by show 0 ≤ sizeLine; decide), fun p np => ?_⟩
            rw [e1] at at_D
            refine eq_nil_of (zs := (z.cps.toList.filter fun c => !letterB c).map fun c => (⟨#[c]⟩ : Str)) (SqL.of (by rw [upd_ne (ne_of_none at_D np)]; exact at_D)) (SqL.of upd_same) (fun y hy => ?_) ?_
            · obtain ⟨c, hc, rfl⟩ := List.mem_map.mp hy
              have := (sz z rfl).2 c (List.mem_filter.mp hc).1
              simp [PyData.strOk]; omega
            · have q := q0 _ (sm.trans (same_new (o := .lst []) np))
              have e2 : nameB z = ((z.cps.toList.filter fun c => !letterB c).map fun c => (⟨#[c]⟩ : Str)).isEmpty := by
                rw [show nameB z = z.cps.toList.all letterB by simp [nameB, h1', h2'], Bool.eq_iff_iff, List.all_eq_true]
                simp
              rw [e2] at q
              exact q
      · refine ⟨_, rfl, iteT ?_⟩
        refine bad ?_
        have h1' : ¬ 1 ≤ z.cps.size := by
          intro q; unfold Str.length at h1
          exact h1 (decide_eq_true (by omega : (1 : Int) ≤ (z.cps.size : Int)))
        simp [nameB, h1']
abbrev s_lis_signs : Stmt := top 18
theorem sc_lis_signs : FnScope ["_law_thing", "_law_sign"] ["_law_thing"] (defScope s_lis_signs) :=
  ⟨rfl, rfl, rfl, by decide +kernel, rfl, by decide +kernel, by decide +kernel⟩
theorem ok_lis_signs {f : Addr} {fd : FuncData} (F : Fun K "_law_is_signs" "_law_is_signs" s_lis_signs f fd) (T : Txt K mg a) (b_ord : mg "ord" = none) : Keeps P w K mg base CX0 1 f fd ["_law_thing"] (spTellT K signsB) := by
  refine keeps0 F sc_lis_signs (fun vs H Q E h => ?_) (fun cdv A outer s H vs Q E hr calm h => ?_)
  · obtain ⟨x, o, rfl, _⟩ := h
    rfl
  · obtain ⟨x, o, rfl, kd, sz, k⟩ := h
    refine ⟨_, pss_cons (ps_if (pw_or (pt_not (pt_val (pe_callB call_isi (by rfl) T.b_isi (by decide +kernel) (pa_cons (pv 0) (pa_cons (pe_bltn (v := .ty "str") (by rfl) T.b_str (by decide +kernel) rfl) pa_nil)))))
        (pw_or1 (pt_cmpR op_gt (pe_callB call_len_str (by rfl) T.b_len PySem.boot_len (pa_cons (pv 0) pa_nil)) pe_int (nomark _)))).pt (pss_one (ps_ret pe_bl)) pss_nil)
      (pss_one (ps_ret (pe_cmpR (op_eqD (hu_of' hr)) (pe_lc (own := [("_law_sign", 1)]) (g := gName 1) rfl sc_lis_signs.nd (pi_str (pv 0)) (blkOk_by (N := ["_law_thing", "_law_sign"]) (sc := defScope s_lis_signs) (by decide +kernel))
          (fun _ _ _ _ _ => pg_name (i := 1) sc_lis_signs.nd rfl (Or.inl rfl)) (fun _ _ _ _ _ => pts_one (pw_and (pt_cmpR op_ne (pv 1) pe_str (nomark _)) (pw_and1 (pt_not (pt_chain op_le op_le pe_int (pe_callB call_ord (by rfl) b_ord (by decide +kernel) (pa_cons (pv 1) pa_nil)) pe_int)))).pt) (fun _ _ _ _ _ => pv 1)) (pe_lst pa_nil) (nomark _)))), ?_⟩
    cases kd with
    | oth ty no =>
      exact ⟨_, rfl, x, .ty "str", _, _, false, rfl, .ty _, ty, no, _, rfl, k H (Same.refl H)⟩
    | str z =>
      have hz := (sz z rfl).1
      have hs : z.length ≤ sizeLine := Nat.le_of_lt (small1000 hz)
      have q0 := fun H' sm => k H' sm
      rw [show (some z).elim false signsB = signsB z from rfl] at q0
      refine ⟨_, rfl, .str z, .ty "str", _, _, true, rfl, .ty _, .base (.str z), kit_ty (show kitB "str" "str" = some true by decide +kernel), _, rfl, ?_⟩
      refine iteF ?_
      refine ⟨_, rfl, z, rfl, hs, _, _, rfl, rfl, _, rfl, ?_⟩
      refine ite2 (fun h1 => ?_) (fun h1 => ?_)
      · have h1' : ¬ z.cps.size ≤ 200 := by have q := of_decide_eq_true h1; unfold Str.length at q; omega
        have q := q0 H (Same.refl H)
        rw [show signsB z = false by simp [signsB, h1']] at q
        exact q
      · have h1' : z.cps.size ≤ 200 := by
          refine Classical.byContradiction fun q => h1 ?_
          unfold Str.length
          exact decide_eq_true (by omega : (200 : Int) < (z.cps.size : Int))
        refine ⟨_, rfl, z, rfl, fun D hD => ?_⟩
        refine lc_text (f := fun c => if codeB c = true then none else some (.str ⟨#[c]⟩)) hD (by have := small1000 hz; exact this) (fun c H' Post sm y1 y2 => ?_) fun H' sm at_D => ?_
        · refine ⟨rfl, ?_⟩
          have un : codeB c = ((decide (32 ≤ c) && decide (c ≤ 126)) || decide (c = 10)) := rfl
          refine ⟨_, rfl, rfl, _, rfl, ?_⟩
          rw [one_feed]
          by_cases h10 : c = 10
          · have cb : codeB c = true := by rw [un, decide_eq_true h10, Bool.or_true]
            rw [decide_eq_true h10]
            exact y2 H' (by rw [if_pos cb]) (Same.refl H')
          · rw [decide_eq_false h10]
            have cb : codeB c = (decide (32 ≤ c) && decide (c ≤ 126)) := by rw [un, decide_eq_false h10, Bool.or_false]
            have e1 : decide ((32 : Int) ≤ ((((⟨#[c]⟩ : Str).cps.getD 0 0 : Nat)) : Int)) = decide (32 ≤ c) := decide_eq_decide.mpr (by show (32 : Int) ≤ (c : Int) ↔ _; omega)
            have e2 : decide (((((⟨#[c]⟩ : Str).cps.getD 0 0 : Nat)) : Int) ≤ 126) = decide (c ≤ 126) := decide_eq_decide.mpr (by show (c : Int) ≤ 126 ↔ _; omega)
            refine ⟨_, rfl, ⟨#[c]⟩, rfl, rfl, _, _, rfl, rfl, _, rfl, ?_⟩
            rw [e1]
            refine ite2 (fun g1 => ?_) (fun g1 => ?_)
            · refine ⟨_, _, rfl, rfl, _, rfl, ?_⟩
              rw [e2]
              rw [g1, Bool.true_and] at cb
              cases g2 : decide (c ≤ 126) with
              | true => exact y2 H' (by rw [cb, g2]; rfl) (Same.refl H')
              | false => exact ⟨_, rfl, y1 _ H' (by rw [cb, g2]; rfl) (Same.refl H')⟩
            · rw [Bool.not_eq_true] at g1
              rw [g1, Bool.false_and] at cb
              exact ⟨_, rfl, ⟨_, rfl, y1 _ H' (by rw [cb]; rfl) (Same.refl H')⟩⟩
        · have e1 : z.cps.toList.filterMap (fun c => if codeB c = true then none else some (V.str ⟨#[c]⟩)) = (((z.cps.toList.filter fun c => !codeB c).map fun c => (⟨#[c]⟩ : Str)).map V.str) := by
            rw [List.map_map]
            induction z.cps.toList with
            | nil => rfl
            | cons c r ih => cases hl : codeB c <;> simp [hl, ih]
          refine ⟨(by show 0 ≤ sizeLine; decide), fun p np => ?_⟩
          rw [e1] at at_D
          refine eq_nil_of (zs := (z.cps.toList.filter fun c => !codeB c).map fun c => (⟨#[c]⟩ : Str)) (SqL.of (by rw [upd_ne (ne_of_none at_D np)]; exact at_D)) (SqL.of upd_same) (fun y hy => ?_) ?_
          · obtain ⟨c, hc, rfl⟩ := List.mem_map.mp hy
            have := (sz z rfl).2 c (List.mem_filter.mp hc).1
            simp [PyData.strOk]; omega
          · have q := q0 _ (sm.trans (same_new (o := .lst []) np))
            have e2 : signsB z = ((z.cps.toList.filter fun c => !codeB c).map fun c => (⟨#[c]⟩ : Str)).isEmpty := by
              rw [show signsB z = z.cps.toList.all codeB by simp [signsB, h1'], Bool.eq_iff_iff, List.all_eq_true]
              simp
            rw [e2] at q
            exact q
abbrev s_lsteps : Stmt := top 16
theorem sc_lsteps : FnScope ["_law_thing", "_law_steps_here", "_law_step"] ["_law_thing"] (defScope s_lsteps) :=
  ⟨rfl, rfl, rfl, by decide +kernel, rfl, by decide +kernel, by decide +kernel⟩
/-- None just where it is no path -/
def spLSteps (K : PySem.W.Frag) : Sp := fun vs H Q _ => ∃ (x : V) (o : Option Str), vs = [x] ∧ Kd K H x o ∧
  (∀ z, o = some z → Tx 990 z) ∧ ∀ v H', Same H H' → decide (v = .non) = !(o.elim false pathB) → Q v H'
theorem ok_lsteps {f a1 : Addr} {fd fd1 : FuncData} (F : Fun K "_law_steps" "_law_steps" s_lsteps f fd) (T : Txt K mg a) (TB : TxtB mg) (b_tuple : mg "tuple" = none) (g1 : mg "_law_is_name" = some (.ref a1)) (k1 : PySem.W.keepIn K (.ref a1) = true)
    (G : Keeps P w K mg base CX0 1 a1 fd1 ["_law_thing"] (spTellT K nameB)) (b : Binds K fd1 ["_law_thing"] []) : Keeps P w K mg base CX0 2 f fd ["_law_thing"] (spLSteps K) := by
  refine keeps0 F sc_lsteps (fun vs H Q E h => ?_) (fun cdv A outer s H vs Q E hr calm h => ?_)
  · obtain ⟨x, o, rfl, _⟩ := h
    rfl
  · obtain ⟨x, o, rfl, kd, sz, k⟩ := h
    refine ⟨_, pss_cons (ps_if (pt_not (pt_val (pe_callB call_isi (by rfl) T.b_isi (by decide +kernel) (pa_cons (pv 0) (pa_cons (pe_bltn (v := .ty "str") (by rfl) T.b_str (by decide +kernel) rfl) pa_nil))))) (pss_one (ps_ret pe_non)) pss_nil)
      (pss_cons (ps_if (pt_cmpR op_in_seq (pv 0) (pe_lst (pa_cons pe_str (pa_cons pe_str pa_nil))) (by with_unfolding_all rfl)) (pss_one (ps_ret (pe_tup pa_nil))) pss_nil)
      (pss_cons (ps_set (i := 1) sc_lsteps.nd rfl (Or.inl rfl) (pe_split (pe_slice sl_str (pv 0) (po_some (pe_callTy call_int1 (by rfl) TB.b_int (by decide +kernel) (pa_cons (pe_cmpR op_eq (pe_slice sl_str (pv 0) po_none (po_some pe_int)) pe_str (nomark _)) pa_nil))) po_none) pe_str))
      (pss_cons (ps_if (pw_or (pt_cmpR op_gt (pe_callB call_len_seq (by rfl) T.b_len PySem.boot_len (pa_cons (pv 1) pa_nil)) pe_int (nomark _))
        (pw_or1 (pt_cmpR (op_neD (hu_of' hr)) (pe_lc (own := [("_law_step", 2)]) (g := gName 2) rfl sc_lsteps.nd (pi_list (pv 1)) (blkOk_by (N := ["_law_thing", "_law_steps_here", "_law_step"]) (sc := defScope s_lsteps) (by decide +kernel))
          (fun _ _ _ _ _ => pg_name (i := 2) sc_lsteps.nd rfl (Or.inl rfl)) (fun _ _ _ _ _ => pts_one (pw_and (pt_cmpR op_ne (pv 2) pe_str (nomark _)) (pw_and1 (pt_not (pt_val (pe_v (callR_fn G hr calm b .nil pass0) (by rfl) g1 k1 (pa_cons (pv 2) pa_nil)))))).pt) (fun _ _ _ _ _ => pv 2)) (pe_lst pa_nil) (nomark _)))).pt (pss_one (ps_ret pe_non)) pss_nil)
      (pss_one (ps_ret (pe_callTy call_tuple_of (by rfl) b_tuple (by decide +kernel) (pa_cons (pv 1) pa_nil))))))), ?_⟩
    cases kd with
    | oth ty no =>
      exact ⟨_, rfl, x, .ty "str", _, _, false, rfl, .ty _, ty, no, _, rfl, k _ H (Same.refl H) rfl⟩
    | str z =>
      have hz := (sz z rfl).1
      refine ⟨_, rfl, .str z, .ty "str", _, _, true, rfl, .ty _, .base (.str z), kit_ty (show kitB "str" "str" = some true by decide +kernel), _, rfl, ?_⟩
      refine iteF ?_
      refine ⟨_, rfl, (by show 2 ≤ sizeLine; decide), fun p np => ⟨p, _, rfl, .inl (SqL.of upd_same), rfl, rfl, _, rfl, ?_⟩⟩
      have hs : z.length ≤ sizeLine := Nat.le_of_lt (small1000 (Nat.le_trans hz (by decide)))
      have e0 : inV (V.str z) [V.str (Str.ofString "/"), V.str (Str.ofString ".")] = (decide (z = Str.ofString "/") || decide (z = Str.ofString ".")) := by
        show (decide (Str.ofString "/" = z) || (decide (Str.ofString "." = z) || false)) = _
        rw [Bool.or_false]
        congr 1 <;> exact decide_eq_decide.mpr eq_comm
      have un : (some z).elim false pathB = ((decide (z = Str.ofString "/") || decide (z = Str.ofString ".")) || (decide ((cuts z).length ≤ 8) && (cuts z).all stepB)) := rfl
      rw [un] at k
      have sm1 : Same H (upd H p (.lst [V.str (Str.ofString "/"), V.str (Str.ofString ".")])) := same_new np
      show (if inV (V.str z) [V.str (Str.ofString "/"), V.str (Str.ofString ".")] = true then _ else _)
      rw [e0]
      refine ite2 (fun h1 => ?_) (fun h1 => ?_)
      · refine ⟨(by show 0 ≤ sizeLine; decide), fun p2 np2 => ?_⟩
        refine k _ _ (sm1.trans (same_new np2)) ?_
        rw [h1, Bool.true_or]; rfl
      · rw [Bool.not_eq_true] at h1
        rw [h1, Bool.false_or] at k
        refine ⟨_, rfl, _, rfl, 1, rfl, z, rfl, hs, rfl, Or.inr ⟨_, rfl, _, rfl, z, rfl, hs, ⟨_, rfl⟩, _, _, rfl, rfl, (by decide +kernel), ?_, ?_⟩⟩
        all_goals rw [str_eqV, first_slash, cut_slash]
        · have e1 := unslash_short z
          have e2 : z.length ≤ 990 := hz
          exact Nat.le_trans (Nat.add_le_add_right (Nat.le_trans e1 e2) 2) (by decide)
        · intro p1 np1
          have e1 := unslash_short z
          have e2 : z.length ≤ 990 := hz
          have e3 : (cuts z).length ≤ (unslash z).length + 2 := PyProof.Rows.split_le (unslash z) (Str.ofString "/")
          have sm2 := sm1.trans (same_new (o := .lst ((cuts z).map V.str)) np1)
          have at1 : upd (upd H p (.lst [V.str (Str.ofString "/"), V.str (Str.ofString ".")])) p1 (.lst ((cuts z).map V.str)) p1 = some (.lst ((cuts z).map V.str)) := upd_same
          have el : ((cuts z).map V.str).length = (cuts z).length := List.length_map ..
          have tx : ∀ y ∈ cuts z, Tx 1000 y := fun y hy => ⟨Nat.le_trans (Nat.le_trans (split_short _ _ y hy) e1) (Nat.le_trans e2 (by decide)),
            fun c hc => (sz z rfl).2 c (unslash_codes z c (split_codes _ _ y hy c hc))⟩
          refine ⟨_, rfl, p1, _, rfl, .inl (SqL.of upd_same), _, _, rfl, rfl, _, rfl, ?_⟩
          show (if decide ((8 : Int) < (((cuts z).map V.str).length : Int)) = true then _ else _)
          rw [el]
          refine ite2 (fun h2 => ?_) (fun h2 => ?_)
          · refine k _ _ sm2 ?_
            rw [decide_eq_false (show ¬ (cuts z).length ≤ 8 by have := of_decide_eq_true h2; omega), Bool.false_and]; rfl
          · have h2' : (cuts z).length ≤ 8 := by
              refine Classical.byContradiction fun q => h2 (decide_eq_true (by omega))
            rw [decide_eq_true h2', Bool.true_and] at k
            refine ⟨_, rfl, p1, rfl, ⟨_, SqL.of at1⟩, fun D hD => ?_⟩
            refine lc_any (f := fun x => match x with | .str y => if stepB y = true then none else some (.str y) | _ => none) (gives_list (SqL.of at1)) hD (by rw [el]; exact Nat.le_trans h2' (by decide)) (fun x H' Post mem sm y1 y2 => ?_) fun H' sm at_D => ?_
            · obtain ⟨y, hy, rfl⟩ := List.mem_map.mp mem
              refine ⟨rfl, ?_⟩
              refine ⟨_, rfl, rfl, _, rfl, ?_⟩
              rw [str_eqV]
              cases hup : decide (y = Str.ofString "..") with
              | true =>
                have st : stepB y = true := by unfold stepB; rw [hup, Bool.true_or]
                exact y2 H' (by show (if stepB y = true then none else _) = none; rw [if_pos st]) (Same.refl H')
              | false =>
                have st : stepB y = nameB y := by unfold stepB; rw [hup, Bool.false_or]
                refine ⟨_, rfl, .str y, some y, rfl, .str y, (fun z' e => by cases e; exact tx y hy), fun H4 k4 => ⟨_, rfl, ?_⟩⟩
                show (if (!nameB y) = true then _ else _)
                cases hn : nameB y with
                | true => exact iteF (y2 H4 (by show (if stepB y = true then none else _) = none; rw [st, hn]; rfl) k4)
                | false => exact iteT ⟨_, rfl, y1 _ H4 (by show (if stepB y = true then none else _) = _; rw [st, hn]; rfl) k4⟩
            · have e4 : ((cuts z).map V.str).filterMap (fun x => match x with | .str y => if stepB y = true then none else some (.str y) | _ => none) = ((cuts z).filter fun y => !stepB y).map V.str := by
                rw [List.filterMap_map]
                induction cuts z with
                | nil => rfl
                | cons c r ih => cases hl : stepB c <;> simp [hl] <;> exact ih
              rw [e4] at at_D
              refine ⟨(by show 0 ≤ sizeLine; decide), fun p3 np3 => ?_⟩
              refine ne_nil_of (zs := (cuts z).filter fun y => !stepB y) (SqL.of (by rw [upd_ne (ne_of_none at_D np3)]; exact at_D)) (SqL.of upd_same) (fun y hy => (tx y (List.mem_filter.mp hy).1).ok) ?_
              refine ⟨_, rfl, ?_⟩
              have sm3 := (sm2.trans sm).trans (same_new (o := .lst []) np3)
              have e5 : (((cuts z).filter fun y => !stepB y).isEmpty) = (cuts z).all stepB := by
                rw [Bool.eq_iff_iff, List.all_eq_true]
                simp
              rw [e5]
              cases hall : (cuts z).all stepB with
              | true =>
                rw [hall] at k
                have at3 : upd H' p3 (.lst []) p1 = some (.lst ((cuts z).map V.str)) := by
                  rw [upd_ne (ne_of_none (sm _ _ at1) np3)]; exact sm _ _ at1
                exact iteF ⟨_, rfl, p1, _, rfl, .inl ⟨SqL.of at3, fun l nl => k _ _ (sm3.trans (same_new nl)) rfl⟩⟩
              | false =>
                rw [hall] at k
                exact iteT (k _ _ sm3 rfl)
end
end K1
end

section
open PySem PySem.Spec PyProof.Rows L2 Hv
local macro_rules | `(tactic| walk_at "rd") => `(tactic| repeat (first
  | refine ⟨_, rfl, ?_⟩
  | refine ⟨_, _, rfl, rfl, ?_⟩
  | refine ⟨_, _, rfl, ?_⟩
  | refine And.intro (show (0 : Int) < _ by omega) ?_
  | refine And.intro (show CDiv _ _ from ⟨by omega, by omega⟩) ?_
  | refine And.intro (show CMul _ _ from Or.inl ⟨by omega, by omega⟩) ?_
  | refine And.intro (show CMul _ _ from Or.inr ⟨by omega, by omega⟩) ?_
  | refine And.intro (show CPow _ _ from ⟨by decide, by decide, by decide⟩) ?_))
namespace K1
theorem But.trans {p : Addr} {H H1 H2 : Hp} (a : But p H H1) (b : But p H1 H2) : But p H H2 := fun c o n e => b c o n (a c o n e)
theorem But.refl (p : Addr) (H : Hp) : But p H H := fun _ _ _ e => e
theorem But.of {p : Addr} {H H' : Hp} (s : Same H H') : But p H H' := fun c o _ e => s c o e
theorem Pool.same {H H' : Hp} {p : Addr} (s : Same H H') (h : Pool H p) : Pool H' p := let ⟨a, b, c, e, r⟩ := h; ⟨a, b, c, s _ _ e, r⟩
/-- what is tracked away from p stands -/
theorem But.at {p b : Addr} {o : HO} {H H' : Hp} (s : But p H H') (hp : Pool H p) (e : H b = some o) (no : ∀ x y z, o ≠ .lst [.int x, .int y, .bl z]) : H' b = some o := by
  refine s b o ?_ e
  rintro rfl
  obtain ⟨x, y, z, e2, _⟩ := hp
  rw [e] at e2
  exact no x y z (Option.some.inj e2)
abbrev s_right : Stmt := top 20
theorem sc_right : FnScope ["_law_thing", "_law_told"] ["_law_thing"] (defScope s_right) :=
  ⟨rfl, rfl, rfl, by decide +kernel, rfl, by decide +kernel, by decide +kernel⟩
def spRight (K : PySem.W.Frag) : Sp := fun vs H Q _ => ∃ (x : V) (o : Option Str), vs = [x] ∧ Kd K H x o ∧ (∀ z, o = some z → Tx 990 z) ∧ ∀ H', Same H H' → Q (.bl true) H'
/-- the law's own defs -/
structure Al where
  begun : Addr
  take : Addr
  lis_name : Addr
  lsteps : Addr
  lodd : Addr
  lis_signs : Addr
  bent : Addr
  right : Addr
  all_signs : Addr
structure TxtL (K : PySem.W.Frag) (mg : Str → Option Value) (l : Al) (a : Ad) : Prop where
  b_repr : mg "repr" = none
  g_begun : mg "_law_begun" = some (.ref l.begun)
  g_take : mg "_law_take" = some (.ref l.take)
  g_lis_name : mg "_law_is_name" = some (.ref l.lis_name)
  g_lsteps : mg "_law_steps" = some (.ref l.lsteps)
  g_lodd : mg "_law_odd" = some (.ref l.lodd)
  g_lis_signs : mg "_law_is_signs" = some (.ref l.lis_signs)
  g_bent : mg "_law_bent" = some (.ref l.bent)
  g_right : mg "_law_right" = some (.ref l.right)
  g_all_signs : mg "_law_all_signs" = some (.ref l.all_signs)
  g_is_path : mg "is_path" = some (.ref a.is_path)
  g_is_signs : mg "is_signs" = some (.ref a.is_signs)
  k_begun : PySem.W.keepIn K (.ref l.begun) = true
  k_take : PySem.W.keepIn K (.ref l.take) = true
  k_lis_name : PySem.W.keepIn K (.ref l.lis_name) = true
  k_lsteps : PySem.W.keepIn K (.ref l.lsteps) = true
  k_lodd : PySem.W.keepIn K (.ref l.lodd) = true
  k_lis_signs : PySem.W.keepIn K (.ref l.lis_signs) = true
  k_bent : PySem.W.keepIn K (.ref l.bent) = true
  k_right : PySem.W.keepIn K (.ref l.right) = true
  k_all_signs : PySem.W.keepIn K (.ref l.all_signs) = true
  k_is_path : PySem.W.keepIn K (.ref a.is_path) = true
  k_is_signs : PySem.W.keepIn K (.ref a.is_signs) = true
section
variable {P : Program} {w : World} {K : PySem.W.Frag} {mg : Str → Option Value} {base : Heap} {a : Ad} {l : Al}
theorem ok_right {f : Addr} {fd f1 f2 f3 f4 f5 f6 : FuncData} (F : Fun K "_law_right" "_law_right" s_right f fd) (T : Txt K mg a) (L : TxtL K mg l a)
    (G1 : Keeps P w K mg base CX0 1 a.is_name f1 ["thing"] (spTell K nameB 1000)) (b1 : Binds K f1 ["thing"] [])
    (G2 : Keeps P w K mg base CX0 4 a.is_path f2 ["thing"] (spTell K pathB 1000)) (b2 : Binds K f2 ["thing"] [])
    (G3 : Keeps P w K mg base CX0 1 a.is_signs f3 ["thing"] (spTell K signsB 1000)) (b3 : Binds K f3 ["thing"] [])
    (G4 : Keeps P w K mg base CX0 1 l.lis_name f4 ["_law_thing"] (spTellT K nameB)) (b4 : Binds K f4 ["_law_thing"] [])
    (G5 : Keeps P w K mg base CX0 2 l.lsteps f5 ["_law_thing"] (spLSteps K)) (b5 : Binds K f5 ["_law_thing"] [])
    (G6 : Keeps P w K mg base CX0 1 l.lis_signs f6 ["_law_thing"] (spTellT K signsB)) (b6 : Binds K f6 ["_law_thing"] []) :
    Keeps P w K mg base CX0 5 f fd ["_law_thing"] (spRight K) := by
  refine keeps0 F sc_right (fun vs H Q E h => ?_) (fun cdv A outer s H vs Q E hr calm h => ?_)
  · obtain ⟨x, o, rfl, _⟩ := h
    rfl
  · obtain ⟨x, o, rfl, kd, sz, k⟩ := h
    have r1 : Room 1 _ := hr.mono (by decide)
    have r2 : Room 2 _ := hr.mono (by decide)
    refine ⟨_, pss_cons (ps_set (i := 1) sc_right.nd rfl (Or.inl rfl) (pe_lst (pa_cons (pe_v (callR_fn G1 r1 calm b1 .nil pass0) (by rfl) T.g_is_name T.k_is_name (pa_cons (pv 0) pa_nil))
        (pa_cons (pe_v (callR_fn G2 hr calm b2 .nil pass0) (by rfl) L.g_is_path L.k_is_path (pa_cons (pv 0) pa_nil))
        (pa_cons (pe_v (callR_fn G3 r1 calm b3 .nil pass0) (by rfl) L.g_is_signs L.k_is_signs (pa_cons (pv 0) pa_nil)) pa_nil)))))
      (pss_one (ps_ret (pe_cmpR op_eq (pe_callB (call_reprD calm (hu_rep hr)) (by rfl) L.b_repr (by decide +kernel) (pa_cons (pv 1) pa_nil))
        (pe_callB (call_reprD calm (hu_rep hr)) (by rfl) L.b_repr (by decide +kernel) (pa_cons (pe_lst (pa_cons (pe_v (callR_fn G4 r1 calm b4 .nil pass0) (by rfl) L.g_lis_name L.k_lis_name (pa_cons (pv 0) pa_nil))
          (pa_cons (pe_cmpR op_notN (pe_v (callR_fn G5 r2 calm b5 .nil pass0) (by rfl) L.g_lsteps L.k_lsteps (pa_cons (pv 0) pa_nil)) pe_non (nomark _))
          (pa_cons (pe_v (callR_fn G6 r1 calm b6 .nil pass0) (by rfl) L.g_lis_signs L.k_lis_signs (pa_cons (pv 0) pa_nil)) pa_nil)))) pa_nil)) (nomark _)))), ?_⟩
    have s1 : ∀ z, o = some z → z.cps.size ≤ 1000 := fun z e => Nat.le_trans (sz z e).1 (by decide)
    have s2 : ∀ z, o = some z → Tx 1000 z := fun z e => (sz z e).up (by decide)
    refine ⟨_, rfl, x, o, rfl, kd, s1, fun H1 m1 => ?_⟩
    refine ⟨_, rfl, x, o, rfl, same_kd m1 kd, s1, fun H2 m2 => ?_⟩
    have m12 := m1.trans m2
    refine ⟨_, rfl, x, o, rfl, same_kd m12 kd, s1, fun H3 m3 => ?_⟩
    have m13 := m12.trans m3
    refine ⟨(by show 3 ≤ sizeLine; decide), fun p np => ?_⟩
    have m14 := m13.trans (same_new (o := .lst [V.bl (o.elim false nameB), V.bl (o.elim false pathB), V.bl (o.elim false signsB)]) np)
    obtain ⟨q1, q2, q3, q4⟩ := rep3 (o.elim false nameB) (o.elim false pathB) (o.elim false signsB)
    refine ⟨_, rfl, p, _, rfl, .lst (SqL.of upd_same) (.cons (.bl _) (.cons (.bl _) (.cons (.bl _) .nil))), q1, q2, q3, q4, ?_⟩
    refine ⟨_, rfl, x, o, rfl, same_kd m14 kd, s2, fun H5 m5 => ?_⟩
    have m15 := m14.trans m5
    refine ⟨_, rfl, x, o, rfl, same_kd m15 kd, sz, fun v H6 m6 hv => ⟨rfl, ?_⟩⟩
    have m16 := m15.trans m6
    refine ⟨_, rfl, x, o, rfl, same_kd m16 kd, s2, fun H7 m7 => ?_⟩
    have m17 := m16.trans m7
    refine ⟨(by show 3 ≤ sizeLine; decide), fun p2 np2 => ?_⟩
    rw [hv, Bool.not_not]
    refine ⟨p2, _, rfl, .lst (SqL.of upd_same) (.cons (.bl _) (.cons (.bl _) (.cons (.bl _) .nil))), q1, q2, q3, q4, rfl, ?_⟩
    rw [decide_eq_true rfl]
    exact k _ (m17.trans (same_new np2))
abbrev s_all_signs : Stmt := top 21
theorem sc_all_signs : FnScope ["_law_some"] [] (defScope s_all_signs) :=
  ⟨rfl, rfl, rfl, by decide +kernel, rfl, by decide +kernel, by decide +kernel⟩
def allS : Str := (Str.ofString " !\"#$&'()*+,-./0123456789:;<=>?\x40[]^_`{|}~\n\t\\") ++ (Str.ofString "ABCDEFGHIJKLMNOPQRSTUVWXYZabcdefghijklmnopqrstuvwxyz")
def spAll : Sp := fun vs H Q _ => vs = [] ∧ Q (.str allS) H
theorem ok_all_signs {f : Addr} {fd : FuncData} (F : Fun K "_law_all_signs" "_law_all_signs" s_all_signs f fd) : Keeps P w K mg base CX0 1 f fd [] spAll := by
  refine keeps0 F sc_all_signs (fun vs H Q E h => ?_) (fun cdv A outer s H vs Q E hr calm h => ?_)
  · obtain ⟨rfl, _⟩ := h
    rfl
  · obtain ⟨rfl, k⟩ := h
    refine ⟨_, pss_cons (ps_set (i := 0) sc_all_signs.nd rfl (Or.inl rfl) pe_str) (pss_one (ps_ret (pe_op op_add_str (pv 0) pe_str))), ?_⟩
    exact ⟨_, rfl, _, _, rfl, rfl, (by decide +kernel), k⟩
theorem allS_tx : Tx 100 allS := ⟨by decide +kernel, by decide +kernel⟩
abbrev s_bent : Stmt := top 19
theorem sc_bent : FnScope ["_law_state", "_law_text", "_law_spot", "_law_sign"] ["_law_state", "_law_text"] (defScope s_bent) :=
  ⟨rfl, rfl, rfl, by decide +kernel, rfl, by decide +kernel, by decide +kernel⟩
def spBent : Sp := fun vs H Q _ => ∃ (p : Addr) (z : Str), vs = [.ref p, .str z] ∧ Pool H p ∧ Tx 100 z ∧ ∀ y H', Tx 910 y → But p H H' → Pool H' p → Q (.str y) H'
def bends : List Str := ["a", "z", "/", ".", "..", " ", "A", "1", "-", "\n", "", "aaaa", "\t", "~"]
theorem bends_tx : ∀ y ∈ bends, Tx 4 y := by
  have e : bends.all (fun y => decide (y.cps.size ≤ 4) && y.cps.toList.all fun c => decide (c < 128)) = true := by decide +kernel
  intro y hy
  have h := List.all_eq_true.mp e y hy
  rw [Bool.and_eq_true, decide_eq_true_iff, List.all_eq_true] at h
  exact ⟨h.1, fun c hc => of_decide_eq_true (h.2 c hc)⟩
theorem cut_tx {n : Nat} {z : Str} (h : Tx n z) (lo hi : Option Int) : Tx n (cutS z lo hi) := by
  have sub : ∀ c ∈ (cutS z lo hi).cps.toList, c ∈ z.cps.toList := fun c hc => List.mem_of_mem_drop (List.mem_of_mem_take (show c ∈ (z.cps.toList.drop _).take _ from hc))
  refine ⟨?_, fun c hc => h.2 c (sub c hc)⟩
  show ((z.cps.toList.drop _).take _).toArray.size ≤ n
  have := h.1
  simp only [List.size_toArray, List.length_take, List.length_drop, Array.length_toList]
  omega
theorem app_tx {n m : Nat} {y z : Str} (h : Tx n y) (g : Tx m z) : Tx (n + m) (y ++ z) := by
  have e : (y ++ z).cps = y.cps ++ z.cps := rfl
  refine ⟨?_, fun c hc => ?_⟩
  · rw [e, Array.size_append]; have := h.1; have := g.1; omega
  · rw [e, Array.toList_append, List.mem_append] at hc
    exact hc.elim (h.2 c) (g.2 c)
theorem ok_bent {f : Addr} {fd f1 : FuncData} (F : Fun K "_law_bent" "_law_bent" s_bent f fd) (T : Txt K mg a) (L : TxtL K mg l a)
    (G : Keeps P w K mg base CX0 1 l.take f1 ["_law_state", "_law_many"] spTake) (b : Binds K f1 ["_law_state", "_law_many"] []) : Keeps P w K mg base CX0 2 f fd ["_law_state", "_law_text"] spBent := by
  refine keeps0 F sc_bent (fun vs H Q E h => ?_) (fun cdv A outer s H vs Q E hr calm h => ?_)
  · obtain ⟨p, z, rfl, _⟩ := h
    rfl
  · obtain ⟨p, z, rfl, pool, tz, k⟩ := h
    have hs : z.length ≤ sizeLine := Nat.le_trans (show z.length ≤ 100 from tz.1) (by decide)
    have hz : z.cps.size ≤ 100 := tz.1
    refine ⟨_, pss_cons (ps_set (i := 2) sc_bent.nd rfl (Or.inl rfl) (pe_v (callR_fn G hr calm b .nil pass0) (by rfl) L.g_take L.k_take (pa_cons (pv 0) (pa_cons (pe_op op_add (pe_callB call_len_str (by rfl) T.b_len PySem.boot_len (pa_cons (pv 1) pa_nil)) pe_int) pa_nil))))
      (pss_cons (ps_set (i := 3) sc_bent.nd rfl (Or.inl rfl) (pe_ix ix_list (pe_lst (pa_cons pe_str (pa_cons pe_str (pa_cons pe_str (pa_cons pe_str (pa_cons pe_str (pa_cons pe_str (pa_cons pe_str (pa_cons pe_str (pa_cons pe_str (pa_cons pe_str (pa_cons pe_str (pa_cons pe_str (pa_cons pe_str (pa_cons pe_str pa_nil)))))))))))))))
        (pe_v (callR_fn G hr calm b .nil pass0) (by rfl) L.g_take L.k_take (pa_cons (pv 0) (pa_cons pe_int pa_nil))) (fun _ _ => rfl)))
      (pss_one (ps_ret (pe_op op_add_str (pe_op op_add_str (pe_slice sl_str (pv 1) po_none (po_some (pv 2))) (pv 3))
        (pe_slice sl_str (pv 1) (po_some (pe_op op_add (pv 2) (pe_v (callR_fn G hr calm b .nil pass0) (by rfl) L.g_take L.k_take (pa_cons (pv 0) (pa_cons pe_int pa_nil))))) po_none))))), ?_⟩
    refine ⟨_, rfl, _, rfl, z, rfl, hs, _, _, rfl, rfl, p, _, rfl, pool, (by show (0 : Int) < (z.length : Int) + 1; omega), (by show (z.length : Int) + 1 < _; unfold Str.length; omega), fun r H1 r0 r1 but1 pool1 => ?_⟩
    refine ⟨(by show 14 ≤ sizeLine; decide), fun q nq => ?_⟩
    have pool2 : Pool (upd H1 q (.lst (bends.map V.str))) p := pool1.same (same_new nq)
    refine ⟨_, rfl, p, 14, rfl, pool2, (by decide), (by decide), fun r' H2 r0' r1' but2 pool3 => ?_⟩
    obtain ⟨y, hy, at_y⟩ := item_strs (zs := bends) r0' r1'
    have at_q : H2 q = some (.lst (bends.map V.str)) := but2.at pool2 upd_same (fun x y z => by intro e; cases e)
    refine ⟨q, _, r', _, rfl, rfl, SqL.of at_q, at_y, ?_⟩
    have ty := bends_tx y hy
    have tc := cut_tx tz none (some r)
    have szc : (cutS z none (some r)).length ≤ 100 := tc.1
    have szy : y.length ≤ 4 := ty.1
    refine ⟨_, rfl, _, rfl, r, rfl, z, rfl, hs, _, rfl, _, _, rfl, rfl, Nat.le_trans (Nat.add_le_add szc szy) (by decide), ?_⟩
    refine ⟨_, rfl, _, rfl, _, rfl, p, 2, rfl, pool3, (by decide), (by decide), fun r'' H3 r0'' r1'' but3 pool4 => ?_⟩
    have tcy := app_tx tc ty
    have tc2 := cut_tx tz (some (r + r'')) none
    have szcy : (cutS z none (some r) ++ y).length ≤ 104 := tcy.1
    have szc2 : (cutS z (some (r + r'')) none).length ≤ 100 := tc2.1
    refine ⟨_, _, rfl, rfl, _, rfl, z, rfl, hs, _, _, rfl, rfl, Nat.le_trans (Nat.add_le_add szcy szc2) (by decide), ?_⟩
    exact k _ H3 ((app_tx tcy tc2).up (by decide)) (((but1.trans (But.of (same_new nq))).trans but2).trans but3) pool4
abbrev s_lodd : Stmt := top 17
theorem sc_lodd : FnScope ["_law_state", "_law_some"] ["_law_state"] (defScope s_lodd) :=
  ⟨rfl, rfl, rfl, by decide +kernel, rfl, by decide +kernel, by decide +kernel⟩
def spOdd (K : PySem.W.Frag) : Sp := fun vs H Q _ => ∃ (p : Addr), vs = [.ref p] ∧ Pool H p ∧
  ∀ x o H', Kd K H' x o → (∀ z, o = some z → Tx 20 z) → But p H H' → Pool H' p → Q x H'
theorem tx_of {n : Nat} {z : Str} (h : (decide (z.cps.size ≤ n) && z.cps.toList.all fun c => decide (c < 128)) = true) : Tx n z := by
  rw [Bool.and_eq_true, decide_eq_true_iff, List.all_eq_true] at h
  exact ⟨h.1, fun c hc => of_decide_eq_true (h.2 c hc)⟩
theorem kd_non {K : PySem.W.Frag} {H : Hp} : Kd K H .non none := .oth (.base .non) (kit_ty (show kitB "NoneType" "str" = some false by decide +kernel))
theorem kd_bl {K : PySem.W.Frag} {H : Hp} {b : Bool} : Kd K H (.bl b) none := .oth (.base (.bl b)) (kit_ty (show kitB "bool" "str" = some false by decide +kernel))
theorem kd_int {K : PySem.W.Frag} {H : Hp} {i : Int} : Kd K H (.int i) none := .oth (.base (.int i)) (kit_ty (show kitB "int" "str" = some false by decide +kernel))
theorem kd_lst {K : PySem.W.Frag} {H : Hp} {q : Addr} {xs : List V} (h : H q = some (.lst xs)) : Kd K H (.ref q) none := .oth (.base (.lst h)) (kit_ty (show kitB "list" "str" = some false by decide +kernel))
theorem kd_tup {K : PySem.W.Frag} {H : Hp} {q : Addr} {xs : List V} (h : H q = some (.tup xs)) : Kd K H (.ref q) none := .oth (.base (.tup h)) (kit_ty (show kitB "tuple" "str" = some false by decide +kernel))
theorem kd_dK {K : PySem.W.Frag} {H : Hp} {q : Addr} {xs : List (Key × V)} (h : H q = some (.dK xs)) : Kd K H (.ref q) none := .oth (.base (.dK h)) (kit_ty (show kitB "dict" "str" = some false by decide +kernel))
theorem ok_lodd {f : Addr} {fd f1 : FuncData} (F : Fun K "_law_odd" "_law_odd" s_lodd f fd) (L : TxtL K mg l a)
    (G : Keeps P w K mg base CX0 1 l.take f1 ["_law_state", "_law_many"] spTake) (b : Binds K f1 ["_law_state", "_law_many"] []) : Keeps P w K mg base CX0 2 f fd ["_law_state"] (spOdd K) := by
  refine keeps0 F sc_lodd (fun vs H Q E h => ?_) (fun cdv A outer s H vs Q E hr calm h => ?_)
  · obtain ⟨p, rfl, _⟩ := h
    rfl
  · obtain ⟨p, rfl, pool, k⟩ := h
    refine ⟨_, pss_cons (ps_set (i := 1) sc_lodd.nd rfl (Or.inl rfl) (pe_lst (pa_cons pe_non (pa_cons pe_bl (pa_cons pe_int (pa_cons pe_int (pa_cons (pe_un un_neg pe_int) (pa_cons (pe_tup pa_nil) (pa_cons (pe_lst pa_nil) (pa_cons pe_dnewK (pa_cons (pe_tup (pa_cons pe_str pa_nil)) (pa_cons (pe_lst (pa_cons pe_str pa_nil))
        (pa_cons pe_str (pa_cons pe_str (pa_cons pe_str (pa_cons pe_str (pa_cons pe_str (pa_cons pe_str (pa_cons pe_str (pa_cons pe_str pa_nil))))))))))))))))))))
      (pss_one (ps_ret (pe_ix ix_list (pe_op op_cat (pv 1) (pe_lst (pa_cons pe_str pa_nil))) (pe_v (callR_fn G hr calm b .nil pass0) (by rfl) L.g_take L.k_take (pa_cons (pv 0) (pa_cons pe_int pa_nil))) (fun _ _ => rfl)))), ?_⟩
    refine ⟨_, rfl, (by show 0 ≤ sizeLine; decide), fun t1 n1 => ⟨(by show 0 ≤ sizeLine; decide), fun l1 n2 => fun d1 n3 => ⟨(by show 1 ≤ sizeLine; decide), fun t2 n4 => ⟨(by show 1 ≤ sizeLine; decide), fun l2 n5 => ⟨(by show 18 ≤ sizeLine; decide), fun q n6 => ?_⟩⟩⟩⟩⟩
    have m1 := same_new (o := .tup []) n1
    have m2 := same_new (o := .lst []) n2
    have m3 := same_new (o := .dK []) n3
    have m4 := same_new (o := .tup [V.str "a"]) n4
    have m5 := same_new (o := .lst [V.str "a"]) n5
    have m6 := same_new (o := .lst [V.non, V.bl true, V.int 0, V.int 5, V.int (-1), V.ref t1, V.ref l1, V.ref d1, V.ref t2, V.ref l2, V.str "", V.str " ", V.str "a b", V.str "A", V.str "a1", V.str "abcdefghi", V.str "a\n", V.str "-"]) n6
    have a5 := m6 _ _ (upd_same (H := upd (upd (upd (upd H t1 (HO.tup [])) l1 (HO.lst [])) d1 (HO.dK [])) t2 (HO.tup [V.str "a"])) (a := l2) (o := .lst [V.str "a"]))
    have a4 := m6 _ _ (m5 _ _ (upd_same (H := upd (upd (upd H t1 (HO.tup [])) l1 (HO.lst [])) d1 (HO.dK [])) (a := t2) (o := .tup [V.str "a"])))
    have a3 := m6 _ _ (m5 _ _ (m4 _ _ (upd_same (H := upd (upd H t1 (HO.tup [])) l1 (HO.lst [])) (a := d1) (o := .dK []))))
    have a2 := m6 _ _ (m5 _ _ (m4 _ _ (m3 _ _ (upd_same (H := upd H t1 (HO.tup [])) (a := l1) (o := .lst [])))))
    have a1 := m6 _ _ (m5 _ _ (m4 _ _ (m3 _ _ (m2 _ _ (upd_same (H := H) (a := t1) (o := .tup []))))))
    have a6 := upd_same (H := upd (upd (upd (upd (upd H t1 (HO.tup [])) l1 (HO.lst [])) d1 (HO.dK [])) t2 (HO.tup [V.str "a"])) l2 (HO.lst [V.str "a"])) (a := q)
      (o := .lst [V.non, V.bl true, V.int 0, V.int 5, V.int (-1), V.ref t1, V.ref l1, V.ref d1, V.ref t2, V.ref l2, V.str "", V.str " ", V.str "a b", V.str "A", V.str "a1", V.str "abcdefghi", V.str "a\n", V.str "-"])
    have m := ((((m1.trans m2).trans m3).trans m4).trans m5).trans m6
    revert a1 a2 a3 a4 a5 a6 m
    generalize hG : upd (upd (upd (upd (upd (upd H t1 (HO.tup [])) l1 (HO.lst [])) d1 (HO.dK [])) t2 (HO.tup [V.str "a"])) l2 (HO.lst [V.str "a"])) q
      (HO.lst [V.non, V.bl true, V.int 0, V.int 5, V.int (-1), V.ref t1, V.ref l1, V.ref d1, V.ref t2, V.ref l2, V.str "", V.str " ", V.str "a b", V.str "A", V.str "a1", V.str "abcdefghi", V.str "a\n", V.str "-"]) = H6
    intro a5 a4 a3 a2 a1 a6 m
    refine ⟨_, rfl, (by show 1 ≤ sizeLine; decide), fun q2 n7 => ⟨q, q2, _, _, rfl, rfl, same_new n7 _ _ a6, upd_same, (by show 18 + 1 ≤ sizeLine; decide), fun q3 n8 => ?_⟩⟩
    have m7 := same_new (o := .lst [V.str "a//b"]) n7
    have m8 := m7.trans (same_new (o := .lst ([V.non, V.bl true, V.int 0, V.int 5, V.int (-1), V.ref t1, V.ref l1, V.ref d1, V.ref t2, V.ref l2, V.str "", V.str " ", V.str "a b", V.str "A", V.str "a1", V.str "abcdefghi", V.str "a\n", V.str "-"] ++ [V.str "a//b"])) n8)
    refine ⟨_, rfl, p, 19, rfl, (pool.same m).same m8, (by decide), (by decide), fun r H9 r0 r1 but pool9 => ?_⟩
    have pool8 := (pool.same m).same m8
    have at3 := but.at pool8 (upd_same (a := q3)) (fun x y z => by intro e; cases e)
    obtain ⟨v, mem, at_v⟩ := item_any (xs := [V.non, V.bl true, V.int 0, V.int 5, V.int (-1), V.ref t1, V.ref l1, V.ref d1, V.ref t2, V.ref l2, V.str "", V.str " ", V.str "a b", V.str "A", V.str "a1", V.str "abcdefghi", V.str "a\n", V.str "-"] ++ [V.str "a//b"]) r0 r1
    refine ⟨q3, _, r, v, rfl, rfl, SqL.of at3, at_v, ?_⟩
    have go : ∀ o, Kd K H9 v o → (∀ z, o = some z → Tx 20 z) → Q v H9 := fun o kd tx => k v o H9 kd tx (((But.of m).trans (But.of m8)).trans but) pool9
    have st : ∀ z, (decide (z.cps.size ≤ 20) && z.cps.toList.all fun c => decide (c < 128)) = true → v = .str z → Q v H9 := fun z h e => go (some z) (by rw [e]; exact .str z) fun z' e' => by cases e'; exact tx_of h
    have no : Kd K H9 v none → Q v H9 := fun kd => go none kd fun z e => nomatch e
    have keep : ∀ {b : Addr} {o : HO}, H6 b = some o → (∀ x y z, o ≠ .lst [.int x, .int y, .bl z]) → H9 b = some o := fun e ne => but.at pool8 (m8 _ _ e) ne
    simp only [List.cons_append, List.nil_append, List.mem_cons, List.not_mem_nil, or_false] at mem
    rcases mem with e | e | e | e | e | e | e | e | e | e | e | e | e | e | e | e | e | e | e
    · exact no (by rw [e]; exact kd_non)
    · exact no (by rw [e]; exact kd_bl)
    · exact no (by rw [e]; exact kd_int)
    · exact no (by rw [e]; exact kd_int)
    · exact no (by rw [e]; exact kd_int)
    · exact no (by rw [e]; exact kd_tup (keep a1 fun _ _ _ z => by cases z))
    · exact no (by rw [e]; exact kd_lst (keep a2 fun _ _ _ z => by cases z))
    · exact no (by rw [e]; exact kd_dK (keep a3 fun _ _ _ z => by cases z))
    · exact no (by rw [e]; exact kd_tup (keep a4 fun _ _ _ z => by cases z))
    · exact no (by rw [e]; exact kd_lst (keep a5 fun _ _ _ z => by cases z))
    all_goals exact st _ (by decide +kernel) e
end
end K1
end

section
open PySem PySem.Spec PyProof.Rows L2 Hv
local macro_rules | `(tactic| walk_at "rd") => `(tactic| repeat (first
  | refine ⟨_, rfl, ?_⟩
  | refine ⟨_, _, rfl, rfl, ?_⟩
  | refine ⟨_, _, rfl, ?_⟩
  | refine And.intro (show (0 : Int) < _ by omega) ?_
  | refine And.intro (show CDiv _ _ from ⟨by omega, by omega⟩) ?_
  | refine And.intro (show CMul _ _ from Or.inl ⟨by omega, by omega⟩) ?_
  | refine And.intro (show CMul _ _ from Or.inr ⟨by omega, by omega⟩) ?_
  | refine And.intro (show CPow _ _ from ⟨by decide, by decide, by decide⟩) ?_))
namespace K1
theorem same_but {p : Addr} {H H1 H2 : Hp} (s : Same H H1) (n : H p = none) (b : But p H1 H2) : Same H H2 := fun c o e =>
  b c o (fun z => by rw [z, n] at e; cases e) (s c o e)
theorem join_tx : ∀ zs : List Str, (∀ z ∈ zs, Tx 8 z) → Tx (9 * zs.length) (Txt.join (Str.ofString "/") zs) := by
  intro zs h
  rw [show Txt.join (Str.ofString "/") zs = Str.join (Str.ofString "/") zs from StrLaws.glued_eq_join _ _]
  induction zs with
  | nil =>
    have e : (Str.join (Str.ofString "/") []).cps.toList = [] := by decide +kernel
    exact ⟨by decide +kernel, by intro c hc; rw [e] at hc; cases hc⟩
  | cons x r ih =>
    cases r with
    | nil => exact (h x (List.mem_cons_self ..)).up (by simp)
    | cons y r =>
      have t1 := h x (List.mem_cons_self ..)
      have t2 : Tx 1 (Str.ofString "/") := ⟨by decide +kernel, by decide +kernel⟩
      have t3 := ih fun z hz => h z (List.mem_cons_of_mem _ hz)
      exact (app_tx (app_tx t1 t2) t3).up (by simp only [List.length_cons]; omega)
theorem newG {H G : Hp} {p : Addr} {o : HO} (e : upd H p o = G) (n : H p = none) : Same H G ∧ G p = some o := by
  subst e
  exact ⟨same_new n, upd_same⟩
def L1 : List Str := [Txt.mul (Str.ofString "a") 8, Txt.mul (Str.ofString "a") 9, Str.ofString "/", Str.ofString ".", Str.ofString "..", Str.ofString "//", Str.ofString "a/", Str.ofString "/a/", Str.ofString "./a", Str.ofString "a/.", Str.ofString "/..", Str.ofString "...", Txt.mul (Str.ofString "x") 200, Txt.mul (Str.ofString "x") 201]
def allTx (n : Nat) (zs : List Str) : Bool := zs.all fun z => decide (z.cps.size ≤ n) && z.cps.toList.all fun c => decide (c < 128)
theorem allTx_of {n : Nat} {zs : List Str} (h : allTx n zs = true) : ∀ z ∈ zs, Tx n z := fun z hz => tx_of (List.all_eq_true.mp h z hz)
theorem L1_tx : ∀ z ∈ L1, Tx 300 z := allTx_of (by decide +kernel)
def J8 (x : Str) (n : Nat) : Str := Txt.join (Str.ofString "/") (List.replicate n x)
def L2' : List Str := [J8 (Str.ofString "a") 8, J8 (Str.ofString "a") 9, Str.ofString "/" ++ J8 (Str.ofString "..") 8, Str.ofString "/" ++ J8 (Str.ofString "..") 9]
theorem L2_tx : ∀ z ∈ L2', Tx 300 z := allTx_of (by decide +kernel)
def L3 : List Str := [Str.ofString "\n", Str.ofString "ijklmnop", Str.ofString "qrstuvwx", Str.ofString "yz/yz"]
theorem L3_tx : ∀ z ∈ L3, Tx 300 z := allTx_of (by decide +kernel)
def signs1 : List Str := allS.cps.toList.map fun c => (⟨#[c]⟩ : Str)
def signsA : List Str := allS.cps.toList.map fun c => Str.ofString "a" ++ (⟨#[c]⟩ : Str)
theorem signs1_tx : ∀ z ∈ signs1, Tx 300 z := allTx_of (by decide +kernel)
theorem signsA_tx : ∀ z ∈ signsA, Tx 300 z := allTx_of (by decide +kernel)
theorem signs1_is : allS.cps.toList.filterMap (fun c => some (V.str ⟨#[c]⟩)) = signs1.map V.str := by
  unfold signs1
  rw [List.map_map, List.filterMap_eq_map']
  rfl
theorem signsA_is : allS.cps.toList.filterMap (fun c => some (V.str (Str.ofString "a" ++ (⟨#[c]⟩ : Str)))) = signsA.map V.str := by
  unfold signsA
  rw [List.map_map, List.filterMap_eq_map']
  rfl
def LL : List Str := ((((L1 ++ L2') ++ L3) ++ signs1) ++ signsA) ++ [allS]
theorem LL_tx : ∀ z ∈ LL, Tx 300 z := by
  intro z hz
  simp only [LL, List.mem_append, List.mem_singleton] at hz
  rcases hz with ((((h | h) | h) | h) | h) | h
  · exact L1_tx z h
  · exact L2_tx z h
  · exact L3_tx z h
  · exact signs1_tx z h
  · exact signsA_tx z h
  · rw [h]; exact allS_tx.up (by decide)
theorem LL_len : LL.length ≤ 400 := by decide +kernel
theorem strs_ne (zs : List Str) (x y : Int) (b : Bool) : HO.lst (zs.map V.str) ≠ .lst [.int x, .int y, .bl b] := by
  intro e
  injection e with e
  cases zs with
  | nil => cases e
  | cons z r =>
    injection e with e _
    cases e
theorem sum_tx : ∀ zs : List Str, (∀ z ∈ zs, Tx 8 z) → (zs.map (·.length)).sum ≤ 8 * zs.length
  | [], _ => by simp
  | z :: r, h => by
    have h1 : z.length ≤ 8 := (h z (List.mem_cons_self ..)).1
    have h2 := sum_tx r fun y hy => h y (List.mem_cons_of_mem _ hy)
    simp only [List.map_cons, List.sum_cons, List.length_cons]
    omega
def abc : Str := Str.ofString "abcdefgh"
def zs3 (r : Int) : List Str := [Str.ofString "..", cutS abc none (some (1 + r)), Str.ofString "zz"]
theorem zs3_tx (r : Int) : ∀ z ∈ zs3 r, Tx 8 z := by
  intro z hz
  simp only [zs3, List.mem_cons, List.not_mem_nil, or_false] at hz
  rcases hz with h | h | h
  · rw [h]; exact tx_of (by decide +kernel)
  · rw [h]; exact cut_tx (tx_of (by decide +kernel)) _ _
  · rw [h]; exact tx_of (by decide +kernel)
def tops : List Str := [Str.ofString "", Str.ofString "/"]
theorem tops_tx : ∀ z ∈ tops, Tx 1 z := allTx_of (by decide +kernel)
abbrev s_law : Stmt := top 22
theorem sc_law : FnScope ["_law_script", "_law_some", "_law_sign", "_law_thing", "_law_k", "_law_state", "_law_steps_here", "_law_turn", "_law_path"] ["_law_script"] (defScope s_law) :=
  ⟨rfl, rfl, rfl, by decide +kernel, rfl, by decide +kernel, by decide +kernel⟩
def spLaw (K : PySem.W.Frag) : Sp := fun vs H Q _ => ∃ (q : Addr) (ns : List Int), vs = [.ref q] ∧ SqL K H q (ns.map V.int) ∧ ns.length ≤ 63 ∧ ∀ H', Q (.bl true) H'
/-- a list of plain texts stands at q -/
def Txts (H : Hp) (q : Addr) (n : Nat) : Prop := ∃ zs : List Str, H q = some (.lst (zs.map V.str)) ∧ zs.length ≤ n ∧ ∀ z ∈ zs, Tx 300 z
section
variable {P : Program} {w : World} {K : PySem.W.Frag} {mg : Str → Option Value} {base : Heap} {a : Ad} {l : Al}
theorem ok_law {f : Addr} {fd f1 f2 f3 f4 f5 f6 : FuncData} (F : Fun K "law" "law" s_law f fd) (T : Txt K mg a) (TB : TxtB mg) (L : TxtL K mg l a) (b_min : mg "min" = none)
    (G1 : Keeps P w K mg base CX0 1 l.begun f1 ["_law_script", "_law_k"] (spBegun K)) (b1 : Binds K f1 ["_law_script", "_law_k"] [])
    (G2 : Keeps P w K mg base CX0 1 l.take f2 ["_law_state", "_law_many"] spTake) (b2 : Binds K f2 ["_law_state", "_law_many"] [])
    (G3 : Keeps P w K mg base CX0 2 l.lodd f3 ["_law_state"] (spOdd K)) (b3 : Binds K f3 ["_law_state"] [])
    (G4 : Keeps P w K mg base CX0 2 l.bent f4 ["_law_state", "_law_text"] spBent) (b4 : Binds K f4 ["_law_state", "_law_text"] [])
    (G5 : Keeps P w K mg base CX0 5 l.right f5 ["_law_thing"] (spRight K)) (b5 : Binds K f5 ["_law_thing"] [])
    (G6 : Keeps P w K mg base CX0 1 l.all_signs f6 [] spAll) (b6 : Binds K f6 [] []) :
    Keeps P w K mg base CX0 6 f fd ["_law_script"] (spLaw K) := by
  refine keeps0 F sc_law (fun vs H Q E h => ?_) (fun cdv A outer s H vs Q E hr calm h => ?_)
  · obtain ⟨q, ns, rfl, _⟩ := h
    rfl
  · obtain ⟨q, ns, rfl, sq, few, k⟩ := h
    have r1 : Room 1 _ := hr.mono (by decide)
    have r2 : Room 2 _ := hr.mono (by decide)
    refine ⟨_, pss_cons (ps_set (i := 1) sc_law.nd rfl (Or.inl rfl) (pe_lst (pa_cons (pe_op op_mulS pe_str pe_int) (pa_cons (pe_op op_mulS pe_str pe_int) (pa_cons pe_str (pa_cons pe_str (pa_cons pe_str (pa_cons pe_str (pa_cons pe_str (pa_cons pe_str (pa_cons pe_str (pa_cons pe_str (pa_cons pe_str (pa_cons pe_str (pa_cons (pe_op op_mulS pe_str pe_int) (pa_cons (pe_op op_mulS pe_str pe_int) pa_nil))))))))))))))))
      (pss_cons (ps_set (i := 1) sc_law.nd rfl (Or.inl rfl) (pe_op op_cat (pv 1) (pe_lst (pa_cons (pe_join pe_str (pe_op op_rep (pe_lst (pa_cons pe_str pa_nil)) pe_int)) (pa_cons (pe_join pe_str (pe_op op_rep (pe_lst (pa_cons pe_str pa_nil)) pe_int))
        (pa_cons (pe_op op_add_str pe_str (pe_join pe_str (pe_op op_rep (pe_lst (pa_cons pe_str pa_nil)) pe_int))) (pa_cons (pe_op op_add_str pe_str (pe_join pe_str (pe_op op_rep (pe_lst (pa_cons pe_str pa_nil)) pe_int))) pa_nil)))))))
      (pss_cons (ps_set (i := 1) sc_law.nd rfl (Or.inl rfl) (pe_op op_cat (pe_op op_cat (pv 1) (pe_lst (pa_cons pe_str (pa_cons pe_str (pa_cons pe_str (pa_cons pe_str pa_nil))))))
        (pe_lc (own := [("_law_sign", 2)]) (g := gName 2) (tt := tYes) rfl sc_law.nd (pi_str (pe_v0 (callR_fn G6 r1 calm b6 .nil pass0) (by rfl) L.g_all_signs L.k_all_signs)) (blkOk_by (N := ["_law_script", "_law_some", "_law_sign", "_law_thing", "_law_k", "_law_state", "_law_steps_here", "_law_turn", "_law_path"]) (sc := defScope s_law) (by decide +kernel))
          (fun _ _ _ _ _ => pg_name (i := 2) sc_law.nd rfl (Or.inl rfl)) (fun _ _ _ _ _ => pts_nil) (fun _ _ _ _ _ => pv 2))))
      (pss_cons (ps_set (i := 1) sc_law.nd rfl (Or.inl rfl) (pe_op op_cat (pe_op op_cat (pv 1)
        (pe_lc (own := [("_law_sign", 2)]) (g := gName 2) (tt := tYes) rfl sc_law.nd (pi_str (pe_v0 (callR_fn G6 r1 calm b6 .nil pass0) (by rfl) L.g_all_signs L.k_all_signs)) (blkOk_by (N := ["_law_script", "_law_some", "_law_sign", "_law_thing", "_law_k", "_law_state", "_law_steps_here", "_law_turn", "_law_path"]) (sc := defScope s_law) (by decide +kernel))
          (fun _ _ _ _ _ => pg_name (i := 2) sc_law.nd rfl (Or.inl rfl)) (fun _ _ _ _ _ => pts_nil) (fun _ _ _ _ _ => pe_op op_add_str pe_str (pv 2))))
        (pe_lst (pa_cons (pe_v0 (callR_fn G6 r1 calm b6 .nil pass0) (by rfl) L.g_all_signs L.k_all_signs) pa_nil))))
      (pss_cons (ps_if (pt_cmpR (op_neD (hu_of' hr))
          (pe_lc (own := [("_law_thing", 3)]) (g := gName 3) rfl sc_law.nd (pi_list (pv 1)) (blkOk_by (N := ["_law_script", "_law_some", "_law_sign", "_law_thing", "_law_k", "_law_state", "_law_steps_here", "_law_turn", "_law_path"]) (sc := defScope s_law) (by decide +kernel))
          (fun _ _ _ _ _ => pg_name (i := 3) sc_law.nd rfl (Or.inl rfl)) (fun _ _ _ _ _ => pts_one (pt_not (pt_val (pe_v (callR_fn G5 hr calm b5 .nil pass0) (by rfl) L.g_right L.k_right (pa_cons (pv 3) pa_nil))))) (fun _ _ _ _ _ => pv 3)) (pe_lst pa_nil) (nomark _)) (pss_one (ps_ret pe_bl)) pss_nil)
      (pss_cons (ps_for PassesOwn.never rfl (pi_range1 (by rfl) TB.b_range (pa_cons (pe_callB (call_max2 rfl) (by rfl) TB.b_max (by decide +kernel) (pa_cons pe_int (pa_cons (pe_callB (call_min2 rfl) (by rfl) b_min (by decide +kernel) (pa_cons pe_int (pa_cons (pe_callB call_len_seq (by rfl) T.b_len PySem.boot_len (pa_cons (pv 0) pa_nil)) pa_nil))) pa_nil))) pa_nil)) (pg_name (i := 4) sc_law.nd rfl (Or.inl rfl))
        (pss_cons (ps_set (i := 5) sc_law.nd rfl (Or.inl rfl) (pe_v (callR_fn G1 r1 calm b1 .nil pass0) (by rfl) L.g_begun L.k_begun (pa_cons (pv 0) (pa_cons (pv 4) pa_nil))))
        (pss_cons (ps_set (i := 6) sc_law.nd rfl (Or.inl rfl) (pe_lst pa_nil))
        (pss_cons (ps_for PassesOwn.never rfl (pi_range1 (by rfl) TB.b_range (pa_cons (pe_op op_add pe_int (pe_v (callR_fn G2 r1 calm b2 .nil pass0) (by rfl) L.g_take L.k_take (pa_cons (pv 5) (pa_cons pe_int pa_nil)))) pa_nil)) (pg_name (i := 7) sc_law.nd rfl (Or.inl rfl))
          (pss_one (ps_expr (pe_bm PySem.F.plainAttrs_list PySem.F.slot_list_append PySem.F.type_list_append mt_append (pv 6) (pa_cons (pe_ix ix_list (pe_lst (pa_cons pe_str (pa_cons (pe_slice sl_str pe_str po_none (po_some (pe_op op_add pe_int (pe_v (callR_fn G2 r1 calm b2 .nil pass0) (by rfl) L.g_take L.k_take (pa_cons (pv 5) (pa_cons pe_int pa_nil)))))) (pa_cons pe_str pa_nil))))
            (pe_v (callR_fn G2 r1 calm b2 .nil pass0) (by rfl) L.g_take L.k_take (pa_cons (pv 5) (pa_cons pe_int pa_nil))) (fun _ _ => rfl)) pa_nil)))))
        (pss_cons (ps_set (i := 8) sc_law.nd rfl (Or.inl rfl) (pe_op op_add_str (pe_ix ix_list (pe_lst (pa_cons pe_str (pa_cons pe_str pa_nil))) (pe_v (callR_fn G2 r1 calm b2 .nil pass0) (by rfl) L.g_take L.k_take (pa_cons (pv 5) (pa_cons pe_int pa_nil))) (fun _ _ => rfl)) (pe_join pe_str (pv 6))))
        (pss_one (ps_for PassesOwn.never rfl (pi_list (pe_lst (pa_cons (pv 8) (pa_cons (pe_ix ix_list (pv 6) pe_int (fun _ _ => rfl)) (pa_cons (pe_v (callR_fn G4 r2 calm b4 .nil pass0) (by rfl) L.g_bent L.k_bent (pa_cons (pv 5) (pa_cons (pv 8) pa_nil)))
            (pa_cons (pe_v (callR_fn G4 r2 calm b4 .nil pass0) (by rfl) L.g_bent L.k_bent (pa_cons (pv 5) (pa_cons (pe_ix ix_list (pv 6) pe_int (fun _ _ => rfl)) pa_nil))) (pa_cons (pe_v (callR_fn G3 r2 calm b3 .nil pass0) (by rfl) L.g_lodd L.k_lodd (pa_cons (pv 5) pa_nil)) pa_nil))))))) (pg_name (i := 3) sc_law.nd rfl (Or.inl rfl))
          (pss_one (ps_if (pt_not (pt_val (pe_v (callR_fn G5 hr calm b5 .nil pass0) (by rfl) L.g_right L.k_right (pa_cons (pv 3) pa_nil)))) (pss_one (ps_ret pe_bl)) pss_nil))))))))) 
      (pss_one (ps_ret pe_bl))))))), ?_⟩
    refine ⟨_, _, rfl, rfl, (by unfold PySem.MulOk; decide +kernel), _, _, rfl, rfl, (by unfold PySem.MulOk; decide +kernel), _, _, rfl, rfl, (by unfold PySem.MulOk; decide +kernel), _, _, rfl, rfl, (by unfold PySem.MulOk; decide +kernel), (by show 14 ≤ sizeLine; decide), fun p1 n1 => ?_⟩
    generalize hG : upd H p1 _ = H1
    have m1 : Same H H1 := by rw [← hG]; exact same_new n1
    have a1 : H1 p1 = some (.lst (L1.map V.str)) := by rw [← hG]; exact upd_same
    clear hG
    -- the joined ones
    refine ⟨_, rfl, ⟨_, rfl⟩, (by show 1 ≤ sizeLine; decide), fun x1 zx1 => ?_⟩
    generalize hG : upd _ x1 _ = G1
    obtain ⟨g1, y1⟩ := newG hG zx1
    clear hG
    refine ⟨x1, 8, _, rfl, rfl, y1, (by decide), (by decide), (by decide), fun x2 zx2 => ?_⟩
    generalize hG : upd _ x2 _ = G2
    obtain ⟨g2, y2⟩ := newG hG zx2
    clear hG
    refine ⟨_, x2, List.replicate 8 (Str.ofString "a"), rfl, rfl, .inl (SqL.of y2), (by decide +kernel), ?_⟩
    refine ⟨⟨_, rfl⟩, (by show 1 ≤ sizeLine; decide), fun x3 zx3 => ?_⟩
    generalize hG : upd _ x3 _ = G3
    obtain ⟨g3, y3⟩ := newG hG zx3
    clear hG
    refine ⟨x3, 9, _, rfl, rfl, y3, (by decide), (by decide), (by decide), fun x4 zx4 => ?_⟩
    generalize hG : upd _ x4 _ = G4
    obtain ⟨g4, y4⟩ := newG hG zx4
    clear hG
    refine ⟨_, x4, List.replicate 9 (Str.ofString "a"), rfl, rfl, .inl (SqL.of y4), (by decide +kernel), ?_⟩
    refine ⟨⟨_, rfl⟩, (by show 1 ≤ sizeLine; decide), fun x5 zx5 => ?_⟩
    generalize hG : upd _ x5 _ = G5
    obtain ⟨g5, y5⟩ := newG hG zx5
    clear hG
    refine ⟨x5, 8, _, rfl, rfl, y5, (by decide), (by decide), (by decide), fun x6 zx6 => ?_⟩
    generalize hG : upd _ x6 _ = G6
    obtain ⟨g6, y6⟩ := newG hG zx6
    clear hG
    refine ⟨_, x6, List.replicate 8 (Str.ofString ".."), rfl, rfl, .inl (SqL.of y6), (by decide +kernel), ?_⟩
    refine ⟨_, _, rfl, rfl, (by decide +kernel), ?_⟩
    refine ⟨⟨_, rfl⟩, (by show 1 ≤ sizeLine; decide), fun x7 zx7 => ?_⟩
    generalize hG : upd _ x7 _ = G7
    obtain ⟨g7, y7⟩ := newG hG zx7
    clear hG
    refine ⟨x7, 9, _, rfl, rfl, y7, (by decide), (by decide), (by decide), fun x8 zx8 => ?_⟩
    generalize hG : upd _ x8 _ = G8
    obtain ⟨g8, y8⟩ := newG hG zx8
    clear hG
    refine ⟨_, x8, List.replicate 9 (Str.ofString ".."), rfl, rfl, .inl (SqL.of y8), (by decide +kernel), ?_⟩
    refine ⟨_, _, rfl, rfl, (by decide +kernel), ?_⟩
    refine ⟨(by show 4 ≤ sizeLine; decide), fun p2 zp2 => ?_⟩
    generalize hG : upd _ p2 _ = G9
    obtain ⟨g9, y9⟩ := newG hG zp2
    clear hG
    have c9 := ((((((((g1.trans g2).trans g3).trans g4).trans g5).trans g6).trans g7).trans g8).trans g9)
    refine ⟨p1, p2, _, _, rfl, rfl, c9 _ _ a1, y9, (by show 14 + 4 ≤ sizeLine; decide), fun p3 zp3 => ?_⟩
    generalize hG : upd _ p3 _ = H2
    obtain ⟨e2, a2⟩ := newG hG zp3
    clear hG
    have m2 := (m1.trans c9).trans e2
    have a2' : H2 p3 = some (.lst ((L1 ++ L2').map V.str)) := by rw [List.map_append]; exact a2
    clear a2
    clear g1 g2 g3 g4 g5 g6 g7 g8 g9 c9 y1 y2 y3 y4 y5 y6 y7 y8 y9
    have shortS : allS.cps.size < sizeLine := by decide +kernel
    -- single signs
    refine ⟨_, rfl, (by show 4 ≤ sizeLine; decide), fun p4 z4 => ?_⟩
    generalize hG : upd _ p4 _ = H3
    obtain ⟨e3, a4⟩ := newG hG z4
    clear hG
    refine ⟨p3, p4, _, _, rfl, rfl, e3 _ _ a2', a4, (by decide +kernel), fun p5 z5 => ?_⟩
    generalize hG : upd _ p5 _ = H4
    obtain ⟨e4, a5⟩ := newG hG z5
    clear hG
    refine ⟨rfl, allS, rfl, fun D5 nD5 => ?_⟩
    refine lc_text (f := fun c => some (.str ⟨#[c]⟩)) nD5 shortS (fun c H' Post sm y1 y2 => ⟨rfl, ⟨_, rfl, y1 _ _ rfl (Same.refl H')⟩⟩) fun H5 e5 at5 => ?_
    rw [signs1_is] at at5
    refine ⟨p5, D5, _, _, rfl, rfl, e5 _ _ a5, at5, (by decide +kernel), fun p6 z6 => ?_⟩
    generalize hG : upd _ p6 _ = H6
    obtain ⟨e6, a6⟩ := newG hG z6
    clear hG
    have m6 := (((m2.trans e3).trans e4).trans e5).trans e6
    have a6' : H6 p6 = some (.lst ((((L1 ++ L2') ++ L3) ++ signs1).map V.str)) := by rw [List.map_append, List.map_append]; exact a6
    clear e3 e4 e5 e6 a4 a5 at5 a6
    -- an a ahead
    refine ⟨_, rfl, rfl, allS, rfl, fun D7 nD7 => ?_⟩
    refine lc_text (f := fun c => some (.str (Str.ofString "a" ++ (⟨#[c]⟩ : Str)))) nD7 shortS (fun c H' Post sm y1 y2 => ⟨rfl, ⟨_, rfl, _, _, rfl, rfl, (by show (Str.ofString "a").length + 1 ≤ sizeLine; decide +kernel), y1 _ _ rfl (Same.refl H')⟩⟩) fun H7 e7 at7 => ?_
    rw [signsA_is] at at7
    refine ⟨p6, D7, _, _, rfl, rfl, e7 _ _ a6', at7, (by decide +kernel), fun p8 z8 => ?_⟩
    generalize hG : upd _ p8 _ = H8
    obtain ⟨e8, a8⟩ := newG hG z8
    clear hG
    refine ⟨rfl, (by show 1 ≤ sizeLine; decide), fun p9 z9 => ?_⟩
    generalize hG : upd _ p9 _ = H9
    obtain ⟨e9, a9⟩ := newG hG z9
    clear hG
    refine ⟨p8, p9, _, _, rfl, rfl, e9 _ _ a8, a9, (by decide +kernel), fun p10 z10 => ?_⟩
    generalize hG : upd _ p10 _ = H10
    obtain ⟨e10, a10⟩ := newG hG z10
    clear hG
    have m10 := (((m6.trans e7).trans e8).trans e9).trans e10
    have a10' : H10 p10 = some (.lst (LL.map V.str)) := by
      unfold LL
      rw [List.map_append, List.map_append]; exact a10
    clear e7 e8 e9 e10 a8 a9 a10 at7
    -- none of them is told otherwise
    refine ⟨_, rfl, p10, rfl, ⟨_, SqL.of a10'⟩, fun D11 nD11 => ?_⟩
    refine lc_any (f := fun _ => none) (gives_list (SqL.of a10')) nD11 (by rw [List.length_map]; exact Nat.le_trans LL_len (by decide)) (fun x H' Post mem sm y1 y2 => ?_) fun H11 e11 at11 => ?_
    · obtain ⟨z, hz, rfl⟩ := List.mem_map.mp mem
      refine ⟨rfl, ?_⟩
      refine ⟨_, rfl, .str z, some z, rfl, .str z, (fun z' e => by cases e; exact (LL_tx z hz).up (by decide)), fun H'' sm2 => ⟨_, rfl, ?_⟩⟩
      exact y2 H'' rfl sm2
    · rw [show (LL.map V.str).filterMap (fun _ => (none : Option V)) = ([] : List Str).map V.str by simp] at at11
      refine ⟨(by show 0 ≤ sizeLine; decide), fun p12 z12 => ?_⟩
      generalize hG : upd _ p12 _ = H12
      obtain ⟨e12, a12⟩ := newG hG z12
      clear hG
      refine ne_nil_of (zs := []) (SqL.of (e12 _ _ at11)) (SqL.of a12) (fun _ h => nomatch h) ⟨_, rfl, ?_⟩
      refine iteF ?_
      have m12 := (m10.trans e11).trans e12
      have sq12 := m12.seq sq
      clear e11 e12 at11 a12 m10
      refine ⟨_, rfl, q, _, rfl, .inl sq12, _, _, rfl, _, _, rfl, _, rfl, (by split <;> (try split) <;> omega), (by split <;> (try split) <;> omega), ?_⟩
      refine for_range (fun i σ H' => (∃ v3 v4 v5 v6 v7 v8, σ = [some (.ref q), some (.ref p10), none, v3, v4, v5, v6, v7, v8]) ∧ Same H12 H') ⟨⟨none, none, none, none, none, none, rfl⟩, Same.refl _⟩ ?_ ?_
      · rintro i σ H' hi ⟨⟨v3, v4, v5, v6, v7, v8, rfl⟩, sm⟩
        have hi' : i < 64 := by
          revert hi
          split <;> (try split) <;> omega
        have sq' := sm.seq sq12
        refine ⟨_, rfl, _, rfl, q, ns, _, rfl, sq', few, (by omega), (by omega), fun p Hb np sb pool => ?_⟩
        refine ⟨(by show 0 ≤ sizeLine; decide), fun qs zqs => ?_⟩
        have nqs : H' qs = none := sb.free zqs
        generalize hG : upd _ qs _ = Hc
        obtain ⟨ec, ac⟩ := newG hG zqs
        clear hG
        have sc := sb.trans ec
        have poolc := pool.same ec
        refine ⟨_, rfl, p, 9, rfl, poolc, (by decide), (by decide), fun r Hd r0 r1' butd poold => ?_⟩
        have ad : Hd qs = some (.lst (([] : List Str).map V.str)) := butd.at poolc ac (strs_ne [])
        have sd := same_but sc np butd
        refine ⟨_, _, rfl, rfl, _, rfl, (by omega), (by omega), ?_⟩
        refine for_range (fun j σ Hx => ∃ (zs : List Str) (v7' : Option V), σ = [some (.ref q), some (.ref p10), none, v3, some (.int (0 + (i : Int))), some (.ref p), some (.ref qs), v7', v8] ∧ Same H' Hx ∧ Pool Hx p ∧
          Hx qs = some (.lst (zs.map V.str)) ∧ zs.length = j ∧ ∀ z ∈ zs, Tx 8 z) ⟨[], v7, rfl, sd, poold, ad, rfl, fun _ h => nomatch h⟩ ?_ ?_
        · rintro j σ Hx hj ⟨zs, v7', rfl, sx, poolx, ax, lx, tx⟩
          refine ⟨_, rfl, .inl ⟨rfl, _, SqL.of ax⟩, ?_⟩
          refine ⟨_, rfl, p, 8, rfl, poolx, (by decide), (by decide), fun ra Hy ra0 ra1 buty pooly => ?_⟩
          refine ⟨_, _, rfl, rfl, _, rfl, abc, rfl, (by decide +kernel), (by show 3 ≤ sizeLine; decide), fun d nd => ?_⟩
          generalize hG : upd _ d _ = Hz
          obtain ⟨ez, az⟩ := newG hG nd
          clear hG
          have az' : Hz d = some (.lst ((zs3 ra).map V.str)) := az
          refine ⟨_, rfl, p, 3, rfl, pooly.same ez, (by decide), (by decide), fun rb Hw rb0 rb1 butw poolw => ?_⟩
          obtain ⟨y, hy, at_y⟩ := item_strs (zs := zs3 ra) rb0 rb1
          have aw := butw.at (pooly.same ez) az' (strs_ne _)
          have ay := buty.at poolx ax (strs_ne zs)
          have aqs := butw.at (pooly.same ez) (ez _ _ ay) (strs_ne zs)
          have sw := same_but ((same_but sx np buty).trans ez) np butw
          have dn : qs ≠ p := by
            rintro rfl
            obtain ⟨x1, x2, x3, e1, _⟩ := poolw
            rw [e1] at aqs
            exact strs_ne zs x1 x2 x3 (Option.some.inj aqs).symm
          refine ⟨d, _, rb, _, rfl, rfl, SqL.of aw, at_y, qs, _, _, rfl, rfl, aqs, (by rw [List.length_map, lx]; exact Nat.lt_of_lt_of_le (show j < 1000 by omega) (by decide)), ?_⟩
          refine ⟨zs ++ [y], _, rfl, same_put sw nqs, ?_, ?_, (by rw [List.length_append, lx]; rfl), fun z hz => ?_⟩
          · obtain ⟨x1, x2, x3, e1, e2⟩ := poolw
            exact ⟨x1, x2, x3, by rw [upd_ne (Ne.symm dn)]; exact e1, e2⟩
          · rw [upd_same, List.map_append]; rfl
          · rcases List.mem_append.mp hz with h | h
            · exact tx z h
            · rw [List.mem_singleton.mp h]; exact zs3_tx ra y hy
        · rintro σ Hx ⟨zs, v7', rfl, sx, poolx, ax, lx, tx⟩
          have l1 : 1 ≤ zs.length := by omega
          have l9 : zs.length ≤ 9 := by omega
          obtain ⟨z0, hz0⟩ : ∃ z0, zs[0]? = some z0 := ⟨zs[0], List.getElem?_eq_getElem (by omega)⟩
          have mem0 : z0 ∈ zs := List.mem_of_getElem? hz0
          have at0 : atI (zs.map V.str) 0 = some (.str z0) := atI_nat (j := 0) (by rw [List.getElem?_map, hz0]; rfl)
          have tj := join_tx zs tx
          have sj := sum_tx zs tx
          -- the path
          refine ⟨(by show 2 ≤ sizeLine; decide), fun d nd => ?_⟩
          generalize hG : upd _ d _ = Ha
          obtain ⟨ea, aa⟩ := newG hG nd
          clear hG
          have aa' : Ha d = some (.lst (tops.map V.str)) := aa
          have poola := poolx.same ea
          refine ⟨_, rfl, p, 2, rfl, poola, (by decide), (by decide), fun rt He rt0 rt1 bute poole => ?_⟩
          obtain ⟨y, hy, at_y⟩ := item_strs (zs := tops) rt0 rt1
          have ae := bute.at poola aa' (strs_ne _)
          have aqe := bute.at poola (ea _ _ ax) (strs_ne zs)
          have se := same_but (sx.trans ea) np bute
          have ty := tops_tx y hy
          have tp := app_tx ty tj
          have szp : (Txt.join (Str.ofString "/") zs).length ≤ 81 := Nat.le_trans tj.1 (by omega)
          have szy : y.length ≤ 1 := ty.1
          refine ⟨d, _, rt, _, rfl, rfl, SqL.of ae, at_y, ⟨_, rfl⟩, _, rfl, _, qs, zs, rfl, rfl, .inl (SqL.of aqe), ?_, ?_⟩
          · rw [show (Str.ofString "/").length = 1 by decide +kernel]; omega
          refine ⟨_, _, rfl, rfl, Nat.le_trans (Nat.add_le_add szy szp) (by decide), ?_⟩
          -- five things
          refine ⟨_, rfl, _, rfl, qs, _, 0, _, rfl, rfl, SqL.of aqe, at0, ?_⟩
          refine ⟨_, rfl, _, rfl, p, _, rfl, poole, tp.up (by omega), fun y1 Hf ty1 butf poolf => ?_⟩
          have aqf := butf.at poole aqe (strs_ne zs)
          refine ⟨_, rfl, _, rfl, qs, _, 0, _, rfl, rfl, SqL.of aqf, at0, p, _, rfl, poolf, (tx z0 mem0).up (by decide), fun y2 Hg ty2 butg poolg => ?_⟩
          refine ⟨_, rfl, p, rfl, poolg, fun x o Hh kdx txo buth poolh => ?_⟩
          have sh := same_but (same_but (same_but se np butf) np butg) np buth
          refine ⟨(by show 5 ≤ sizeLine; decide), fun pl npl => ?_⟩
          generalize hG : upd _ pl _ = Hl
          obtain ⟨el, al⟩ := newG hG npl
          clear hG
          have kds : ∀ v ∈ [V.str (y ++ Txt.join (Str.ofString "/") zs), V.str z0, V.str y1, V.str y2, x], ∃ o, Kd K Hl v o ∧ ∀ z, o = some z → Tx 990 z := by
            intro v hv
            simp only [List.mem_cons, List.not_mem_nil, or_false] at hv
            rcases hv with h | h | h | h | h
            · exact ⟨_, by rw [h]; exact .str _, fun z e => by cases e; exact tp.up (by omega)⟩
            · exact ⟨_, by rw [h]; exact .str _, fun z e => by cases e; exact (tx z0 mem0).up (by decide)⟩
            · exact ⟨_, by rw [h]; exact .str _, fun z e => by cases e; exact ty1.up (by decide)⟩
            · exact ⟨_, by rw [h]; exact .str _, fun z e => by cases e; exact ty2.up (by decide)⟩
            · exact ⟨o, by rw [h]; exact same_kd el kdx, fun z e => (txo z e).up (by decide)⟩
          refine ⟨pl, rfl, ⟨_, SqL.of al⟩, ?_⟩
          refine for_list (K := K) (a := pl) (xs := [V.str (y ++ Txt.join (Str.ofString "/") zs), V.str z0, V.str y1, V.str y2, x]) (fun j σ Hm => (∃ w3 w8, σ = [some (.ref q), some (.ref p10), none, w3, some (.int (0 + (i : Int))), some (.ref p), some (.ref qs), v7', w8]) ∧ Same Hl Hm)
            ⟨⟨_, _, rfl⟩, Same.refl _⟩ (fun j σ Hm _ ⟨_, s⟩ => s.seq (SqL.of al)) ?_ ?_
          · rintro j v σ Hm hv ⟨⟨w3, w8, rfl⟩, s⟩
            obtain ⟨ov, kdv, txv⟩ := kds v (List.mem_of_getElem? hv)
            refine ⟨_, rfl, v, ov, rfl, same_kd s kdv, txv, fun Hn sn => ⟨_, rfl, ?_⟩⟩
            exact ⟨⟨_, _, rfl⟩, s.trans sn⟩
          · rintro σ Hm ⟨⟨w3, w8, rfl⟩, s⟩
            exact ⟨⟨_, _, _, _, _, _, rfl⟩, ((sm.trans sh).trans el).trans s⟩
      · rintro σ H' ⟨⟨v3, v4, v5, v6, v7, v8, rfl⟩, sm⟩
        exact k H'
end
end K1
end

section
open PySem PySem.Spec PyProof.Rows L2 Hv
namespace K1
theorem all_mk {l : PySem.W.OpenLaw} {w : World} {K : PySem.W.Frag} {h : Heap} {mg : Str → Option Value} {fa f_is_name f_is_path f_is_signs f_are_steps f_is_step f_begun f_take f_lis_name f_lsteps f_lodd f_lis_signs f_bent f_right f_all_signs f_law : Addr} (X : K.In h) (G : h.Ns mainGlobals mg) (hfa : mg "law" = some (.ref fa))
    {od_is_name an_is_name : Option Addr} {sl_is_name : Array (Option Value)} {oc_is_name kV_is_name dc_is_name pm_is_name cd_is_name ct_is_name : Value}
    {od_is_path an_is_path : Option Addr} {sl_is_path : Array (Option Value)} {oc_is_path kV_is_path dc_is_path pm_is_path cd_is_path ct_is_path : Value}
    {od_is_signs an_is_signs : Option Addr} {sl_is_signs : Array (Option Value)} {oc_is_signs kV_is_signs dc_is_signs pm_is_signs cd_is_signs ct_is_signs : Value}
    {od_are_steps an_are_steps : Option Addr} {sl_are_steps : Array (Option Value)} {oc_are_steps kV_are_steps dc_are_steps pm_are_steps cd_are_steps ct_are_steps : Value}
    {od_is_step an_is_step : Option Addr} {sl_is_step : Array (Option Value)} {oc_is_step kV_is_step dc_is_step pm_is_step cd_is_step ct_is_step : Value}
    {od_begun an_begun : Option Addr} {sl_begun : Array (Option Value)} {oc_begun kV_begun dc_begun pm_begun cd_begun ct_begun : Value}
    {od_take an_take : Option Addr} {sl_take : Array (Option Value)} {oc_take kV_take dc_take pm_take cd_take ct_take : Value}
    {od_lis_name an_lis_name : Option Addr} {sl_lis_name : Array (Option Value)} {oc_lis_name kV_lis_name dc_lis_name pm_lis_name cd_lis_name ct_lis_name : Value}
    {od_lsteps an_lsteps : Option Addr} {sl_lsteps : Array (Option Value)} {oc_lsteps kV_lsteps dc_lsteps pm_lsteps cd_lsteps ct_lsteps : Value}
    {od_lodd an_lodd : Option Addr} {sl_lodd : Array (Option Value)} {oc_lodd kV_lodd dc_lodd pm_lodd cd_lodd ct_lodd : Value}
    {od_lis_signs an_lis_signs : Option Addr} {sl_lis_signs : Array (Option Value)} {oc_lis_signs kV_lis_signs dc_lis_signs pm_lis_signs cd_lis_signs ct_lis_signs : Value}
    {od_bent an_bent : Option Addr} {sl_bent : Array (Option Value)} {oc_bent kV_bent dc_bent pm_bent cd_bent ct_bent : Value}
    {od_right an_right : Option Addr} {sl_right : Array (Option Value)} {oc_right kV_right dc_right pm_right cd_right ct_right : Value}
    {od_all_signs an_all_signs : Option Addr} {sl_all_signs : Array (Option Value)} {oc_all_signs kV_all_signs dc_all_signs pm_all_signs cd_all_signs ct_all_signs : Value}
    {od_law an_law : Option Addr} {sl_law : Array (Option Value)} {oc_law kV_law dc_law pm_law cd_law ct_law : Value}
    {tk_0 : Tok} (c_0 : PySem.W.nsIn K mainGlobals "MOST_LETTERS" = some (some (.int 8 tk_0)))
    {tk_1 : Tok} (c_1 : PySem.W.nsIn K mainGlobals "MOST_STEPS" = some (some (.int 8 tk_1)))
    {tk_2 : Tok} (c_2 : PySem.W.nsIn K mainGlobals "MOST_SIGNS" = some (some (.int 200 tk_2)))
    {tk_3 : Tok} (c_3 : PySem.W.nsIn K mainGlobals "TOP" = some (some (.str "/" tk_3)))
    {tk_4 : Tok} (c_4 : PySem.W.nsIn K mainGlobals "HERE" = some (some (.str "." tk_4)))
    {tk_5 : Tok} (c_5 : PySem.W.nsIn K mainGlobals "UP" = some (some (.str ".." tk_5)))
    (z_0 : PySem.W.nsIn K mainGlobals "isinstance" = some none)
    (z_1 : PySem.W.nsIn K mainGlobals "str" = some none)
    (z_2 : PySem.W.nsIn K mainGlobals "len" = some none)
    (z_3 : PySem.W.nsIn K mainGlobals "all" = some none)
    (z_4 : PySem.W.nsIn K mainGlobals "max" = some none)
    (z_5 : PySem.W.nsIn K mainGlobals "int" = some none)
    (z_6 : PySem.W.nsIn K mainGlobals "range" = some none)
    (z_7 : PySem.W.nsIn K mainGlobals "min" = some none)
    (z_8 : PySem.W.nsIn K mainGlobals "ord" = some none)
    (z_9 : PySem.W.nsIn K mainGlobals "tuple" = some none)
    (z_10 : PySem.W.nsIn K mainGlobals "repr" = some none)
    (a_is_name : PySem.W.nsIn K mainGlobals "is_name" = some (some (.ref f_is_name))) (l_is_name : K.lookup f_is_name = some ⟨oc_is_name, od_is_name, .func (PySem.W.fnOf "is_name" "is_name" (defArgs s_is_name) (defBody s_is_name) (defScope s_is_name) .none kV_is_name dc_is_name pm_is_name an_is_name cd_is_name ct_is_name), sl_is_name⟩) (d_is_name : PySem.W.codeIn K cd_is_name "is_name" = true) (k_is_name : PySem.W.keepIn K (.ref f_is_name) = true)
    (a_is_path : PySem.W.nsIn K mainGlobals "is_path" = some (some (.ref f_is_path))) (l_is_path : K.lookup f_is_path = some ⟨oc_is_path, od_is_path, .func (PySem.W.fnOf "is_path" "is_path" (defArgs s_is_path) (defBody s_is_path) (defScope s_is_path) .none kV_is_path dc_is_path pm_is_path an_is_path cd_is_path ct_is_path), sl_is_path⟩) (d_is_path : PySem.W.codeIn K cd_is_path "is_path" = true) (k_is_path : PySem.W.keepIn K (.ref f_is_path) = true)
    (a_is_signs : PySem.W.nsIn K mainGlobals "is_signs" = some (some (.ref f_is_signs))) (l_is_signs : K.lookup f_is_signs = some ⟨oc_is_signs, od_is_signs, .func (PySem.W.fnOf "is_signs" "is_signs" (defArgs s_is_signs) (defBody s_is_signs) (defScope s_is_signs) .none kV_is_signs dc_is_signs pm_is_signs an_is_signs cd_is_signs ct_is_signs), sl_is_signs⟩) (d_is_signs : PySem.W.codeIn K cd_is_signs "is_signs" = true) (k_is_signs : PySem.W.keepIn K (.ref f_is_signs) = true)
    (a_are_steps : PySem.W.nsIn K mainGlobals "_are_steps" = some (some (.ref f_are_steps))) (l_are_steps : K.lookup f_are_steps = some ⟨oc_are_steps, od_are_steps, .func (PySem.W.fnOf "_are_steps" "_are_steps" (defArgs s_are_steps) (defBody s_are_steps) (defScope s_are_steps) .none kV_are_steps dc_are_steps pm_are_steps an_are_steps cd_are_steps ct_are_steps), sl_are_steps⟩) (d_are_steps : PySem.W.codeIn K cd_are_steps "_are_steps" = true) (k_are_steps : PySem.W.keepIn K (.ref f_are_steps) = true)
    (a_is_step : PySem.W.nsIn K mainGlobals "_is_step" = some (some (.ref f_is_step))) (l_is_step : K.lookup f_is_step = some ⟨oc_is_step, od_is_step, .func (PySem.W.fnOf "_is_step" "_is_step" (defArgs s_is_step) (defBody s_is_step) (defScope s_is_step) .none kV_is_step dc_is_step pm_is_step an_is_step cd_is_step ct_is_step), sl_is_step⟩) (d_is_step : PySem.W.codeIn K cd_is_step "_is_step" = true) (k_is_step : PySem.W.keepIn K (.ref f_is_step) = true)
    (a_begun : PySem.W.nsIn K mainGlobals "_law_begun" = some (some (.ref f_begun))) (l_begun : K.lookup f_begun = some ⟨oc_begun, od_begun, .func (PySem.W.fnOf "_law_begun" "_law_begun" (defArgs s_begun) (defBody s_begun) (defScope s_begun) .none kV_begun dc_begun pm_begun an_begun cd_begun ct_begun), sl_begun⟩) (d_begun : PySem.W.codeIn K cd_begun "_law_begun" = true) (k_begun : PySem.W.keepIn K (.ref f_begun) = true)
    (a_take : PySem.W.nsIn K mainGlobals "_law_take" = some (some (.ref f_take))) (l_take : K.lookup f_take = some ⟨oc_take, od_take, .func (PySem.W.fnOf "_law_take" "_law_take" (defArgs s_take) (defBody s_take) (defScope s_take) .none kV_take dc_take pm_take an_take cd_take ct_take), sl_take⟩) (d_take : PySem.W.codeIn K cd_take "_law_take" = true) (k_take : PySem.W.keepIn K (.ref f_take) = true)
    (a_lis_name : PySem.W.nsIn K mainGlobals "_law_is_name" = some (some (.ref f_lis_name))) (l_lis_name : K.lookup f_lis_name = some ⟨oc_lis_name, od_lis_name, .func (PySem.W.fnOf "_law_is_name" "_law_is_name" (defArgs s_lis_name) (defBody s_lis_name) (defScope s_lis_name) .none kV_lis_name dc_lis_name pm_lis_name an_lis_name cd_lis_name ct_lis_name), sl_lis_name⟩) (d_lis_name : PySem.W.codeIn K cd_lis_name "_law_is_name" = true) (k_lis_name : PySem.W.keepIn K (.ref f_lis_name) = true)
    (a_lsteps : PySem.W.nsIn K mainGlobals "_law_steps" = some (some (.ref f_lsteps))) (l_lsteps : K.lookup f_lsteps = some ⟨oc_lsteps, od_lsteps, .func (PySem.W.fnOf "_law_steps" "_law_steps" (defArgs s_lsteps) (defBody s_lsteps) (defScope s_lsteps) .none kV_lsteps dc_lsteps pm_lsteps an_lsteps cd_lsteps ct_lsteps), sl_lsteps⟩) (d_lsteps : PySem.W.codeIn K cd_lsteps "_law_steps" = true) (k_lsteps : PySem.W.keepIn K (.ref f_lsteps) = true)
    (a_lodd : PySem.W.nsIn K mainGlobals "_law_odd" = some (some (.ref f_lodd))) (l_lodd : K.lookup f_lodd = some ⟨oc_lodd, od_lodd, .func (PySem.W.fnOf "_law_odd" "_law_odd" (defArgs s_lodd) (defBody s_lodd) (defScope s_lodd) .none kV_lodd dc_lodd pm_lodd an_lodd cd_lodd ct_lodd), sl_lodd⟩) (d_lodd : PySem.W.codeIn K cd_lodd "_law_odd" = true) (k_lodd : PySem.W.keepIn K (.ref f_lodd) = true)
    (a_lis_signs : PySem.W.nsIn K mainGlobals "_law_is_signs" = some (some (.ref f_lis_signs))) (l_lis_signs : K.lookup f_lis_signs = some ⟨oc_lis_signs, od_lis_signs, .func (PySem.W.fnOf "_law_is_signs" "_law_is_signs" (defArgs s_lis_signs) (defBody s_lis_signs) (defScope s_lis_signs) .none kV_lis_signs dc_lis_signs pm_lis_signs an_lis_signs cd_lis_signs ct_lis_signs), sl_lis_signs⟩) (d_lis_signs : PySem.W.codeIn K cd_lis_signs "_law_is_signs" = true) (k_lis_signs : PySem.W.keepIn K (.ref f_lis_signs) = true)
    (a_bent : PySem.W.nsIn K mainGlobals "_law_bent" = some (some (.ref f_bent))) (l_bent : K.lookup f_bent = some ⟨oc_bent, od_bent, .func (PySem.W.fnOf "_law_bent" "_law_bent" (defArgs s_bent) (defBody s_bent) (defScope s_bent) .none kV_bent dc_bent pm_bent an_bent cd_bent ct_bent), sl_bent⟩) (d_bent : PySem.W.codeIn K cd_bent "_law_bent" = true) (k_bent : PySem.W.keepIn K (.ref f_bent) = true)
    (a_right : PySem.W.nsIn K mainGlobals "_law_right" = some (some (.ref f_right))) (l_right : K.lookup f_right = some ⟨oc_right, od_right, .func (PySem.W.fnOf "_law_right" "_law_right" (defArgs s_right) (defBody s_right) (defScope s_right) .none kV_right dc_right pm_right an_right cd_right ct_right), sl_right⟩) (d_right : PySem.W.codeIn K cd_right "_law_right" = true) (k_right : PySem.W.keepIn K (.ref f_right) = true)
    (a_all_signs : PySem.W.nsIn K mainGlobals "_law_all_signs" = some (some (.ref f_all_signs))) (l_all_signs : K.lookup f_all_signs = some ⟨oc_all_signs, od_all_signs, .func (PySem.W.fnOf "_law_all_signs" "_law_all_signs" (defArgs s_all_signs) (defBody s_all_signs) (defScope s_all_signs) .none kV_all_signs dc_all_signs pm_all_signs an_all_signs cd_all_signs ct_all_signs), sl_all_signs⟩) (d_all_signs : PySem.W.codeIn K cd_all_signs "_law_all_signs" = true) (k_all_signs : PySem.W.keepIn K (.ref f_all_signs) = true)
    (a_law : PySem.W.nsIn K mainGlobals "law" = some (some (.ref f_law))) (l_law : K.lookup f_law = some ⟨oc_law, od_law, .func (PySem.W.fnOf "law" "law" (defArgs s_law) (defBody s_law) (defScope s_law) .none kV_law dc_law pm_law an_law cd_law ct_law), sl_law⟩) (d_law : PySem.W.codeIn K cd_law "law" = true) (k_law : PySem.W.keepIn K (.ref f_law) = true)
    : ∃ fd : FuncData, (∀ (s : Shared) (v : Value), BindsTo s fd ⟨[v], []⟩ [("_law_script", v)]) ∧ ∀ base : Heap, K.In base → base.Ns mainGlobals mg → Hv.Keeps l.prog w K mg base CX0 6 fa fd ["_law_script"] (spLaw K) := by
  have e := hfa.symm.trans (PySem.W.mg_of X G a_law)
  cases e
  have F_is_name := fun_mk (st := s_is_name) l_is_name d_is_name k_is_name
  have F_is_path := fun_mk (st := s_is_path) l_is_path d_is_path k_is_path
  have F_is_signs := fun_mk (st := s_is_signs) l_is_signs d_is_signs k_is_signs
  have F_are_steps := fun_mk (st := s_are_steps) l_are_steps d_are_steps k_are_steps
  have F_is_step := fun_mk (st := s_is_step) l_is_step d_is_step k_is_step
  have F_begun := fun_mk (st := s_begun) l_begun d_begun k_begun
  have F_take := fun_mk (st := s_take) l_take d_take k_take
  have F_lis_name := fun_mk (st := s_lis_name) l_lis_name d_lis_name k_lis_name
  have F_lsteps := fun_mk (st := s_lsteps) l_lsteps d_lsteps k_lsteps
  have F_lodd := fun_mk (st := s_lodd) l_lodd d_lodd k_lodd
  have F_lis_signs := fun_mk (st := s_lis_signs) l_lis_signs d_lis_signs k_lis_signs
  have F_bent := fun_mk (st := s_bent) l_bent d_bent k_bent
  have F_right := fun_mk (st := s_right) l_right d_right k_right
  have F_all_signs := fun_mk (st := s_all_signs) l_all_signs d_all_signs k_all_signs
  have F_law := fun_mk (st := s_law) l_law d_law k_law
  let a : Ad := ⟨f_is_name, f_is_path, f_is_signs, f_are_steps, f_is_step⟩
  let L : Al := ⟨f_begun, f_take, f_lis_name, f_lsteps, f_lodd, f_lis_signs, f_bent, f_right, f_all_signs⟩
  have T : Txt K mg a := ⟨PySem.W.mg_none_of X G z_0, PySem.W.mg_none_of X G z_1, PySem.W.mg_none_of X G z_2, PySem.W.mg_none_of X G z_3, ⟨_, PySem.W.mg_of X G c_0⟩, ⟨_, PySem.W.mg_of X G c_1⟩, ⟨_, PySem.W.mg_of X G c_2⟩, ⟨_, PySem.W.mg_of X G c_3⟩, ⟨_, PySem.W.mg_of X G c_4⟩, ⟨_, PySem.W.mg_of X G c_5⟩, PySem.W.mg_of X G a_is_name, PySem.W.mg_of X G a_is_step, PySem.W.mg_of X G a_are_steps, k_is_name, k_is_step, k_are_steps⟩
  have TB : TxtB mg := ⟨PySem.W.mg_none_of X G z_4, PySem.W.mg_none_of X G z_5, PySem.W.mg_none_of X G z_6⟩
  have TL : TxtL K mg L a := ⟨PySem.W.mg_none_of X G z_10, PySem.W.mg_of X G a_begun, PySem.W.mg_of X G a_take, PySem.W.mg_of X G a_lis_name, PySem.W.mg_of X G a_lsteps, PySem.W.mg_of X G a_lodd, PySem.W.mg_of X G a_lis_signs, PySem.W.mg_of X G a_bent, PySem.W.mg_of X G a_right, PySem.W.mg_of X G a_all_signs, PySem.W.mg_of X G a_is_path, PySem.W.mg_of X G a_is_signs, k_begun, k_take, k_lis_name, k_lsteps, k_lodd, k_lis_signs, k_bent, k_right, k_all_signs, k_is_path, k_is_signs⟩
  have B_is_name := F_is_name.binds (ps := ["thing"]) fun _ _ _ _ _ _ us hl => match us, hl with | [_], _ => rfl
  have B_is_path := F_is_path.binds (ps := ["thing"]) fun _ _ _ _ _ _ us hl => match us, hl with | [_], _ => rfl
  have B_is_signs := F_is_signs.binds (ps := ["thing"]) fun _ _ _ _ _ _ us hl => match us, hl with | [_], _ => rfl
  have B_are_steps := F_are_steps.binds (ps := ["things"]) fun _ _ _ _ _ _ us hl => match us, hl with | [_], _ => rfl
  have B_is_step := F_is_step.binds (ps := ["thing"]) fun _ _ _ _ _ _ us hl => match us, hl with | [_], _ => rfl
  have B_begun := F_begun.binds (ps := ["_law_script", "_law_k"]) fun _ _ _ _ _ _ us hl => match us, hl with | [_, _], _ => rfl
  have B_take := F_take.binds (ps := ["_law_state", "_law_many"]) fun _ _ _ _ _ _ us hl => match us, hl with | [_, _], _ => rfl
  have B_lis_name := F_lis_name.binds (ps := ["_law_thing"]) fun _ _ _ _ _ _ us hl => match us, hl with | [_], _ => rfl
  have B_lsteps := F_lsteps.binds (ps := ["_law_thing"]) fun _ _ _ _ _ _ us hl => match us, hl with | [_], _ => rfl
  have B_lodd := F_lodd.binds (ps := ["_law_state"]) fun _ _ _ _ _ _ us hl => match us, hl with | [_], _ => rfl
  have B_lis_signs := F_lis_signs.binds (ps := ["_law_thing"]) fun _ _ _ _ _ _ us hl => match us, hl with | [_], _ => rfl
  have B_bent := F_bent.binds (ps := ["_law_state", "_law_text"]) fun _ _ _ _ _ _ us hl => match us, hl with | [_, _], _ => rfl
  have B_right := F_right.binds (ps := ["_law_thing"]) fun _ _ _ _ _ _ us hl => match us, hl with | [_], _ => rfl
  have B_all_signs := F_all_signs.binds (ps := []) fun _ _ _ _ _ _ us hl => match us, hl with | [], _ => rfl
  refine ⟨PySem.W.fnOf "law" "law" (defArgs s_law) (defBody s_law) (defScope s_law) .none kV_law dc_law pm_law an_law cd_law ct_law, fun s v => .of_eq rfl, fun base _ _ => ?_⟩
  have G_is_name := ok_is_name (P := l.prog) (w := w) (base := base) F_is_name T
  have G_is_signs := ok_is_signs (P := l.prog) (w := w) (base := base) F_is_signs T
  have G_is_step := ok_is_step F_is_step T G_is_name B_is_name
  have G_are_steps := ok_are_steps F_are_steps T G_is_step B_is_step
  have G_is_path := ok_is_path F_is_path T G_are_steps B_are_steps
  have G_begun := ok_begun (P := l.prog) (w := w) (base := base) F_begun TB
  have G_take := ok_take (P := l.prog) (w := w) (K := K) (base := base) F_take TB
  have G_lis_name := ok_lis_name (P := l.prog) (w := w) (base := base) F_lis_name T
  have G_lis_signs := ok_lis_signs (P := l.prog) (w := w) (base := base) F_lis_signs T (PySem.W.mg_none_of X G z_8)
  have G_lsteps := ok_lsteps F_lsteps T TB (PySem.W.mg_none_of X G z_9) (PySem.W.mg_of X G a_lis_name) k_lis_name G_lis_name B_lis_name
  have G_right := ok_right F_right T TL G_is_name B_is_name G_is_path B_is_path G_is_signs B_is_signs G_lis_name B_lis_name G_lsteps B_lsteps G_lis_signs B_lis_signs
  have G_all_signs := ok_all_signs (P := l.prog) (w := w) (mg := mg) (base := base) F_all_signs
  have G_bent := ok_bent F_bent T TL G_take B_take
  have G_lodd := ok_lodd F_lodd TL G_take B_take
  exact ok_law F_law T TB TL (PySem.W.mg_none_of X G z_7) G_begun B_begun G_take B_take G_lodd B_lodd G_bent B_bent G_right B_right G_all_signs B_all_signs
end K1
open PySem PySem.W PyProof.Rows
set_option maxRecDepth 100000 in
set_option maxHeartbeats 0 in
theorem PySem.Challenge.cw_onehistory_k01_names_paths_signs_holds : PySem.Challenge.rw_onehistory_k01_names_paths_signs.Holds := by
  w_on; o_law; k_head; (case hw => w_witness2)
  k_fill
  refine Hv.walkK (l := PySem.Challenge.rw_onehistory_k01_names_paths_signs) (n := 63) (k := 6) (x := "_law_script") (sp := K1.spLaw) rfl (by decide) rfl ⟨rfl, by decide, by decide⟩ (fun w h Y => PySem.W.kIn_of Y) ?F ?S
  case F =>
    intro w mg fa h KX G hmg
    refine' K1.all_mk KX G hmg ?c_0 ?c_1 ?c_2 ?c_3 ?c_4 ?c_5 ?z_0 ?z_1 ?z_2 ?z_3 ?z_4 ?z_5 ?z_6 ?z_7 ?z_8 ?z_9 ?z_10 ?a_is_name ?l_is_name ?d_is_name ?k_is_name ?a_is_path ?l_is_path ?d_is_path ?k_is_path ?a_is_signs ?l_is_signs ?d_is_signs ?k_is_signs ?a_are_steps ?l_are_steps ?d_are_steps ?k_are_steps ?a_is_step ?l_is_step ?d_is_step ?k_is_step ?a_begun ?l_begun ?d_begun ?k_begun ?a_take ?l_take ?d_take ?k_take ?a_lis_name ?l_lis_name ?d_lis_name ?k_lis_name ?a_lsteps ?l_lsteps ?d_lsteps ?k_lsteps ?a_lodd ?l_lodd ?d_lodd ?k_lodd ?a_lis_signs ?l_lis_signs ?d_lis_signs ?k_lis_signs ?a_bent ?l_bent ?d_bent ?k_bent ?a_right ?l_right ?d_right ?k_right ?a_all_signs ?l_all_signs ?d_all_signs ?k_all_signs ?a_law ?l_law ?d_law ?k_law
    (case c_0 => k_is)
    (case c_1 => k_is)
    (case c_2 => k_is)
    (case c_3 => k_is)
    (case c_4 => k_is)
    (case c_5 => k_is)
    (case z_0 => k_is)
    (case z_1 => k_is)
    (case z_2 => k_is)
    (case z_3 => k_is)
    (case z_4 => k_is)
    (case z_5 => k_is)
    (case z_6 => k_is)
    (case z_7 => k_is)
    (case z_8 => k_is)
    (case z_9 => k_is)
    (case z_10 => k_is)
    (case a_is_name => k_is)
    (case l_is_name => k_is)
    (case d_is_name => k_is)
    (case k_is_name => k_is)
    (case a_is_path => k_is)
    (case l_is_path => k_is)
    (case d_is_path => k_is)
    (case k_is_path => k_is)
    (case a_is_signs => k_is)
    (case l_is_signs => k_is)
    (case d_is_signs => k_is)
    (case k_is_signs => k_is)
    (case a_are_steps => k_is)
    (case l_are_steps => k_is)
    (case d_are_steps => k_is)
    (case k_are_steps => k_is)
    (case a_is_step => k_is)
    (case l_is_step => k_is)
    (case d_is_step => k_is)
    (case k_is_step => k_is)
    (case a_begun => k_is)
    (case l_begun => k_is)
    (case d_begun => k_is)
    (case k_begun => k_is)
    (case a_take => k_is)
    (case l_take => k_is)
    (case d_take => k_is)
    (case k_take => k_is)
    (case a_lis_name => k_is)
    (case l_lis_name => k_is)
    (case d_lis_name => k_is)
    (case k_lis_name => k_is)
    (case a_lsteps => k_is)
    (case l_lsteps => k_is)
    (case d_lsteps => k_is)
    (case k_lsteps => k_is)
    (case a_lodd => k_is)
    (case l_lodd => k_is)
    (case d_lodd => k_is)
    (case k_lodd => k_is)
    (case a_lis_signs => k_is)
    (case l_lis_signs => k_is)
    (case d_lis_signs => k_is)
    (case k_lis_signs => k_is)
    (case a_bent => k_is)
    (case l_bent => k_is)
    (case d_bent => k_is)
    (case k_bent => k_is)
    (case a_right => k_is)
    (case l_right => k_is)
    (case d_right => k_is)
    (case k_right => k_is)
    (case a_all_signs => k_is)
    (case l_all_signs => k_is)
    (case d_all_signs => k_is)
    (case k_all_signs => k_is)
    (case a_law => k_is)
    (case l_law => k_is)
    (case d_law => k_is)
    (case k_law => k_is)
  case S =>
    intro K H a ns few bits only sq
    exact ⟨a, ns, rfl, sq, few, fun _ => rfl⟩
end
